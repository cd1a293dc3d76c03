/-
strings.IndexByte and strings.HasPrefix, laid off the shelf's contracts; the lexer's small questions of a byte. Conditions: none.
The lexer passes over white, and over notes. Conditions: the place lies within the text.
The lexer reads a byte of a text or a set. Conditions: the place lies within the text.
-/
import Derived.Test.YtbiempopfmpohaaLexRs
import Derived.Shelf.Small.Strs
import Derived.Shelf.Strings.Prefix
import Derived.Lib.IndexAny
import Derived.Lib.IndexLaws
namespace Go.Proofs.Ytbiempopfmpohaa
open Go.RowKit Go.Shelf

def ixbRen : Ren := ⟨fun | 137 => 78 | 217 => 89 | 266 => 100 | n => n, fun | 3 => 3 | 5 => 5 | 9 => 9 | n => n, fun n => n⟩

theorem ixbLays : Lays.n137 Try.prog ixbRen :=
  { mixed := by kernel_rfl
    f137 := by kernel_rfl
    f217 := by kernel_rfl
    f266 := by kernel_rfl
    t3 := by kernel_rfl
    a3 := fun _ => by kernel_rfl
    z3 := fun _ => by kernel_rfl
    v3 := fun _ => by kernel_rfl
    t5 := by kernel_rfl
    a5 := fun _ => by kernel_rfl
    z5 := fun _ => by kernel_rfl
    v5 := fun _ => by kernel_rfl
    t9 := by kernel_rfl
    a9 := fun _ => by kernel_rfl
    z9 := fun _ => by kernel_rfl
    v9 := fun _ => by kernel_rfl }
def hpreRen : Ren := ⟨fun | 99 => 84 | 206 => 94 | n => n, fun | 3 => 3 | 4 => 4 | 9 => 9 | n => n, fun n => n⟩

theorem hpreLays : Lays.n99 Try.prog hpreRen :=
  { mixed := by kernel_rfl
    f99 := by kernel_rfl
    f206 := by kernel_rfl
    t3 := by kernel_rfl
    a3 := fun _ => by kernel_rfl
    z3 := fun _ => by kernel_rfl
    v3 := fun _ => by kernel_rfl
    t4 := by kernel_rfl
    a4 := fun _ => by kernel_rfl
    z4 := fun _ => by kernel_rfl
    v4 := fun _ => by kernel_rfl
    t9 := by kernel_rfl
    a9 := fun _ => by kernel_rfl
    z9 := fun _ => by kernel_rfl
    v9 := fun _ => by kernel_rfl }

theorem ixb_any (s : ByteArray) (c : UInt8) (w : World) :
    Calls Try.prog 78 #[.string s, .int .u8 ((c.toNat : Nat) : Int)] w fun e w' => e = .returned (.int .i64 (Lib.indexByte (bl s) c)) ∧ w' = w := by
  have h := Any.strings_IndexByte ixbLays s ((c.toNat : Nat) : Int) w
  rw [show ((c.toNat : Nat) : Int).toNat.toUInt8 = c by simp] at h
  exact h
theorem hpre_any (s p : ByteArray) (w : World) :
    Calls Try.prog 84 #[.string s, .string p] w fun e w' => e = .returned (.bool (Lib.hasPrefix (bl s) (bl p))) ∧ w' = w :=
  Any.strings_HasPrefix hpreLays s p w

set_option maxRecDepth 100000 in
theorem lhas_any (s : ByteArray) (c : UInt8) (w : World) :
    Calls Try.prog 63 #[.string s, .int .u8 ((c.toNat : Nat) : Int)] w fun e w' => e = .returned (.bool ((bl s).contains c)) ∧ w' = w := by
  rw [Lib.contains_iff_indexByte]
  have H := Lib.hid (ixb_any s c w)
  generalize Lib.indexByte (bl s) c = m at *
  by_cases hm : 0 ≤ m
  · rw [decide_eq_true hm]
    go_enter Try.func63, Try.ntmps63
    go_wp2_with fail
    refine H.out.mono ?_
    rintro e w1 ⟨rfl, rfl⟩
    go_wp2
    go_ret
    exact ⟨rfl, rfl⟩
  · rw [decide_eq_false hm]
    go_enter Try.func63, Try.ntmps63
    go_wp2_with fail
    refine H.out.mono ?_
    rintro e w1 ⟨rfl, rfl⟩
    go_wp2
    go_ret
    exact ⟨congrArg (fun b => Ending.returned (Value.bool b)) (decide_eq_false (by omega)), rfl⟩

set_option maxRecDepth 100000 in
theorem isdigit_any (c : UInt8) (w : World) :
    Calls Try.prog 67 #[.int .u8 ((c.toNat : Nat) : Int)] w fun e w' => e = .returned (.bool (digitB c)) ∧ w' = w := by
  have e : digitB c = (decide (48 ≤ c.toNat) && decide (c.toNat ≤ 57)) := by
    unfold digitB
    simp only [UInt8.le_iff_toNat_le]
    rfl
  rw [e]
  generalize c.toNat = n at *
  by_cases h1 : 48 ≤ n
  · have i1 : (48 : Int) ≤ (n : Int) := by omega
    by_cases h2 : n ≤ 57
    · have i2 : (n : Int) ≤ 57 := by omega
      rw [decide_eq_true h1, decide_eq_true h2]
      go_enter Try.func67, Try.ntmps67
      go_wp2
      go_ret
      exact ⟨rfl, rfl⟩
    · have i2 : ¬ (n : Int) ≤ 57 := by omega
      rw [decide_eq_true h1, decide_eq_false h2]
      go_enter Try.func67, Try.ntmps67
      go_wp2
      go_ret
      exact ⟨rfl, rfl⟩
  · have i1 : ¬ (48 : Int) ≤ (n : Int) := by omega
    rw [decide_eq_false h1]
    go_enter Try.func67, Try.ntmps67
    go_wp2
    go_ret
    exact ⟨rfl, rfl⟩

/-- Within the range of what may stand as it is. -/
def rangeB (c : UInt8) : Bool := decide (32 ≤ c.toNat) && decide (c.toNat ≤ 126)
theorem plain_is (c : UInt8) : plainB c = (rangeB c && !sixB c) := by
  refine all_bytes (p := fun c => plainB c = (rangeB c && !sixB c)) ?_ c
  decide +kernel
set_option maxRecDepth 100000 in
theorem isplain_any (c : UInt8) (w : World) :
    Calls Try.prog 92 #[.int .u8 ((c.toNat : Nat) : Int)] w fun e w' => e = .returned (.bool (rangeB c)) ∧ w' = w := by
  unfold rangeB
  generalize c.toNat = n at *
  by_cases h1 : 32 ≤ n
  · have i1 : (32 : Int) ≤ (n : Int) := by omega
    by_cases h2 : n ≤ 126
    · have i2 : (n : Int) ≤ 126 := by omega
      rw [decide_eq_true h1, decide_eq_true h2]
      go_enter Try.func92, Try.ntmps92
      go_wp2
      go_ret
      exact ⟨rfl, rfl⟩
    · have i2 : ¬ (n : Int) ≤ 126 := by omega
      rw [decide_eq_true h1, decide_eq_false h2]
      go_enter Try.func92, Try.ntmps92
      go_wp2
      go_ret
      exact ⟨rfl, rfl⟩
  · have i1 : ¬ (32 : Int) ≤ (n : Int) := by omega
    rw [decide_eq_false h1]
    go_enter Try.func92, Try.ntmps92
    go_wp2
    go_ret
    exact ⟨rfl, rfl⟩

set_option maxRecDepth 100000 in
theorem isletter_any (c : UInt8) (w : World) :
    Calls Try.prog 65 #[.int .u8 ((c.toNat : Nat) : Int)] w fun e w' => e = .returned (.bool (letterB c)) ∧ w' = w := by
  rw [letter_is c]
  generalize c.toNat = n at *
  have hd : ((n : Int) == 95) = decide (n = 95) := by rw [Bool.eq_iff_iff]; simp; omega
  rcases Nat.lt_or_ge n 97 with h1 | h1
  · have i1 : ¬ (97 : Int) ≤ (n : Int) := by omega
    rw [decide_eq_false (by omega : ¬ 97 ≤ n)]
    rcases Nat.lt_or_ge n 65 with h2 | h2
    · have i2 : ¬ (65 : Int) ≤ (n : Int) := by omega
      rw [decide_eq_false (by omega : ¬ 65 ≤ n)]
      go_enter Try.func65, Try.ntmps65
      go_wp2
      go_ret
      exact ⟨rfl, rfl⟩
    · have i2 : (65 : Int) ≤ (n : Int) := by omega
      rw [decide_eq_true h2]
      by_cases h3 : n ≤ 90
      · have i3 : (n : Int) ≤ 90 := by omega
        rw [decide_eq_true h3]
        go_enter Try.func65, Try.ntmps65
        go_wp2
        go_ret
        exact ⟨rfl, rfl⟩
      · have i3 : ¬ (n : Int) ≤ 90 := by omega
        rw [decide_eq_false h3]
        go_enter Try.func65, Try.ntmps65
        go_wp2
        go_ret
        exact ⟨rfl, rfl⟩
  · have i1 : (97 : Int) ≤ (n : Int) := by omega
    rw [decide_eq_true h1]
    by_cases h2 : n ≤ 122
    · have i2 : (n : Int) ≤ 122 := by omega
      rw [decide_eq_true h2]
      go_enter Try.func65, Try.ntmps65
      go_wp2
      go_ret
      exact ⟨rfl, rfl⟩
    · have i2 : ¬ (n : Int) ≤ 122 := by omega
      have i3 : (65 : Int) ≤ (n : Int) := by omega
      have i4 : ¬ (n : Int) ≤ 90 := by omega
      rw [decide_eq_false h2, decide_eq_true (by omega : 65 ≤ n), decide_eq_false (by omega : ¬ n ≤ 90)]
      go_enter Try.func65, Try.ntmps65
      go_wp2
      go_ret
      exact ⟨rfl, rfl⟩

set_option maxRecDepth 100000 in
theorem stands_yes (s : ByteArray) (p : Nat) (hp : p < s.size) (c : UInt8) (w : World) :
    Calls Try.prog 80 #[.string s, .int .i64 (p : Int), .int .u8 ((c.toNat : Nat) : Int)] w fun e w' => e = .returned (.bool (s[p]'hp == c)) ∧ w' = w := by
  have hlti : (p : Int) < (s.size : Int) := by omega
  have p0 : (0 : Int) ≤ (p : Int) := by omega
  have np := UInt8.toNat_lt (s[p]'hp)
  have hd : (((s[p]'hp).toNat : Int) == ((c.toNat : Nat) : Int)) = (s[p]'hp == c) := by
    rw [Bool.eq_iff_iff, beq_iff_eq, beq_iff_eq]
    constructor
    · intro h; exact UInt8.toNat_inj.1 (by omega)
    · intro h; rw [h]
  go_enter Try.func80, Try.ntmps80
  go_wp2
  go_ret
  exact ⟨by rw [← hd]; rfl, rfl⟩
set_option maxRecDepth 100000 in
theorem stands_no (s : ByteArray) (p : Nat) (hp : s.size ≤ p) (c : UInt8) (w : World) :
    Calls Try.prog 80 #[.string s, .int .i64 (p : Int), .int .u8 ((c.toNat : Nat) : Int)] w fun e w' => e = .returned (.bool false) ∧ w' = w := by
  have hlti : ¬ (p : Int) < (s.size : Int) := by omega
  go_enter Try.func80, Try.ntmps80
  go_wp2
  go_ret
  exact ⟨rfl, rfl⟩
/-- Does a byte stand at a place? -/
def standB (s : ByteArray) (p : Nat) (c : UInt8) : Bool := ((bl s).drop p).head? == some c
theorem stands_any (s : ByteArray) (p : Nat) (c : UInt8) (w : World) :
    Calls Try.prog 80 #[.string s, .int .i64 (p : Int), .int .u8 ((c.toNat : Nat) : Int)] w fun e w' => e = .returned (.bool (standB s p c)) ∧ w' = w := by
  unfold standB
  by_cases h : p < s.size
  · rw [drop_byte s p h]
    have e : ((s[p]'h :: (bl s).drop (p + 1)).head? == some c) = (s[p]'h == c) := by
      rw [List.head?_cons, Bool.eq_iff_iff, beq_iff_eq, beq_iff_eq]
      exact ⟨fun e => Option.some.inj e, fun e => congrArg some e⟩
    rw [e]
    exact stands_yes s p h c w
  · rw [drop_end s p (by omega)]
    exact stands_no s p (by omega) c w
end Go.Proofs.Ytbiempopfmpohaa
namespace Go.Proofs.Ytbiempopfmpohaa
open Go.RowKit

/-- A note up to its end: told by the first 0a. -/
theorem line_index : ∀ l, lineN l = if Lib.indexByte l 10 = -1 then l.length else (Lib.indexByte l 10).toNat
  | [] => rfl
  | c :: r => by
    have ih := line_index r
    have hg := Lib.indexByte_ge r 10
    rw [lineN_cons, Lib.indexByte]
    by_cases hc : c = 10
    · subst hc
      simp
    · have hb : (c == 10) = false := by simpa using hc
      rw [if_neg hc, hb, ih]
      by_cases h : Lib.indexByte r 10 = -1
      · simp [h]
      · have hb2 : (Lib.indexByte r 10 == -1) = false := by simpa using h
        simp only [hb2, Bool.false_eq_true, if_false, if_neg h]
        rw [if_neg (by omega)]
        omega
theorem extract_end (s : ByteArray) (p : Nat) (hp : p ≤ s.size) : s.extract p s.size = mkS ((bl s).drop p) := by
  have h := extract_is s p (s.size - p)
  rw [show p + (s.size - p) = s.size by omega] at h
  rw [h, List.take_of_length_le]
  rw [List.length_drop, bl_length]
  omega

set_option maxRecDepth 100000 in
theorem note_any (s : ByteArray) (p : Nat) (hp : p ≤ s.size) (hs : s.size ≤ 140737488355328) (w : World) :
    Calls Try.prog 64 #[.string s, .int .i64 (p : Int)] w fun e w' => e = .returned (.int .i64 ((p + lineN ((bl s).drop p) : Nat) : Int)) ∧ w' = w := by
  have p0 : (0 : Int) ≤ (p : Int) := by omega
  have p1 : (p : Int) ≤ (s.size : Int) := by omega
  have HX := Lib.hid (extract_end s p hp)
  have HI := Lib.hid (fun W => ixb_any (s.extract p s.size) 10 W)
  have hll : ((bl s).drop p).length = s.size - p := by rw [List.length_drop, bl_length]
  have hle := lineN_le ((bl s).drop p)
  have HL := line_index ((bl s).drop p)
  have hge := Lib.indexByte_ge ((bl s).drop p) 10
  rw [HX.out, bl_mkS] at HI
  rw [hll] at HL hle
  rw [← HX.out] at HI
  generalize Lib.indexByte ((bl s).drop p) 10 = m at *
  generalize lineN ((bl s).drop p) = n at *
  by_cases hm : m = -1
  · rw [if_pos hm] at HL
    have hm0 : m < 0 := by omega
    have HN := Lib.hid (show p + n = s.size by omega)
    clear HL hle hge
    subst hm
    go_enter Try.func64, Try.ntmps64
    go_wp2_with fail
    refine (HI.out _).mono ?_
    rintro e w1 ⟨rfl, rfl⟩
    go_wp2
    go_ret
    exact ⟨by rw [HN.out]; rfl, rfl⟩
  · rw [if_neg hm] at HL
    have hm0 : ¬ m < 0 := by omega
    obtain ⟨k, rfl⟩ : ∃ k : Nat, m = (k : Int) := ⟨m.toNat, by omega⟩
    have HK := Lib.hid (show n = k by omega)
    have hks : p + k ≤ s.size := by omega
    clear HL hle hge hm
    go_enter Try.func64, Try.ntmps64
    go_wp2_with fail
    refine (HI.out _).mono ?_
    rintro e w1 ⟨rfl, rfl⟩
    go_wp2
    go_ret
    exact ⟨by rw [HK.out]; simp, rfl⟩

/-- A note ends at the line's end, which is white. -/
theorem skip_note (c : UInt8) (r : List UInt8) (h : c = 35) : skipN (c :: r) = lineN (c :: r) + skipN ((c :: r).drop (lineN (c :: r))) := by
  subst h
  rw [skipN_cons, if_pos rfl, lineN_cons, if_neg (by decide), List.drop_succ_cons]

set_option maxRecDepth 100000 in
set_option maxHeartbeats 1000000 in
theorem white_any (s : ByteArray) (p : Nat) (hp : p ≤ s.size) (hs : s.size ≤ 140737488355328) (w : World) :
    Calls Try.prog 54 #[.string s, .int .i64 (p : Int)] w fun e w' => e = .returned (.int .i64 ((p + skipN ((bl s).drop p) : Nat) : Int)) ∧ w' = w := by
  obtain ⟨r, hr⟩ : ∃ r, p + skipN ((bl s).drop p) = r := ⟨_, rfl⟩
  have HR := Lib.hid hr
  rw [hr]
  clear hr
  go_enter Try.func54, Try.ntmps54
  go_wp2
  go_loopw [1] (fun i wr => ∃ q : Nat, q ≤ s.size ∧ i = .int .i64 q ∧ q + skipN ((bl s).drop q) = r ∧ wr = w)
    (fun i _ => s.size - (intOf i).toNat)
  case atStart => exact ⟨p, hp, rfl, HR.out, rfl⟩
  case round =>
    obtain ⟨q, hq, rfl, hsk, rfl⟩ := hrel
    have HSK := Lib.hid hsk
    clear hsk HR
    have q0 : (0 : Int) ≤ (q : Int) := by omega
    by_cases hlt : q < s.size
    · have hlti : (q : Int) < (s.size : Int) := by omega
      have HD := Lib.hid (drop_byte s q hlt)
      have nb := UInt8.toNat_lt (s[q]'hlt)
      have HI := Lib.hid (fun W => lhas_any { data := #[32, 10, 13, 9] } (s[q]'hlt) W)
      rw [white_is] at HI
      cases hw : whiteB (s[q]'hlt) with
      | true =>
        rw [hw] at HI
        have hc : s[q]'hlt ≠ 35 := fun e => by rw [e] at hw; exact absurd hw (by decide)
        have HF := Lib.hid (show q + 1 + skipN ((bl s).drop (q + 1)) = r by
          have h1 := HSK.out
          rw [HD.out, skipN_cons, if_neg hc, if_pos hw] at h1
          omega)
        clear hw hc
        go_wp2_with fail
        refine (HI.out _).mono ?_
        rintro e w1 ⟨rfl, rfl⟩
        go_wp2
        go_roundw
        case rel => exact ⟨q + 1, by omega, by go_num, HF.out, trivial⟩
        case measure => simp [intOf]; omega
      | false =>
        rw [hw] at HI
        by_cases hc : s[q]'hlt = 35
        · obtain ⟨d1, d2⟩ := byte_is (n := 35) hc (by decide)
          have HN := Lib.hid (fun W => note_any s q hq hs W)
          have hln := lineN_le ((bl s).drop q)
          rw [List.length_drop, bl_length] at hln
          have hl1 : 0 < lineN ((bl s).drop q) := by rw [HD.out, lineN_cons, if_neg (by rw [hc]; decide)]; omega
          have HF := Lib.hid (show q + lineN ((bl s).drop q) + skipN ((bl s).drop (q + lineN ((bl s).drop q))) = r by
            have h1 := HSK.out
            rw [HD.out, skip_note _ _ hc, ← HD.out, List.drop_drop] at h1
            omega)
          generalize lineN ((bl s).drop q) = k at *
          clear hc hw
          go_wp2_with fail
          refine (HI.out _).mono ?_
          rintro e w1 ⟨rfl, rfl⟩
          go_wp2_with fail
          refine (HN.out _).mono ?_
          rintro e w1 ⟨rfl, rfl⟩
          go_wp2
          go_roundw
          case rel => exact ⟨q + k, by omega, rfl, HF.out, trivial⟩
          case measure => simp [intOf]; omega
        · obtain ⟨d1, d2⟩ := byte_no (n := 35) hc (by decide)
          have HF := Lib.hid (show q = r by
            have h1 := HSK.out
            rw [HD.out, skipN_cons, if_neg hc, if_neg (by rw [hw]; decide)] at h1
            omega)
          clear hc hw
          go_wp2_with fail
          refine (HI.out _).mono ?_
          rintro e w1 ⟨rfl, rfl⟩
          go_wp2
          go_ret
          exact ⟨by rw [← HF.out]; rfl, rfl⟩
    · obtain rfl : q = s.size := by omega
      have HF := Lib.hid (show s.size = r by rw [← HSK.out, drop_end s _ (Nat.le_refl _), skipN_nil, Nat.add_zero])
      go_wp2
      go_ret
      exact ⟨by rw [← HF.out]; rfl, rfl⟩
end Go.Proofs.Ytbiempopfmpohaa
namespace Go.Proofs.Ytbiempopfmpohaa
open Go.RowKit

/-- What read answers. -/
def readV (l : List UInt8) (p : Nat) : Value := match oneL l with
  | .ok (b, n) => .tuple #[.int .u8 ((b.toNat : Nat) : Int), .int .i64 ((p + n : Nat) : Int), .int .i64 0]
  | .error e => .tuple #[.int .u8 0, .int .i64 0, .int .i64 ((e : Nat) : Int)]
theorem readV_ok {l : List UInt8} {p : Nat} {b : UInt8} {n : Nat} (h : oneL l = .ok (b, n)) : readV l p = .tuple #[.int .u8 ((b.toNat : Nat) : Int), .int .i64 ((p + n : Nat) : Int), .int .i64 0] := by unfold readV; rw [h]
theorem readV_err {l : List UInt8} {p e : Nat} (h : oneL l = .error e) : readV l p = .tuple #[.int .u8 0, .int .i64 0, .int .i64 ((e : Nat) : Int)] := by unfold readV; rw [h]
theorem readV_form (l : List UInt8) (p : Nat) : ∃ (b a e : Int), readV l p = .tuple #[.int .u8 b, .int .i64 a, .int .i64 e] := by
  cases h : oneL l with
  | ok x => exact ⟨_, _, _, readV_ok (b := x.1) (n := x.2) h⟩
  | error e => exact ⟨_, _, _, readV_err h⟩
theorem six_index (c : UInt8) : Lib.indexByte (bl { data := #[48, 49, 50, 51, 52, 53, 54, 55, 56, 57, 97, 98, 99, 100, 101, 102] }) c = hexI c := by
  refine all_bytes (p := fun c => Lib.indexByte (bl { data := #[48, 49, 50, 51, 52, 53, 54, 55, 56, 57, 97, 98, 99, 100, 101, 102] }) c = hexI c) ?_ c
  decide +kernel
theorem marks_is (c : UInt8) : (bl { data := #[92, 34, 91, 93, 94, 45] }).contains c = sixB c := by
  refine all_bytes (p := fun c => (bl { data := #[92, 34, 91, 93, 94, 45] }).contains c = sixB c) ?_ c
  decide +kernel
theorem one_nil : oneL [92] = .error 6 := rfl
theorem one_x (l : List UInt8) : oneL (92 :: 120 :: l) = match l with
    | [] => .error 6
    | h :: r => match hexN h with
      | none => .error 4
      | some x => match r with
        | [] => .error 6
        | g :: _ => match hexN g with
          | none => .error 4
          | some y => .ok (UInt8.ofNat (16 * x + y), 4) := rfl
theorem one_x0 : oneL (92 :: 120 :: []) = .error 6 := rfl
theorem one_x1 {h : UInt8} (r : List UInt8) (hh : hexN h = none) : oneL (92 :: 120 :: h :: r) = .error 4 := by rw [one_x]; simp only [hh]
theorem one_x2 {h : UInt8} {x : Nat} (hh : hexN h = some x) : oneL (92 :: 120 :: h :: []) = .error 6 := by rw [one_x]; simp only [hh]
theorem one_x3 {h g : UInt8} {x : Nat} (r : List UInt8) (hh : hexN h = some x) (hg : hexN g = none) : oneL (92 :: 120 :: h :: g :: r) = .error 4 := by rw [one_x]; simp only [hh, hg]
theorem one_x4 {h g : UInt8} {x y : Nat} (r : List UInt8) (hh : hexN h = some x) (hg : hexN g = some y) : oneL (92 :: 120 :: h :: g :: r) = .ok (UInt8.ofNat (16 * x + y), 4) := by rw [one_x]; simp only [hh, hg]

set_option maxRecDepth 100000 in
set_option maxHeartbeats 1000000 in
theorem sixteens_any (s : ByteArray) (p q : Nat) (hq : q = p + 2) (hp : q ≤ s.size) (hs : s.size ≤ 140737488355328) (w : World) :
    Calls Try.prog 101 #[.string s, .int .i64 (q : Int)] w fun e w' => e = .returned (readV (92 :: 120 :: (bl s).drop q) p) ∧ w' = w := by
  have q0 : (0 : Int) ≤ (q : Int) := by omega
  have HQ := Lib.hid hq
  clear hq
  obtain ⟨v, hv⟩ : ∃ v, readV (92 :: 120 :: (bl s).drop q) p = v := ⟨_, rfl⟩
  have HV := Lib.hid hv
  have HE := Lib.hid (fun e (h : oneL (92 :: 120 :: (bl s).drop q) = .error e) => (hv.symm.trans (readV_err h)))
  rw [hv]
  clear hv
  go_enter Try.func101, Try.ntmps101
  go_wp2
  go_loopw [1, 7, 9] (fun at_ n i wr => (at_ = .int .i64 (q : Int) ∧ n = .int .i64 0 ∧ i = .int .i64 0 ∧ wr = w) ∨ (∃ (h : q < s.size) (x : Nat), x < 16 ∧ hexN (s[q]'h) = some x ∧ at_ = .int .i64 ((q : Int) + 1) ∧ n = .int .i64 ((x : Nat) : Int) ∧ i = .int .i64 1 ∧ wr = w) ∨ (∃ (h : q + 1 < s.size) (x y : Nat), x < 16 ∧ y < 16 ∧ hexN (s[q]'(by omega)) = some x ∧ hexN (s[q + 1]'h) = some y ∧ at_ = .int .i64 ((q : Int) + 2) ∧ n = .int .i64 ((16 * x + y : Nat) : Int) ∧ i = .int .i64 2 ∧ wr = w))
    (fun _ _ i _ => 2 - (intOf i).toNat)
  case atStart => exact .inl ⟨rfl, rfl, rfl, rfl⟩
  case round =>
    rcases hrel with ⟨rfl, rfl, rfl, rfl⟩ | ⟨h, x, hx16, hx, rfl, rfl, rfl, rfl⟩ | ⟨h, x, y, hx16, hy16, hx, hy, rfl, rfl, rfl, rfl⟩
    · by_cases hlt : q < s.size
      · have hne : ((q : Int) == (s.size : Int)) = false := by simp; omega
        have hlti : (q : Int) < (s.size : Int) := by omega
        have nq := UInt8.toNat_lt (s[q]'hlt)
        have HI := Lib.hid (fun W => ixb_any { data := #[48, 49, 50, 51, 52, 53, 54, 55, 56, 57, 97, 98, 99, 100, 101, 102] } (s[q]'hlt) W)
        rw [six_index] at HI
        cases hh : hexN (s[q]'hlt) with
        | none =>
          rw [hexI_none hh] at HI
          have HO := Lib.hid (HE.out 4 (by rw [drop_byte s q hlt]; exact one_x1 _ hh))
          clear hh HV HE
          go_wp2_with fail
          refine (HI.out _).mono ?_
          rintro e w1 ⟨rfl, rfl⟩
          go_wp2
          go_ret3
          exact ⟨by rw [HO.out]; rfl, rfl⟩
        | some x =>
          rw [hexI_some hh] at HI
          have hx := hexN_lt _ _ hh
          have hx0 : ¬ ((x : Nat) : Int) < 0 := by omega
          go_wp2_with fail
          refine (HI.out _).mono ?_
          rintro e w1 ⟨rfl, rfl⟩
          go_wp2
          go_roundw
          case rel => exact .inr (.inl ⟨hlt, x, hx, hh, rfl, by simp, rfl, trivial⟩)
          case measure => simp [intOf]
      · have hge : ((q : Int) == (s.size : Int)) = true := by simp; omega
        have HO := Lib.hid (HE.out 6 (by rw [drop_end s q (by omega)]; rfl))
        go_wp2
        go_ret3
        exact ⟨by rw [HO.out]; rfl, rfl⟩
    · by_cases hlt : q + 1 < s.size
      · have hne : (((q : Int) + 1) == (s.size : Int)) = false := by simp; omega
        have hlti : (q : Int) + 1 < (s.size : Int) := by omega
        have nq := UInt8.toNat_lt (s[q + 1]'hlt)
        have HI := Lib.hid (fun W => ixb_any { data := #[48, 49, 50, 51, 52, 53, 54, 55, 56, 57, 97, 98, 99, 100, 101, 102] } (s[q + 1]'hlt) W)
        rw [six_index] at HI
        cases hh : hexN (s[q + 1]'hlt) with
        | none =>
          rw [hexI_none hh] at HI
          have HO := Lib.hid (HE.out 4 (by rw [drop_byte s q h, drop_byte s (q + 1) hlt]; exact one_x3 _ hx hh))
          clear hh HV HE
          go_wp2_with fail
          refine (HI.out _).mono ?_
          rintro e w1 ⟨rfl, rfl⟩
          go_wp2
          go_ret3
          exact ⟨by rw [HO.out]; rfl, rfl⟩
        | some y =>
          rw [hexI_some hh] at HI
          have hy := hexN_lt _ _ hh
          have hx0 : ¬ ((y : Nat) : Int) < 0 := by omega
          go_wp2_with fail
          refine (HI.out _).mono ?_
          rintro e w1 ⟨rfl, rfl⟩
          go_wp2
          go_roundw
          case rel => exact .inr (.inr ⟨hlt, x, y, hx16, hy, hx, hh, by first | rfl | (go_num; done), by first | (go_num; done) | rfl | (simp; done), rfl, trivial⟩)
          case measure => simp [intOf]
      · have hge : (((q : Int) + 1) == (s.size : Int)) = true := by simp; omega
        have HO := Lib.hid (HE.out 6 (by rw [drop_byte s q h, drop_end s (q + 1) (by omega)]; exact one_x2 hx))
        go_wp2
        go_ret3
        exact ⟨by rw [HO.out]; rfl, rfl⟩
    · have hb : (UInt8.ofNat (16 * x + y)).toNat = 16 * x + y := by simp; omega
      have HO := Lib.hid (show v = .tuple #[.int .u8 ((16 * x + y : Nat) : Int), .int .i64 ((q + 2 : Nat) : Int), .int .i64 0] by
        rw [← HV.out, drop_byte s q (by omega), drop_byte s (q + 1) h, readV_ok (one_x4 _ hx hy), hb, HQ.out])
      clear hb hx hy HV HE
      go_wp2
      go_ret3
      exact ⟨by rw [HO.out]; rfl, rfl⟩

theorem ntr_is (c : UInt8) : Lib.indexByte (bl { data := #[110, 116, 114] }) c = if c = 110 then 0 else if c = 116 then 1 else if c = 114 then 2 else -1 := by
  refine all_bytes (p := fun c => Lib.indexByte (bl { data := #[110, 116, 114] }) c = if c = 110 then 0 else if c = 116 then 1 else if c = 114 then 2 else -1) ?_ c
  decide +kernel
theorem one_n (r : List UInt8) : oneL (92 :: 110 :: r) = .ok (10, 2) := rfl
theorem one_t (r : List UInt8) : oneL (92 :: 116 :: r) = .ok (9, 2) := rfl
theorem one_r (r : List UInt8) : oneL (92 :: 114 :: r) = .ok (13, 2) := rfl
theorem one_mark {d : UInt8} (r : List UInt8) (h : sixB d = true) : oneL (92 :: d :: r) = .ok (d, 2) := by
  have e : oneL (92 :: d :: r) = if sixB d then .ok (d, 2) else if d = 110 then .ok (10, 2) else if d = 116 then .ok (9, 2) else if d = 114 then .ok (13, 2) else if d = 120 then oneL (92 :: 120 :: r) else .error 4 := rfl
  rw [e, if_pos h]
theorem one_bad {d : UInt8} (r : List UInt8) (h : sixB d = false) (h1 : d ≠ 110) (h2 : d ≠ 116) (h3 : d ≠ 114) (h4 : d ≠ 120) : oneL (92 :: d :: r) = .error 4 := by
  have e : oneL (92 :: d :: r) = if sixB d then .ok (d, 2) else if d = 110 then .ok (10, 2) else if d = 116 then .ok (9, 2) else if d = 114 then .ok (13, 2) else if d = 120 then oneL (92 :: 120 :: r) else .error 4 := rfl
  rw [e, if_neg (by rw [h]; decide), if_neg h1, if_neg h2, if_neg h3, if_neg h4]

set_option maxRecDepth 100000 in
set_option maxHeartbeats 1000000 in
theorem behind_any (s : ByteArray) (p q : Nat) (hq : q = p + 1) (hp : q ≤ s.size) (hs : s.size ≤ 140737488355328) (w : World) :
    Calls Try.prog 91 #[.string s, .int .i64 (q : Int)] w fun e w' => e = .returned (readV (92 :: (bl s).drop q) p) ∧ w' = w := by
  have q0 : (0 : Int) ≤ (q : Int) := by omega
  by_cases hlt : q < s.size
  case neg =>
    have hge : ((q : Int) == (s.size : Int)) = true := by simp; omega
    rw [drop_end s q (by omega)]
    go_enter Try.func91, Try.ntmps91
    go_wp2
    go_ret3
    exact ⟨rfl, rfl⟩
  have hge : ((q : Int) == (s.size : Int)) = false := by simp; omega
  have hlti : (q : Int) < (s.size : Int) := by omega
  have HX := Lib.hid (fun W => sixteens_any s p (q + 1) (by omega) (by omega) hs W)
  have HQ := Lib.hid hq
  clear hq
  have HI := Lib.hid (fun W => ixb_any { data := #[110, 116, 114] } (s[q]'hlt) W)
  have HM := Lib.hid (fun W => lhas_any { data := #[92, 34, 91, 93, 94, 45] } (s[q]'hlt) W)
  rw [ntr_is] at HI
  rw [marks_is] at HM
  rw [show ((q + 1 : Nat) : Int) = (q : Int) + 1 from rfl] at HX
  rw [drop_byte s q hlt]
  have nq := UInt8.toNat_lt (s[q]'hlt)
  by_cases hx : s[q]'hlt = 120
  · obtain ⟨d1, d2⟩ := byte_is (n := 120) hx (by decide)
    rw [hx]
    obtain ⟨b, a, er, hV⟩ := readV_form (92 :: 120 :: (bl s).drop (q + 1)) p
    rw [hV] at HX ⊢
    clear hV hx HI HM
    go_enter Try.func91, Try.ntmps91
    go_wp2_with fail
    refine (HX.out _).mono ?_
    rintro e w1 ⟨rfl, rfl⟩
    go_wp2
    go_ret3
    exact ⟨rfl, rfl⟩
  obtain ⟨d1, d2⟩ := byte_no (n := 120) hx (by decide)
  by_cases h1 : s[q]'hlt = 110
  · rw [if_pos h1] at HI
    have HV := Lib.hid (show readV (92 :: s[q]'hlt :: (bl s).drop (q + 1)) p = .tuple #[.int .u8 10, .int .i64 ((q + 1 : Nat) : Int), .int .i64 0] by rw [h1, readV_ok (one_n _), HQ.out]; rfl)
    clear h1 hx HX HM
    go_enter Try.func91, Try.ntmps91
    go_wp2_with fail
    refine (HI.out _).mono ?_
    rintro e w1 ⟨rfl, rfl⟩
    go_wp2
    go_ret3
    exact ⟨by rw [HV.out]; rfl, rfl⟩
  rw [if_neg h1] at HI
  by_cases h2 : s[q]'hlt = 116
  · rw [if_pos h2] at HI
    have HV := Lib.hid (show readV (92 :: s[q]'hlt :: (bl s).drop (q + 1)) p = .tuple #[.int .u8 9, .int .i64 ((q + 1 : Nat) : Int), .int .i64 0] by rw [h2, readV_ok (one_t _), HQ.out]; rfl)
    clear h1 h2 hx HX HM
    go_enter Try.func91, Try.ntmps91
    go_wp2_with fail
    refine (HI.out _).mono ?_
    rintro e w1 ⟨rfl, rfl⟩
    go_wp2
    go_ret3
    exact ⟨by rw [HV.out]; rfl, rfl⟩
  rw [if_neg h2] at HI
  by_cases h3 : s[q]'hlt = 114
  · rw [if_pos h3] at HI
    have HV := Lib.hid (show readV (92 :: s[q]'hlt :: (bl s).drop (q + 1)) p = .tuple #[.int .u8 13, .int .i64 ((q + 1 : Nat) : Int), .int .i64 0] by rw [h3, readV_ok (one_r _), HQ.out]; rfl)
    clear h1 h2 h3 hx HX HM
    go_enter Try.func91, Try.ntmps91
    go_wp2_with fail
    refine (HI.out _).mono ?_
    rintro e w1 ⟨rfl, rfl⟩
    go_wp2
    go_ret3
    exact ⟨by rw [HV.out]; rfl, rfl⟩
  rw [if_neg h3] at HI
  cases hm : sixB (s[q]'hlt) with
  | true =>
    rw [hm] at HM
    have HV := Lib.hid (show readV (92 :: s[q]'hlt :: (bl s).drop (q + 1)) p = .tuple #[.int .u8 (((s[q]'hlt).toNat : Nat) : Int), .int .i64 ((q + 1 : Nat) : Int), .int .i64 0] by rw [readV_ok (one_mark _ hm), show q + 1 = p + 2 by rw [HQ.out]])
    clear h1 h2 h3 hx HX hm
    go_enter Try.func91, Try.ntmps91
    go_wp2_with fail
    refine (HI.out _).mono ?_
    rintro e w1 ⟨rfl, rfl⟩
    go_wp2_with fail
    refine (HM.out _).mono ?_
    rintro e w1 ⟨rfl, rfl⟩
    go_wp2
    go_ret3
    exact ⟨by rw [HV.out]; rfl, rfl⟩
  | false =>
    rw [hm] at HM
    have HV := Lib.hid (show readV (92 :: s[q]'hlt :: (bl s).drop (q + 1)) p = _ from readV_err (one_bad _ hm h1 h2 h3 hx))
    clear h1 h2 h3 hx HX hm
    go_enter Try.func91, Try.ntmps91
    go_wp2_with fail
    refine (HI.out _).mono ?_
    rintro e w1 ⟨rfl, rfl⟩
    go_wp2_with fail
    refine (HM.out _).mono ?_
    rintro e w1 ⟨rfl, rfl⟩
    go_wp2
    go_ret3
    exact ⟨by rw [HV.out]; rfl, rfl⟩

theorem one_plain {c : UInt8} (r : List UInt8) (h : plainB c = true) : oneL (c :: r) = .ok (c, 1) := by
  unfold oneL
  simp only [h, if_true]
theorem one_none {c : UInt8} (r : List UInt8) (h : plainB c = false) (hc : c ≠ 92) : oneL (c :: r) = .error 4 := by
  unfold oneL
  simp only [h, Bool.false_eq_true, if_false, if_pos hc]

set_option maxRecDepth 100000 in
set_option maxHeartbeats 1000000 in
theorem read_any (s : ByteArray) (p : Nat) (hp : p ≤ s.size) (hs : s.size ≤ 140737488355328) (w : World) :
    Calls Try.prog 81 #[.string s, .int .i64 (p : Int)] w fun e w' => e = .returned (readV ((bl s).drop p) p) ∧ w' = w := by
  have p0 : (0 : Int) ≤ (p : Int) := by omega
  by_cases hlt : p < s.size
  case neg =>
    have hge : ((p : Int) == (s.size : Int)) = true := by simp; omega
    rw [drop_end s p (by omega)]
    go_enter Try.func81, Try.ntmps81
    go_wp2
    go_ret3
    exact ⟨rfl, rfl⟩
  have hge : ((p : Int) == (s.size : Int)) = false := by simp; omega
  have hlti : (p : Int) < (s.size : Int) := by omega
  have HX := Lib.hid (fun W => behind_any s p (p + 1) rfl (by omega) hs W)
  have HP := Lib.hid (fun W => isplain_any (s[p]'hlt) W)
  have HM := Lib.hid (fun W => lhas_any { data := #[92, 34, 91, 93, 94, 45] } (s[p]'hlt) W)
  rw [marks_is] at HM
  rw [show ((p + 1 : Nat) : Int) = (p : Int) + 1 from rfl] at HX
  rw [drop_byte s p hlt]
  have nq := UInt8.toNat_lt (s[p]'hlt)
  by_cases hx : s[p]'hlt = 92
  · obtain ⟨d1, d2⟩ := byte_is (n := 92) hx (by decide)
    rw [hx]
    obtain ⟨b, a, er, hV⟩ := readV_form (92 :: (bl s).drop (p + 1)) p
    rw [hV] at HX ⊢
    clear hV hx HP HM
    go_enter Try.func81, Try.ntmps81
    go_wp2_with fail
    refine (HX.out _).mono ?_
    rintro e w1 ⟨rfl, rfl⟩
    go_wp2
    go_ret3
    exact ⟨rfl, rfl⟩
  obtain ⟨d1, d2⟩ := byte_no (n := 92) hx (by decide)
  have hpl := plain_is (s[p]'hlt)
  cases hr : rangeB (s[p]'hlt) with
  | false =>
    rw [hr] at HP hpl
    have HV := Lib.hid (show readV (s[p]'hlt :: (bl s).drop (p + 1)) p = _ from readV_err (one_none _ (by rw [hpl]; rfl) hx))
    clear hr hpl hx HX HM
    go_enter Try.func81, Try.ntmps81
    go_wp2_with fail
    refine (HP.out _).mono ?_
    rintro e w1 ⟨rfl, rfl⟩
    go_wp2
    go_ret3
    exact ⟨by rw [HV.out]; rfl, rfl⟩
  | true =>
    rw [hr] at HP hpl
    cases hm : sixB (s[p]'hlt) with
    | true =>
      rw [hm] at HM hpl
      have HV := Lib.hid (show readV (s[p]'hlt :: (bl s).drop (p + 1)) p = _ from readV_err (one_none _ (by rw [hpl]; rfl) hx))
      clear hr hpl hx HX hm
      go_enter Try.func81, Try.ntmps81
      go_wp2_with fail
      refine (HP.out _).mono ?_
      rintro e w1 ⟨rfl, rfl⟩
      go_wp2_with fail
      refine (HM.out _).mono ?_
      rintro e w1 ⟨rfl, rfl⟩
      go_wp2
      go_ret3
      exact ⟨by rw [HV.out]; rfl, rfl⟩
    | false =>
      rw [hm] at HM hpl
      have HV := Lib.hid (show readV (s[p]'hlt :: (bl s).drop (p + 1)) p = _ from readV_ok (one_plain _ (by rw [hpl]; rfl)))
      clear hr hpl hx HX hm
      go_enter Try.func81, Try.ntmps81
      go_wp2_with fail
      refine (HP.out _).mono ?_
      rintro e w1 ⟨rfl, rfl⟩
      go_wp2_with fail
      refine (HM.out _).mono ?_
      rintro e w1 ⟨rfl, rfl⟩
      go_wp2
      go_ret3
      exact ⟨by rw [HV.out]; rfl, rfl⟩
end Go.Proofs.Ytbiempopfmpohaa
