/-
Layer 6's reference, the lexer: a number. Conditions: those that each names.
Layer 6's reference, the lexer: a text in quotes. Conditions: those that each names.
Walks of the reference's power, Has and Make: two to a number, whether a byte is in a set, the set of those that are asked for; nothing that was there before the call has changed. Conditions: numbers up to 63, bytes up to 255, a slice of 256 truth values.
Walks of the reference's Of and Span: the set of the bytes, the set from one byte to another one; nothing that was there before the call has changed. Conditions: bytes up to 255, at most 2^47 of them.
Layer 6's reference, the lexer: a set in brackets, the plain facts. Conditions: those that each names.
Layer 6's reference, the lexer: a set in brackets that is not turned. Conditions: those that each names.
Layer 6's reference, the lexer: a set in brackets that is turned. Conditions: those that each names.
Layer 6's reference, the lexer: a bracket at the end; the next token. Conditions: those that each names.
strings.Clone hands back the same text; nothing that was there before the call has changed: by the shelf's contract of the library's own copy. Conditions: the text has at most 2^48 bytes.
-/
import Derived.Test.YtbiempopfmpohaaLexRs
import Derived.Test.YtbiempopfmpohaaMems
import Derived.Laws.OwnMore
import Derived.Test.YtbiempopfmpohaaSetWs
import Derived.Deep.QuietTactic
import Derived.BigQuiet
import Derived.Deep.RegionWith
import Derived.Laws.MakeOwn
import Derived.Test.YtbiempopfmpohaaTextPlain
import Derived.Test.YtbiempopfmpohaaSetKs
import Derived.Shelf.Pu.Clone
namespace Go.Proofs.Ytbiempopfmpohaa
open Go.RowKit

theorem take_all (f : UInt8 → Bool) (s : ByteArray) (p : Nat) : ∀ n, n ≤ (((bl s).drop p).takeWhile f).length → ∀ j (_h : j < n) (hj : p + j < s.size), f (s[p + j]'hj) = true := by
  intro n hn j h hj
  have h1 : (((bl s).drop p).takeWhile f)[j]? = ((bl s).drop p)[j]? := by
    rw [List.prefix_iff_getElem?.1 (List.takeWhile_prefix (l := (bl s).drop p) f) j (by omega)]
    rw [List.getElem?_eq_getElem]
  have e1 : (((bl s).drop p).takeWhile f)[j]? = some ((((bl s).drop p).takeWhile f)[j]'(by omega)) := List.getElem?_eq_getElem _
  have e2 : (bl s)[p + j]? = some (s[p + j]'hj) := List.getElem?_eq_getElem (by rw [bl_length]; exact hj)
  rw [e1, List.getElem?_drop, e2] at h1
  have h2 : (((bl s).drop p).takeWhile f)[j]'(by omega) = s[p + j]'hj := Option.some.inj h1
  have h3 : (((bl s).drop p).takeWhile f)[j]'(by omega) ∈ ((bl s).drop p).takeWhile f := List.getElem_mem _
  rw [h2] at h3
  exact List.all_eq_true.1 (List.all_takeWhile) _ h3
theorem numL_step (s : ByteArray) (p j : Nat) (h : p + j < s.size) : numL (((bl s).drop p).take (j + 1)) = 10 * numL (((bl s).drop p).take j) + ((s[p + j]'h).toNat - 48) := by
  have hj : j < ((bl s).drop p).length := by rw [List.length_drop, bl_length]; omega
  rw [List.take_succ_eq_append_getElem hj]
  unfold numL
  rw [List.foldl_append, List.getElem_drop]
  rfl
theorem numL_le (l : List UInt8) : ∀ k m, l.length ≤ k → (l.foldl (fun n c => 10 * n + (c.toNat - 48)) m) ≤ (m + 30) * 1000 ^ k := by
  induction l with
  | nil => intro k m _; simp; have := Nat.one_le_pow k 1000 (by decide); calc m ≤ (m + 30) * 1 := by omega
      _ ≤ (m + 30) * 1000 ^ k := Nat.mul_le_mul_left _ this
  | cons c r ih =>
    intro k m hk
    cases k with
    | zero => simp at hk
    | succ k =>
      have h1 := ih k (10 * m + (c.toNat - 48)) (by simpa using hk)
      have h2 := UInt8.toNat_lt c
      have h3 : 10 * m + (c.toNat - 48) + 30 ≤ (m + 30) * 1000 := by omega
      calc _ ≤ (10 * m + (c.toNat - 48) + 30) * 1000 ^ k := h1
        _ ≤ ((m + 30) * 1000) * 1000 ^ k := Nat.mul_le_mul_right _ h3
        _ = (m + 30) * 1000 ^ (k + 1) := by rw [Nat.mul_assoc, Nat.pow_succ, Nat.mul_comm 1000]
theorem digit_not {c : UInt8} (h : digitB c = true) : c ≠ 34 ∧ c ≠ 91 ∧ letterB c = false := by
  refine all_bytes (p := fun c => digitB c = true → c ≠ 34 ∧ c ≠ 91 ∧ letterB c = false) ?_ c h
  decide +kernel
theorem word_number (s : ByteArray) (p : Nat) (hp : p < s.size) (hc : digitB (s[p]'hp) = true) (n : Nat) (hn : (((bl s).drop p).takeWhile digitB).length = n) :
    wordV ((bl s).drop p) p = if 4 < n then .tuple #[tokV Tk.none 0, .int .i64 ((p : Nat) : Int), .int .i64 2] else .tuple #[tokV { Tk.none with kind := 5, num := numL (((bl s).drop p).take n) } ((p : Nat) : Int), .int .i64 ((p + n : Nat) : Int), .int .i64 0] := by
  have h1 : tokL ((bl s).drop p) = if 4 < n then .error 2 else .ok ({ Tk.none with kind := 5, num := numL (((bl s).drop p).take n) }, n) := by
    have ht := take_is _ s p n hn
    have hn2 : (((bl s).drop p).take n).length = n := by rw [← ht]; exact hn
    rw [drop_byte s p hp] at ht hn2 ⊢
    obtain ⟨n1, n2, n3⟩ := digit_not hc
    unfold tokL
    simp only [if_neg n1, if_neg n2, n3, Bool.false_eq_true, if_false, hc, if_true, ht, hn2]
  unfold wordV
  rw [h1]
  split <;> rename_i h <;> split at h <;> cases h <;> rename_i h2
  · rw [if_pos h2]; rfl
  · rw [if_neg h2]

end Go.Proofs.Ytbiempopfmpohaa
namespace Go.Proofs.Ytbiempopfmpohaa
open Go.RowKit

theorem owns_keep {w w' : World} {base : Nat} {e : TypeId} {size n : Nat} {v : Value} {xs : List Value} (h : w.ownsRow base e size v n xs) (hb : Below w.heap.size w w') : w'.ownsRow base e size v n xs :=
  h.kept (row := none) ⟨hb.os, hb.tape, hb.output, hb.size, fun k hk _ => hb.block k hk⟩ (Classical.em _)
theorem grown_keep {W w1 : World} {base : Nat} {e : TypeId} {size n : Nat} {v : Value} {xs : List Value} (h : W.ownsRow base e size v n xs) (hbase : base ≤ W.heap.size) (hg : W.grownBy w1 v.ownBlock) : Below base W w1 :=
  (Below.refl base W).grown hg hbase fun k hk => (h.lt k hk).1
/-- What stands behind a quote. -/
def textL (l : List UInt8) : Except Nat (List UInt8 × Nat) := textF (l.length + 1) l
theorem textL_nil : textL [] = .error 6 := rfl
theorem textL_cons (c : UInt8) (r : List UInt8) : textL (c :: r) = if c = 34 then .ok ([], 1) else match oneL (c :: r) with
    | .error e => .error e
    | .ok (b, n) => match textL ((c :: r).drop n) with
      | .error e => .error e
      | .ok (t, k) => .ok (b :: t, n + k) := by
  unfold textL
  rw [textF_cons]
  split
  · rfl
  · cases h : oneL (c :: r) with
    | error e => rfl
    | ok x =>
      obtain ⟨b, n⟩ := x
      have := oneL_pos h
      simp only
      rw [textF_more (c :: r).length ((((c :: r).drop n).length) + 1) _ (by rw [List.length_drop]; omega) (by omega)]
      rfl
/-- What is read so far, and what is left. -/
def gathT (bs : List UInt8) (d : Nat) : Except Nat (List UInt8 × Nat) → Except Nat (List UInt8 × Nat)
  | .error e => .error e
  | .ok (t, k) => .ok (bs ++ t, d + k)
theorem gathT_nil (x : Except Nat (List UInt8 × Nat)) : gathT [] 0 x = x := by
  cases x with
  | error e => rfl
  | ok y => simp [gathT]
theorem textL_step {c : UInt8} {r : List UInt8} (hc : c ≠ 34) {b : UInt8} {n : Nat} (h : oneL (c :: r) = .ok (b, n)) (bs : List UInt8) (d : Nat) : gathT bs d (textL (c :: r)) = gathT (bs ++ [b]) (d + n) (textL ((c :: r).drop n)) := by
  rw [textL_cons, if_neg hc, h]
  simp only
  cases textL ((c :: r).drop n) with
  | error e => rfl
  | ok y => simp [gathT, Nat.add_assoc]
abbrev u8Cells (bs : List UInt8) : List Value := bs.map fun b => Value.int .u8 ((b.toNat : Nat) : Int)
def bI (bs : List UInt8) : List Int := bs.map fun b => ((b.toNat : Nat) : Int)
theorem str_bI (bs : List UInt8) : strOfNums (bI bs) = mkS bs := by
  unfold strOfNums mkS bI
  congr 2
  rw [List.map_map]
  conv => rhs; rw [← List.map_id bs]
  apply List.map_congr_left
  intro b _
  simp
theorem tok_quote (s : ByteArray) (p : Nat) (hp : p < s.size) (hc : s[p]'hp = 34) : tokL ((bl s).drop p) = match textL ((bl s).drop (p + 1)) with
    | .error e => .error e
    | .ok (t, k) => if 256 < t.length then .error 2 else .ok ({ Tk.none with kind := 2, text := t }, 1 + k) := by
  rw [drop_byte s p hp, hc]
  exact tokL_quote _
theorem oneV_ok {l : List UInt8} {p : Nat} {b : UInt8} {n : Nat} (h : oneL l = .ok (b, n)) : oneV l p = .tuple #[.int .u8 ((b.toNat : Nat) : Int), .int .i64 ((p + n : Nat) : Int), .int .i64 0] := by unfold oneV; rw [h]
theorem oneV_err {l : List UInt8} {p e : Nat} (h : oneL l = .error e) : oneV l p = .tuple #[.int .u8 0, .int .i64 ((p : Nat) : Int), .int .i64 ((e : Nat) : Int)] := by unfold oneV; rw [h]
theorem wordV_err {l : List UInt8} {p e : Nat} (h : tokL l = .error e) : wordV l p = .tuple #[tokV Tk.none 0, .int .i64 ((p : Nat) : Int), .int .i64 ((e : Nat) : Int)] := by unfold wordV; rw [h]
theorem wordV_ok {l : List UInt8} {p n : Nat} {t : Tk} (h : tokL l = .ok (t, n)) : wordV l p = .tuple #[tokV t ((p : Nat) : Int), .int .i64 ((p + n : Nat) : Int), .int .i64 0] := by unfold wordV; rw [h]
theorem text_cells (T : List UInt8) (a : Int) : tokCells { Tk.none with kind := 2, text := T } a = #[.int .i64 2, .string (mkS T), .int .u64 0, .int .u64 0, .int .u64 0, .int .u64 0, .int .i64 0, .int .i64 a] := by
  simp [tokCells, Tk.none, zero_set]
theorem info_u8t : (Try.prog.info? 5).map (fun i => (i.zero, i.size, i.bytes)) = some (some (.int .u8 0), 1, 1) := by kernel_rfl

end Go.Proofs.Ytbiempopfmpohaa
namespace Go.Proofs.Ytbiempopfmpohaa
open Go.RowKit

theorem pow_le (k n : Nat) (h : k ≤ n) (hn : n ≤ 63) : 2 ^ k ≤ 9223372036854775808 := by
  have : 2 ^ k ≤ 2 ^ 63 := Nat.pow_le_pow_right (by decide) (by omega)
  simpa using this

theorem refhas_test (S : Nat → Bool) (x : Nat) : ((IntKind.u64.wrap (((wd S (x / 64) : Nat) : Int) / ((2 ^ (x % 64) : Nat) : Int))).tmod 2 == 1) = S x := by
  have hw : IntKind.u64.wrap ((wd S (x / 64) / 2 ^ (x % 64) : Nat) : Int) = ((wd S (x / 64) / 2 ^ (x % 64) : Nat) : Int) := by
    have := Nat.lt_of_le_of_lt (Nat.div_le_self (wd S (x / 64)) (2 ^ (x % 64))) (wd_lt S (x / 64))
    rw [IntKind.wrap_u64]
    generalize wd S (x / 64) / 2 ^ (x % 64) = d at *
    omega
  rw [← Int.natCast_ediv, hw]
  have e : (((wd S (x / 64) / 2 ^ (x % 64) : Nat) : Int).tmod 2) = ((wd S (x / 64) / 2 ^ (x % 64) % 2 : Nat) : Int) := by
    rw [Int.tmod_eq_emod_of_nonneg (Int.natCast_nonneg _)]; omega
  rw [e, has_iff]
  cases S x <;> rfl

/-- The bytes below b that are asked for. -/
def under (f : Nat → Bool) (b : Nat) : Nat → Bool := fun i => decide (i < b) && f i
theorem under_zero (f : Nat → Bool) : under f 0 = fun _ => false := by funext i; simp [under]
theorem under_snoc_t (f : Nat → Bool) (b : Nat) (h : f b = true) : under f (b + 1) = upd (under f b) b := by
  funext i
  unfold under upd
  rw [Bool.eq_iff_iff]
  simp only [Bool.and_eq_true, Bool.or_eq_true, decide_eq_true_eq, beq_iff_eq]
  constructor
  · rintro ⟨h1, h2⟩
    by_cases e : i = b
    · exact .inr e
    · exact .inl ⟨by omega, h2⟩
  · rintro (⟨h1, h2⟩ | rfl)
    · exact ⟨by omega, h2⟩
    · exact ⟨by omega, h⟩
theorem under_snoc_f (f : Nat → Bool) (b : Nat) (h : f b = false) : under f (b + 1) = under f b := by
  funext i
  unfold under
  by_cases e : i = b
  · subst e; simp [h]
  · have : (i < b + 1) = (i < b) := by apply propext; omega
    simp only [this]
theorem under_self (f : Nat → Bool) (b : Nat) : under f b b = false := by simp [under]

theorem add_walk (S : Nat → Bool) (x : Nat) (h : S x = false) : IntKind.u64.wrap (((wd S (x / 64) : Nat) : Int) + ((2 ^ (x % 64) : Nat) : Int)) = ((wd (upd S x) (x / 64) : Nat) : Int) := by
  have e := wd_upd_add S x (x / 64) rfl h
  have hlt := wd_lt (upd S x) (x / 64)
  rw [e] at hlt ⊢
  rw [IntKind.wrap_u64]
  generalize 2 ^ (x % 64) = d at *
  omega

end Go.Proofs.Ytbiempopfmpohaa
namespace Go.Proofs.Ytbiempopfmpohaa
open Go.RowKit

/-- A row of 256 truth values. -/
def bools (f : Nat → Bool) : Array Value := (Array.range 256).map fun i => Value.bool (f i)
theorem bools_size (f : Nat → Bool) : (bools f).size = 256 := by simp [bools]
theorem bools_get (f : Nat → Bool) (k : Nat) (hk : k < 256) : (bools f)[k]? = some (.bool (f k)) := by
  unfold bools
  rw [Array.getElem?_map, Array.getElem?_range]
  simp [hk]
theorem bools_made : madeCells #[Value.bool false] 256 = bools fun _ => false := by
  unfold madeCells bools
  congr 1
  funext i
  show #[Value.bool false][i % 1]! = _
  rw [Nat.mod_one]
  rfl
theorem bools_upd (f : Nat → Bool) (x : Nat) (hx : x < 256) : (bools f).setIfInBounds x (.bool true) = bools (upd f x) := by
  apply Array.ext_getElem?
  intro i
  rw [Array.getElem?_setIfInBounds]
  by_cases hi : i < 256
  · rw [bools_get _ _ hi, bools_get _ _ hi]
    by_cases e : x = i
    · subst e; simp [bools_size, hx, upd]
    · have : (i == x) = false := by simp; omega
      simp [e, upd, this]
  · have h1 : (bools f)[i]? = none := Array.getElem?_eq_none (by rw [bools_size]; omega)
    have h2 : (bools (upd f x))[i]? = none := Array.getElem?_eq_none (by rw [bools_size]; omega)
    rw [h1, h2]
    have : x ≠ i := by omega
    simp [this]

theorem info_bool : (Try.prog.info? 4).map (fun i => (i.zero, i.size, i.bytes)) = some (some (.bool false), 1, 1) := by kernel_rfl
end Go.Proofs.Ytbiempopfmpohaa
namespace Go.Proofs.Ytbiempopfmpohaa
open Go.RowKit

/-- What stands behind a bracket. -/
def setL (l : List UInt8) : Except Nat (List (UInt8 × UInt8) × Nat) := setF (l.length + 1) l
theorem setL_nil : setL [] = .error 6 := rfl
theorem setL_cons (c : UInt8) (r : List UInt8) : setL (c :: r) = if c = 93 then .ok ([], 1) else match oneL (c :: r) with
    | .error e => .error e
    | .ok (a, n) =>
      if ((c :: r).drop n).head? = some 45 then
        match oneL ((c :: r).drop (n + 1)) with
        | .error e => .error e
        | .ok (b, m) =>
          if b < a then .error 4
          else match setL ((c :: r).drop (n + 1 + m)) with
            | .error e => .error e
            | .ok (t, k) => .ok ((a, b) :: t, n + 1 + m + k)
      else match setL ((c :: r).drop n) with
        | .error e => .error e
        | .ok (t, k) => .ok ((a, a) :: t, n + k) := by
  unfold setL
  rw [setF_cons]
  split
  · rfl
  · cases h : oneL (c :: r) with
    | error e => rfl
    | ok x =>
      obtain ⟨b, n⟩ := x
      have := oneL_pos h
      simp only
      rw [setF_more (c :: r).length ((((c :: r).drop n).length) + 1) _ (by rw [List.length_drop]; omega) (by omega)]
      split
      · cases h2 : oneL ((c :: r).drop (n + 1)) with
        | error e => rfl
        | ok y =>
          obtain ⟨d, m⟩ := y
          simp only
          rw [setF_more (c :: r).length ((((c :: r).drop (n + 1 + m)).length) + 1) _ (by rw [List.length_drop, List.length_cons]; omega) (by omega)]
          rfl
      · rfl
/-- What is read so far, and what is left. -/
def gathS (rs : List (UInt8 × UInt8)) (d : Nat) : Except Nat (List (UInt8 × UInt8) × Nat) → Except Nat (List (UInt8 × UInt8) × Nat)
  | .error e => .error e
  | .ok (t, k) => .ok (rs ++ t, d + k)
theorem gathS_nil (x : Except Nat (List (UInt8 × UInt8) × Nat)) : gathS [] 0 x = x := by
  cases x with
  | error e => rfl
  | ok y => simp [gathS]
theorem setL_one {c : UInt8} {r : List UInt8} (hc : c ≠ 93) {a : UInt8} {n : Nat} (h : oneL (c :: r) = .ok (a, n)) (hd : ¬ ((c :: r).drop n).head? = some 45) (rs : List (UInt8 × UInt8)) (d : Nat) : gathS rs d (setL (c :: r)) = gathS (rs ++ [(a, a)]) (d + n) (setL ((c :: r).drop n)) := by
  rw [setL_cons, if_neg hc, h]
  simp only [if_neg hd]
  cases setL ((c :: r).drop n) with
  | error e => rfl
  | ok y => simp [gathS, Nat.add_assoc]
theorem setL_two {c : UInt8} {r : List UInt8} (hc : c ≠ 93) {a b : UInt8} {n m : Nat} (h : oneL (c :: r) = .ok (a, n)) (hd : ((c :: r).drop n).head? = some 45) (h2 : oneL ((c :: r).drop (n + 1)) = .ok (b, m)) (hab : ¬ b < a) (rs : List (UInt8 × UInt8)) (d : Nat) : gathS rs d (setL (c :: r)) = gathS (rs ++ [(a, b)]) (d + (n + 1 + m)) (setL ((c :: r).drop (n + 1 + m))) := by
  rw [setL_cons, if_neg hc, h]
  simp only [if_pos hd, h2, if_neg hab]
  cases setL ((c :: r).drop (n + 1 + m)) with
  | error e => rfl
  | ok y => simp [gathS, Nat.add_assoc]
theorem setL_bad1 {c : UInt8} {r : List UInt8} (hc : c ≠ 93) {e : Nat} (h : oneL (c :: r) = .error e) : setL (c :: r) = .error e := by
  rw [setL_cons, if_neg hc, h]
theorem setL_bad2 {c : UInt8} {r : List UInt8} (hc : c ≠ 93) {a : UInt8} {n e : Nat} (h : oneL (c :: r) = .ok (a, n)) (hd : ((c :: r).drop n).head? = some 45) (h2 : oneL ((c :: r).drop (n + 1)) = .error e) : setL (c :: r) = .error e := by
  rw [setL_cons, if_neg hc, h]
  simp only [if_pos hd, h2]
theorem setL_less {c : UInt8} {r : List UInt8} (hc : c ≠ 93) {a b : UInt8} {n m : Nat} (h : oneL (c :: r) = .ok (a, n)) (hd : ((c :: r).drop n).head? = some 45) (h2 : oneL ((c :: r).drop (n + 1)) = .ok (b, m)) (hab : b < a) : setL (c :: r) = .error 4 := by
  rw [setL_cons, if_neg hc, h]
  simp only [if_pos hd, h2, if_pos hab]
theorem inRows_snoc (rs : List (UInt8 × UInt8)) (a b : UInt8) (x : Nat) : inRows (rs ++ [(a, b)]) x = (inRows rs x || (decide (a.toNat ≤ x) && decide (x ≤ b.toNat))) := by
  simp [inRows]
theorem inRows_nil (x : Nat) : inRows [] x = false := rfl
theorem bools_ext {f g : Nat → Bool} (h : ∀ i, i < 256 → f i = g i) : bools f = bools g := by
  apply Array.ext_getElem?
  intro i
  by_cases hi : i < 256
  · rw [bools_get _ _ hi, bools_get _ _ hi, h i hi]
  · rw [Array.getElem?_eq_none (by rw [bools_size]; omega), Array.getElem?_eq_none (by rw [bools_size]; omega)]
theorem bools_setB (f : Nat → Bool) (x : Nat) (v : Bool) : (bools f).setIfInBounds x (.bool v) = bools fun i => if i = x then v else f i := by
  apply Array.ext_getElem?
  intro i
  rw [Array.getElem?_setIfInBounds]
  by_cases hi : i < 256
  · rw [bools_get _ _ hi, bools_get _ _ hi]
    by_cases e : x = i
    · subst e; simp [bools_size, hi]
    · simp [e, Ne.symm e]
  · rw [Array.getElem?_eq_none (xs := bools f) (by rw [bools_size]; omega), Array.getElem?_eq_none (xs := bools _) (by rw [bools_size]; omega)]
    have : ¬ (x = i ∧ x < 256) := by omega
    simp [bools_size]
    omega
/-- While a row is laid: those from a on, below k, too. -/
def laid (f : Nat → Bool) (a k : Nat) : Nat → Bool := fun x => f x || (decide (a ≤ x) && decide (x < k))
theorem laid_nil (f : Nat → Bool) (a : Nat) : laid f a a = f := by
  funext x
  unfold laid
  have : (decide (a ≤ x) && decide (x < a)) = false := by simp
  rw [this, Bool.or_false]
theorem laid_step (f : Nat → Bool) (a k : Nat) (hk : a ≤ k) : (bools (laid f a k)).setIfInBounds k (.bool true) = bools (laid f a (k + 1)) := by
  rw [bools_setB]
  apply bools_ext
  intro i _
  unfold laid
  by_cases e : i = k
  · subst e
    simp [hk]
  · have : decide (i < k + 1) = decide (i < k) := by rw [Bool.eq_iff_iff]; simp; omega
    rw [if_neg e, this]
theorem laid_all (rs : List (UInt8 × UInt8)) (a b : UInt8) : laid (inRows rs) a.toNat (b.toNat + 1) = inRows (rs ++ [(a, b)]) := by
  funext x
  unfold laid
  rw [inRows_snoc]
  congr 2
  rw [Bool.eq_iff_iff]; simp; omega
/-- While a set is turned: those below k are. -/
def turned (f : Nat → Bool) (nb : Bool) (k : Nat) : Nat → Bool := fun x => if x < k then f x != nb else f x
theorem turned_nil (f : Nat → Bool) (nb : Bool) : turned f nb 0 = f := by funext x; simp [turned]
theorem turned_at (f : Nat → Bool) (nb : Bool) (k : Nat) : turned f nb k k = f k := by simp [turned]
theorem turned_step (f : Nat → Bool) (nb : Bool) (k : Nat) : (bools (turned f nb k)).setIfInBounds k (.bool (f k != nb)) = bools (turned f nb (k + 1)) := by
  rw [bools_setB]
  apply bools_ext
  intro i _
  unfold turned
  by_cases e : i = k
  · subst e
    simp
  · have : (i < k + 1) = (i < k) := by apply propext; omega
    simp only [this, if_neg e]
theorem set_cells (S : Nat → Bool) (a : Int) : tokCells { Tk.none with kind := 3, set := S } a = #[.int .i64 3, .string { data := #[] }, .int .u64 ((wd S 0 : Nat) : Int), .int .u64 ((wd S 1 : Nat) : Int), .int .u64 ((wd S 2 : Nat) : Int), .int .u64 ((wd S 3 : Nat) : Int), .int .i64 0, .int .i64 a] := by
  simp [tokCells, Tk.none, mkS]
theorem tok_not (s : ByteArray) (p : Nat) (hp : p + 1 < s.size) (h1 : s[p]'(by omega) = 91) (h2 : s[p + 1]'hp = 94) : tokL ((bl s).drop p) = match setL ((bl s).drop (p + 2)) with
    | .error e => .error e
    | .ok (t, k) => .ok ({ Tk.none with kind := 3, set := fun x => decide (x < 256) && !inRows t x }, 2 + k) := by
  rw [drop_byte s p (by omega), h1, tokL_bracket, drop_byte s (p + 1) hp, h2]
  have hh : (94 :: (bl s).drop (p + 1 + 1)).head? = some (94 : UInt8) := rfl
  rw [if_pos hh]
  have e : setF ((94 :: (bl s).drop (p + 1 + 1)).length + 1) ((94 :: (bl s).drop (p + 1 + 1)).drop 1) = setL ((bl s).drop (p + 2)) := setF_more _ _ _ (by simp; omega) (by simp)
  rw [e]
  rfl
theorem tok_plain (s : ByteArray) (p : Nat) (hp : p < s.size) (h1 : s[p]'hp = 91) (h2 : ∀ h : p + 1 < s.size, s[p + 1]'h ≠ 94) : tokL ((bl s).drop p) = match setL ((bl s).drop (p + 1)) with
    | .error e => .error e
    | .ok (t, k) => .ok ({ Tk.none with kind := 3, set := fun x => inRows t x }, 1 + k) := by
  rw [drop_byte s p hp, h1, tokL_bracket, if_neg]
  · rfl
  · intro h
    by_cases hl : p + 1 < s.size
    · rw [drop_byte s (p + 1) hl] at h
      exact h2 hl (Option.some.inj h)
    · rw [drop_end s (p + 1) (by omega)] at h
      cases h
theorem head_byte (s : ByteArray) (q : Nat) (h : q < s.size) (c : UInt8) : ((bl s).drop q).head? = some c ↔ s[q]'h = c := by
  rw [drop_byte s q h]
  simp
theorem head_end (s : ByteArray) (q : Nat) (h : s.size ≤ q) (c : UInt8) : ¬ ((bl s).drop q).head? = some c := by
  rw [drop_end s q h]
  simp
end Go.Proofs.Ytbiempopfmpohaa
namespace Go.Proofs.Ytbiempopfmpohaa
open Go.RowKit

end Go.Proofs.Ytbiempopfmpohaa
namespace Go.Proofs.Ytbiempopfmpohaa
open Go.RowKit

end Go.Proofs.Ytbiempopfmpohaa
namespace Go.Proofs.Ytbiempopfmpohaa
open Go.RowKit

theorem next_word (l : List UInt8) (p : Nat) : nextV l p = wordV (l.drop (p + skipN (l.drop p))) (p + skipN (l.drop p)) := by
  unfold nextV wordV
  rfl
theorem sign_is (c : UInt8) : (bl { data := #[61, 59, 40, 41, 124, 38, 33, 42, 43, 63, 58, 46, 47, 44, 123, 125, 126, 62] }).contains c = signB c := by
  refine all_bytes (p := fun c => (bl { data := #[61, 59, 40, 41, 124, 38, 33, 42, 43, 63, 58, 46, 47, 44, 123, 125, 126, 62] }).contains c = signB c) ?_ c
  decide +kernel
theorem tokL_cons (c : UInt8) (r : List UInt8) (h1 : c ≠ 34) (h2 : c ≠ 91) (h3 : letterB c = false) (h4 : digitB c = false) : tokL (c :: r) = if c = 45 && r.head? = some 62 then .ok ({ Tk.none with kind := 4, text := [45, 62] }, 2) else if signB c then .ok ({ Tk.none with kind := 4, text := [c] }, 1) else .error 4 := by
  conv => lhs; unfold tokL
  simp only [if_neg h1, if_neg h2, h3, h4, Bool.false_eq_true, if_false]
theorem sign_cells (T : List UInt8) (a : Int) : tokCells { Tk.none with kind := 4, text := T } a = #[.int .i64 4, .string (mkS T), .int .u64 0, .int .u64 0, .int .u64 0, .int .u64 0, .int .i64 0, .int .i64 a] := by
  simp [tokCells, Tk.none, zero_set]
theorem end_cells (a : Int) : tokCells Tk.none a = #[.int .i64 0, .string { data := #[] }, .int .u64 0, .int .u64 0, .int .u64 0, .int .u64 0, .int .i64 0, .int .i64 a] := by
  simp [tokCells, Tk.none, zero_set, mkS]
end Go.Proofs.Ytbiempopfmpohaa
namespace Go.Proofs.Ytbiempopfmpohaa
open Go.RowKit Go.Shelf

def cloneRen : Ren := ⟨fun | 25 => 90 | n => n, fun | 5 => 5 | 9 => 9 | 3 => 3 | 4 => 4 | 37 => 78 | 0 => 0 | 47 => 113 | n => n, fun n => n⟩

theorem cloneLays : LaysPu.n25 Try.prog cloneRen :=
  { mixed := by kernel_rfl
    f25 := by kernel_rfl
    t0 := by kernel_rfl, a0 := fun _ => by kernel_rfl, z0 := fun _ => by kernel_rfl, v0 := fun _ => by kernel_rfl, i0 := by kernel_rfl
    t3 := by kernel_rfl, a3 := fun _ => by kernel_rfl, z3 := fun _ => by kernel_rfl, v3 := fun _ => by kernel_rfl, i3 := by kernel_rfl
    t4 := by kernel_rfl, a4 := fun _ => by kernel_rfl, z4 := fun _ => by kernel_rfl, v4 := fun _ => by kernel_rfl, i4 := by kernel_rfl
    t5 := by kernel_rfl, a5 := fun _ => by kernel_rfl, z5 := fun _ => by kernel_rfl, v5 := fun _ => by kernel_rfl, i5 := by kernel_rfl
    t9 := by kernel_rfl, a9 := fun _ => by kernel_rfl, z9 := fun _ => by kernel_rfl, v9 := fun _ => by kernel_rfl, i9 := by kernel_rfl
    t37 := by kernel_rfl, a37 := fun _ => by kernel_rfl, z37 := fun _ => by kernel_rfl, v37 := fun _ => by kernel_rfl, i37 := by kernel_rfl
    t47 := by kernel_rfl, a47 := fun _ => by kernel_rfl, z47 := fun _ => by kernel_rfl, v47 := fun _ => by kernel_rfl, i47 := by kernel_rfl }

theorem litclone_any (s : ByteArray) (w : World) (hs : s.size ≤ 281474976710656) :
    Calls Try.prog 90 #[.string s] w fun e w' => e = .returned (.string s) ∧ Below w.heap.size w w' :=
  AnyPu.stringslite_Clone cloneLays s w hs

theorem clone_any (s : ByteArray) (w : World) (hs : s.size ≤ 281474976710656) :
    Calls Try.prog 79 #[.string s] w fun e w' => e = .returned (.string s) ∧ Below w.heap.size w w' := by
  have HC := Lib.hid (litclone_any s w hs)
  go_enter Try.func79, Try.ntmps79
  go_wp2_with fail
  refine HC.out.mono ?_
  rintro e w1 ⟨rfl, hb⟩
  go_wp2
  go_ret
  exact ⟨rfl, hb⟩
end Go.Proofs.Ytbiempopfmpohaa
