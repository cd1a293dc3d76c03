/-
parse.Re, as it has landed, answers what the grammar says. Conditions: at most 65536 bytes.
Layer 6's reference, the lexer: the next token. Conditions: those that each names.
Layer 7's reference: is a name none; may a text be a name. Conditions: those that each names.
parse.Check, as it has landed, finds nothing in what is right and at most 200 deep. Conditions: those that each names.
-/
import Derived.Test.YtbiempopfmpohaaPwWholeX
import Derived.Test.YtbiempopfmpohaaParseDt
import Derived.Test.YtbiempopfmpohaaLexRt
import Derived.Test.YtbiempopfmpohaaParseEF
import Derived.Test.YtbiempopfmpohaaPwOften2
import Derived.Test.YtbiempopfmpohaaPwJoin
import Derived.Test.YtbiempopfmpohaaLexNA
namespace Go.Proofs.Ytbiempopfmpohaa
open Go.RowKit

/-- What parse.Re answers of a text. -/
def ReA (l : List UInt8) (w : World) (e : Ending) (w' : World) : Prop := match reP l with
  | .error x => (∃ so sc, e = .returned (.tuple #[.agg #[.int .i64 0, .string { data := #[] }, .int .u64 0, .int .u64 0, .int .u64 0, .int .u64 0, .slice so 0 sc, .int .i64 0, .int .i64 0], .int .i64 ((x.2 : Nat) : Int), .int .i64 ((x.1 : Nat) : Int)])) ∧ Below w.heap.size w w'
  | .ok a => ∃ ao cap, e = .returned (.tuple #[rxV a ao cap, .int .i64 ((l.length : Nat) : Int), .int .i64 0]) ∧ ReAt w' w'.heap.size a ao cap ∧ Below w.heap.size w w'
theorem ReA.ok {l : List UInt8} {a : Rx} (h : reP l = .ok a) {w w' : World} {e : Ending} (ha : ReA l w e w') : ∃ ao cap, e = .returned (.tuple #[rxV a ao cap, .int .i64 ((l.length : Nat) : Int), .int .i64 0]) ∧ ReAt w' w'.heap.size a ao cap ∧ Below w.heap.size w w' := by
  unfold ReA at ha
  rw [h] at ha
  exact ha
theorem ReA.err {l : List UInt8} {c q : Nat} (h : reP l = .error (c, q)) {w w' : World} {e : Ending} (ha : ReA l w e w') : (∃ so sc, e = .returned (.tuple #[.agg #[.int .i64 0, .string { data := #[] }, .int .u64 0, .int .u64 0, .int .u64 0, .int .u64 0, .slice so 0 sc, .int .i64 0, .int .i64 0], .int .i64 ((q : Nat) : Int), .int .i64 ((c : Nat) : Int)])) ∧ Below w.heap.size w w' := by
  unfold ReA at ha
  rw [h] at ha
  exact ha
/-- .. where its parts lie in blocks of the call's own. -/
def ReB (l : List UInt8) (w : World) (e : Ending) (w' : World) : Prop := match reP l with
  | .error x => (∃ so sc, e = .returned (.tuple #[.agg #[.int .i64 0, .string { data := #[] }, .int .u64 0, .int .u64 0, .int .u64 0, .int .u64 0, .slice so 0 sc, .int .i64 0, .int .i64 0], .int .i64 ((x.2 : Nat) : Int), .int .i64 ((x.1 : Nat) : Int)])) ∧ Below w.heap.size w w'
  | .ok a => ∃ ao cap, e = .returned (.tuple #[rxV a ao cap, .int .i64 ((l.length : Nat) : Int), .int .i64 0]) ∧ ReU w' (fun k => w.heap.size ≤ k) a ao cap ∧ Below w.heap.size w w'
theorem whole_reV (T : List Tk) : wholeF T = match reV 0 T with
    | .error x => .error x
    | .ok y => if y.2.isEmpty then .ok y.1 else .error (4, y.2) := by
  unfold wholeF reV
  show (match PR .reL 0 T with | .error x => _ | .ok (l, []) => _ | .ok (_, t :: R) => _) = _
  cases PR .reL 0 T with
  | error x => rfl
  | ok y =>
    obtain ⟨l, R⟩ := y
    cases R <;> rfl
/-- As whole tells it, for a text. -/
theorem re_whole (s : ByteArray) (hs : s.size ≤ 65536) (w : World) :
    Calls Try.prog 12 #[.string s, .func (.func 13) #[] #[]] w fun e w' => ReB (bl s) w e w' := by
  cases hA : allL (bl s) 0 with
  | error x =>
    obtain ⟨c, q⟩ := x
    refine (whole_re_lex s hs _ c q hA w).mono ?_
    rintro e w' ⟨rfl, hb⟩
    unfold ReB
    rw [show reP (bl s) = .error (c, q) by unfold reP; rw [hA]]
    exact ⟨⟨none, 0, rfl⟩, hb⟩
  | ok A =>
    have hlen := allL_len _ _ _ (Nat.le_refl _) hA
    rw [bl_length] at hlen
    obtain ⟨hrow, hpl⟩ := row_end A (allL_kinds _ _ _ (Nat.le_refl _) hA) (bl s).length
    have h := whole_re_ok s hs (bl s).length rfl A hA (by omega) (reV 0 (A.map (·.1))) 13 ent_re w (fun W B hR => by
      have := prere_any B 0 (Nat.zero_le _) _ hrow (by simp; omega) W hR
      rw [hpl] at this
      exact this)
    refine h.mono ?_
    rintro e w' ⟨hb, hw⟩
    have hP : reP (bl s) = match wholeF (A.map (·.1)) with
        | .ok a => .ok a
        | .error x => .error (x.1, placeL A (bl s).length (A.length - x.2.length)) := by unfold reP; rw [hA]; rfl
    rw [whole_reV] at hP
    unfold ReB
    rw [hP]
    cases hr : reV 0 (A.map (·.1)) with
    | error x =>
      rw [hr] at hw
      obtain ⟨L', h1, h2, h3, rfl⟩ := hw
      simp only
      rw [hd_place A _ L' hrow h1 h2, h3]
      exact ⟨⟨none, 0, rfl⟩, hb⟩
    | ok y =>
      obtain ⟨a, R⟩ := y
      rw [hr] at hw
      simp only at hw ⊢
      cases hem : R.isEmpty with
      | true =>
        rw [hem, if_pos rfl] at hw
        obtain ⟨ao, cap, rfl, hU⟩ := hw
        simp only [if_true]
        exact ⟨ao, cap, rfl, hU, hb⟩
      | false =>
        rw [hem, if_neg (by decide)] at hw
        obtain ⟨L', h1, h2, h3, rfl⟩ := hw
        simp only [if_false, Bool.false_eq_true]
        rw [hd_place A _ L' hrow h1 h2, h3]
        exact ⟨⟨none, 0, rfl⟩, hb⟩
theorem results_ctt {fn : Func} {tmps : Array Value} {w : World} {T : TypeId} {b : Nat} {v : Value} (hr : fn.results = #[.cell 2 T, .tmp 3, .tmp 4]) (h2 : tmps.getD 2 undef = .pointer (some ⟨b, 0, none⟩)) (l0 : (loadVar T ⟨b, 0, none⟩).run Try.prog w = .ok v w) :
    (results fn tmps).run Try.prog w = .ok (.tuple #[v, tmps.getD 3 undef, tmps.getD 4 undef]) w := by
  have h2' : tmps[2]?.getD undef = .pointer (some ⟨b, 0, none⟩) := by simpa using h2
  simp [results, hr, asAddr, h2', l0]

set_option maxRecDepth 100000 in
set_option maxHeartbeats 2000000 in
theorem re_any (s : ByteArray) (hs : s.size ≤ 65536) (w : World) :
    Calls Try.prog 6 #[.string s] w fun e w' => ReA (bl s) w e w' := by
  have HW := Lib.hid (fun W => re_whole s hs W)
  have hR := Blk.new w 27 zr9
  have hB0 := bal0 w (.cells zr9 27)
  cases hp : reP (bl s) with
  | error x =>
    obtain ⟨c, q⟩ := x
    have HP := Lib.hid hp
    go_enter Try.func6, Try.ntmps6
    go_wp2_with fail
    refine (HW.out _).mono ?_
    rintro e w1 ha
    unfold ReB at ha
    rw [HP.out] at ha
    obtain ⟨⟨so, sc, rfl⟩, hb⟩ := ha
    have hR1 := hR.below hb hR.lt
    have hB1 := btr hB0 hb
    go_wp2_with (first | (refine wp_put rfl _ _ _ rfl w.heap.size _ #[.int .i64 0, .string { data := #[] }, .int .u64 0, .int .u64 0, .int .u64 0, .int .u64 0, .slice so 0 sc, .int .i64 0, .int .i64 0] rfl rfl hR1 (by rw [size_re]; rfl) rfl (by simp [Value.oneCell']) ?_; intro w3 hR3 hb3) | fail)
    refine bodyPost_ret (results_ctt rfl rfl (load_re _ _ _ hR3 rfl)) rfl ?_
    unfold ReA
    rw [HP.out]
    exact ⟨⟨so, sc, rfl⟩, hB1.trans (hb3.low (Nat.le_refl _) hB1.size)⟩
  | ok a =>
    have HP := Lib.hid hp
    go_enter Try.func6, Try.ntmps6
    go_wp2_with fail
    refine (HW.out _).mono ?_
    rintro e w1 ha
    unfold ReB at ha
    rw [HP.out] at ha
    obtain ⟨ao, cap, rfl, hU, hb⟩ := ha
    have hU := hU.mono (G := fun k => w.heap.size < k) fun g hg _ => by rw [World.size_alloc] at hg; omega
    have hR1 := hR.below hb hR.lt
    have hB1 := btr hB0 hb
    go_wp2_with (first | (refine wp_put rfl _ _ _ rfl w.heap.size _ (rxCells a ao cap) rfl rfl hR1 (by rw [size_re]; rfl) rfl (by simp [Value.oneCell']) ?_; intro w3 hR3 hb3) | fail)
    refine bodyPost_ret (results_ctt rfl rfl (load_re _ _ _ hR3 rfl)) rfl ?_
    unfold ReA
    rw [HP.out]
    exact ⟨ao, cap, rfl, (hU.btt hb3 (.inl (by omega))).reAt, hB1.trans (hb3.low (Nat.le_refl _) hB1.size)⟩
end Go.Proofs.Ytbiempopfmpohaa
namespace Go.Proofs.Ytbiempopfmpohaa
open Go.RowKit

theorem wordV_form (l : List UInt8) (p : Nat) : ∃ (t : Tk) (a q er : Int), wordV l p = .tuple #[tokV t a, .int .i64 q, .int .i64 er] := by
  unfold wordV
  split
  · exact ⟨_, _, _, _, rfl⟩
  · exact ⟨_, _, _, _, rfl⟩
end Go.Proofs.Ytbiempopfmpohaa
namespace Go.Proofs.Ytbiempopfmpohaa
open Go.RowKit

theorem tw_all (f : UInt8 → Bool) : ∀ l : List UInt8, l.takeWhile f = l ↔ l.all f = true
  | [] => by simp
  | x :: l => by
    have := tw_all f l
    rw [List.takeWhile_cons, List.all_cons]
    cases f x with
    | true => simp only [if_true, Bool.true_and, List.cons.injEq, true_and]; exact this
    | false => simp
theorem name_of_tok {l : List UInt8} {t : Tk} {n : Nat} (h : tokL l = .ok (t, n)) (hk : t.kind = 1) (hn : n = l.length) (hkey : keyB l = false) : nameB l = true := by
  unfold tokL at h
  cases l with
  | nil => cases h; simp [Tk.none] at hk
  | cons c r =>
    simp only at h
    split at h
    · split at h
      · cases h
      · split at h
        · cases h
        · cases h; simp at hk
    split at h
    · split at h
      · split at h
        · cases h
        · cases h; simp at hk
      · split at h
        · cases h
        · cases h; simp at hk
    split at h
    · rename_i h1 h2 hl
      split at h
      · cases h
      · rename_i h31
        obtain ⟨rfl, rfl⟩ := Prod.mk.inj (Except.ok.inj h)
        have hall : (c :: r).takeWhile (fun x => digitB x || letterB x) = c :: r := (List.takeWhile_prefix _).eq_of_length hn
        rw [hall] at h31
        have hA : (c :: r).all (fun x => digitB x || letterB x) = true := (tw_all _ _).1 hall
        unfold nameB
        rw [hA, hkey]
        simp [hl]
        simp at h31
        omega
    split at h
    · split at h
      · cases h
      · cases h; simp at hk
    split at h
    · cases h; simp at hk
    split at h
    · cases h; simp at hk
    · cases h
theorem tok_of_name {l : List UInt8} (h : nameB l = true) : skipN l = 0 ∧ tokL l = .ok ({ Tk.none with kind := 1, text := l }, l.length) ∧ keyB l = false := by
  unfold nameB at h
  simp only [Bool.and_eq_true, decide_eq_true_iff] at h
  obtain ⟨⟨⟨h1, h2⟩, h3⟩, h4⟩ := h
  cases l with
  | nil => cases h1
  | cons c r =>
    have hl : letterB c = true := h1
    have hc : c ≠ 35 ∧ whiteB c = false := by
      constructor
      · rintro rfl; exact absurd hl (by decide)
      · revert hl
        refine all_bytes (p := fun c => letterB c = true → whiteB c = false) ?_ c
        decide +kernel
    have hall : (c :: r).takeWhile (fun x => digitB x || letterB x) = c :: r := (tw_all _ _).2 h2
    refine ⟨by rw [skipN_cons, if_neg hc.1, hc.2]; rfl, ?_, by simpa using h4⟩
    obtain ⟨n1, n2⟩ := letter_nots hl
    unfold tokL
    simp only [if_neg n1, if_neg n2, hl, if_true, hall]
    rw [if_neg (by omega)]
theorem name_iff (l : List UInt8) : nameB l = true ↔ ∃ t n, tokL (l.drop (skipN l)) = .ok (t, n) ∧ t.kind = 1 ∧ skipN l = 0 ∧ n = l.length ∧ keyB l = false := by
  constructor
  · intro h
    obtain ⟨h1, h2, h3⟩ := tok_of_name h
    exact ⟨_, _, by rw [h1]; exact h2, rfl, h1, rfl, h3⟩
  · rintro ⟨t, n, h1, h2, h3, h4, h5⟩
    rw [h3] at h1
    exact name_of_tok h1 h2 h4 h5
end Go.Proofs.Ytbiempopfmpohaa
namespace Go.Proofs.Ytbiempopfmpohaa
open Go.RowKit

theorem depth_part {a p : Rx} (h : p ∈ a.parts) : depthR p + 1 ≤ depthR a := by
  cases a with
  | mk k t S ps lo hi =>
    have hl : ∀ ps : List Rx, p ∈ ps → depthR p ≤ depthL ps := by
      intro ps
      induction ps with
      | nil => intro h; cases h
      | cons x l ih =>
        intro h
        rw [depthL]
        rcases List.mem_cons.1 h with rfl | h
        · omega
        · have := ih h; omega
    have := hl ps h
    show depthR p + 1 ≤ depthL ps + 1
    omega
theorem good_part {a p : Rx} (hg : goodR a) (h : p ∈ a.parts) : goodR p := by
  cases a with
  | mk k t S ps lo hi =>
    have hl : ∀ ps : List Rx, goodL ps → p ∈ ps → goodR p := by
      intro ps
      induction ps with
      | nil => intro _ h; cases h
      | cons x l ih =>
        intro hg h
        rcases List.mem_cons.1 h with rfl | h
        · exact hg.1
        · exact ih hg.2 h
    exact hl ps hg.2 h

set_option maxRecDepth 100000 in
set_option maxHeartbeats 2000000 in
theorem low_step (a : Rx) (IH : ∀ p ∈ a.parts, ∀ (ao : Option Addr) (cap most : Nat) (w : World), depthR p ≤ most → most ≤ 200 → ReAt w w.heap.size p ao cap → Calls Try.prog 15 #[rxV p ao cap, .int .i64 ((most : Nat) : Int)] w fun e w' => e = .returned (.bool true) ∧ Below w.heap.size w w')
    (ao : Option Addr) (cap most : Nat) (w : World) (hd : depthR a ≤ most) (hm : most ≤ 200) (hA : ReAt w w.heap.size a ao cap) :
    Calls Try.prog 15 #[rxV a ao cap, .int .i64 ((most : Nat) : Int)] w fun e w' => e = .returned (.bool true) ∧ Below w.heap.size w w' := by
  have HI := Lib.hid (fun p (h : p ∈ a.parts) ao cap W hr => IH p h ao cap (most - 1) W (by have := depth_part h; omega) (by omega) hr)
  have h1 : 1 ≤ most := by cases a with | mk k t S ps lo hi => have : depthR (.mk k t S ps lo hi) = depthL ps + 1 := rfl; omega
  rw [ReAt_eq] at hA
  obtain ⟨k1, k2, k3, hA⟩ := hA
  have HA := Lib.hid (show ∀ i (hi : i < a.parts.length), ∃ g off, ao = some ⟨g, off, none⟩ ∧ g < w.heap.size ∧ ∃ po pc, R9At w g (off + i * 9) a.parts[i] po pc ∧ ReAt w w.heap.size a.parts[i] po pc from fun i hi => by
    rcases hA with e | ⟨g, off, rfl, hg, hr⟩
    · rw [e] at hi; exact absurd hi (Nat.not_lt_zero _)
    · obtain ⟨po, pc, hh⟩ := (RowAt_iff _ _).1 hr i hi
      exact ⟨g, off, rfl, hg, po, pc, hh⟩)
  clear hA IH
  obtain ⟨len, hlen⟩ : ∃ len, a.parts.length = len := ⟨_, rfl⟩
  rw [hlen] at k1 k2
  have HL := Lib.hid hlen
  have hne : (((most : Nat) : Int) == 0) = false := by simp; omega
  have hV := Blk.new w 27 (rxCells a ao cap)
  have hW := bal0 w (.cells (rxCells a ao cap) 27)
  simp only [rxV, rxCells, hlen] at hV hW ⊢
  have hmw : ((most : Nat) : Int) - 1 = ((most - 1 : Nat) : Int) := by omega
  go_enter Try.func15, Try.ntmps15
  go_wp2
  go_loopw [12] (fun i wr => ∃ j : Nat, j ≤ len ∧ i = .int .i64 j ∧ Below w.heap.size w wr)
    (fun i _ => len - (intOf i).toNat)
  case atStart => exact ⟨0, Nat.zero_le _, rfl, hW⟩
  case round =>
    obtain ⟨j, hj, rfl, hB⟩ := hrel
    by_cases hlt : j < len
    · obtain ⟨g, off, rfl, hg, po, pc, r9, rp⟩ := HA.out j (by rw [HL.out]; exact hlt)
      have hm := HI.out a.parts[j] (List.getElem_mem (by rw [HL.out]; exact hlt))
      generalize a.parts[j] = x at *
      have r9' := r9.below hB hg
      have i0 : (0 : Int) ≤ (j : Int) := by omega
      have i1 : (j : Int) < (len : Int) := by omega
      have hE := Blk.new wr 27 zr9
      have hBa := bal hB (.cells zr9 27)
      have hwr := hB.size
      have hwsz : w.heap.size ≤ wr.heap.size := hB.size
      go_wp2_with (first | (refine wp_ld9 rfl _ rfl g (off + j * 9) x po pc rfl r9' ?_) | (refine wp_put rfl _ _ _ rfl wr.heap.size _ (rxCells x po pc) rfl rfl hE (by rw [size_re]; rfl) rfl (by simp [Value.oneCell']) ?_; intro w5 hE5 hb5; have hB5 := hBa.trans (hb5.low (n := w.heap.size) (by omega) hBa.size)) | (refine wp_get rfl _ _ rfl wr.heap.size (rxCells x po pc) _ rfl hE5 Try.underlying27 rfl (by rw [size_re]; rfl) ?_) | fail)
      refine (hm po pc w5 (rp.go hB5)).mono ?_
      rintro e w6 ⟨rfl, hb6⟩
      have hB6 := btr hB5 hb6
      clear hm rp r9 r9' hE hBa hB5 hb6 hE5 hb5 hB
      go_wp2
      go_roundw
      case rel => exact ⟨j + 1, by omega, by go_num, hB6⟩
      case measure => simp [intOf]; omega
    · obtain rfl : j = len := by omega
      go_wp2
      go_ret
      exact ⟨rfl, hB⟩
theorem low_any : ∀ (n : Nat) (a : Rx), SizeOf.sizeOf a < n → ∀ (ao : Option Addr) (cap most : Nat) (w : World), depthR a ≤ most → most ≤ 200 → ReAt w w.heap.size a ao cap → Calls Try.prog 15 #[rxV a ao cap, .int .i64 ((most : Nat) : Int)] w fun e w' => e = .returned (.bool true) ∧ Below w.heap.size w w'
  | 0, _, h => absurd h (Nat.not_lt_zero _)
  | n + 1, a, h => fun ao cap most w hd hm hA => low_step a (fun p hp => low_any n p (by have := Rx.part_lt hp; omega)) ao cap most w hd hm hA

set_option maxRecDepth 100000 in
set_option maxHeartbeats 2000000 in
theorem often_any (lo hi : Int) (h0 : 0 ≤ lo) (h : hi = -1 ∧ lo ≤ 1 ∨ lo ≤ hi ∧ hi ≤ 64) (w : World) :
    Calls Try.prog 32 #[.int .i64 lo, .int .i64 hi] w fun e w' => e = .returned (.bool true) ∧ w' = w := by
  by_cases hh : hi = -1
  · subst hh
    rcases (show lo = 0 ∨ lo = 1 by omega) with rfl | rfl
    · go_enter Try.func32, Try.ntmps32
      go_wp2
      go_ret
      exact ⟨rfl, rfl⟩
    · go_enter Try.func32, Try.ntmps32
      go_wp2
      go_ret
      exact ⟨rfl, rfl⟩
  · have h1 : (hi == -1) = false := by simpa using hh
    have h2 : lo ≤ hi := by omega
    have h3 : hi ≤ 64 := by omega
    go_enter Try.func32, Try.ntmps32
    go_wp2
    go_ret
    exact ⟨rfl, rfl⟩
set_option maxRecDepth 100000 in
set_option maxHeartbeats 2000000 in
theorem empty_any (so : Option Addr) (sc : Nat) (w : World) :
    Calls Try.prog 33 #[.agg #[.int .i64 0, .string { data := #[] }, .int .u64 0, .int .u64 0, .int .u64 0, .int .u64 0, .slice so 0 sc, .int .i64 0, .int .i64 0]] w fun e w' => e = .returned (.bool true) ∧ Below w.heap.size w w' := by
  have hq : ∀ W : World, (Op.equalIn 10000 24 (.agg #[.int .u64 0, .int .u64 0, .int .u64 0, .int .u64 0]) (.agg #[.int .u64 0, .int .u64 0, .int .u64 0, .int .u64 0])).run Try.prog W = .ok true W := fun W => by
    have := eq_sets2 (fun _ => false) (fun _ => false) W
    rw [(eqs_iff _ _).2 fun _ _ => rfl] at this
    exact this
  have hB := bal0 w (.cells #[.int .i64 0, .string { data := #[] }, .int .u64 0, .int .u64 0, .int .u64 0, .int .u64 0, .slice so 0 sc, .int .i64 0, .int .i64 0] 27)
  go_enter Try.func33, Try.ntmps33
  go_wp2
  go_ret
  exact ⟨rfl, hB⟩
end Go.Proofs.Ytbiempopfmpohaa
