/-
  The walk of package part's Over: ErrArg of what is no partition, or where the set has some bytes of a part, but not all; else which parts are in the set, in a new slice; nothing that was there before the call has changed. Conditions: the sets lie in memory as a slice, fewer than 2^40 of them; the table of math/bits as it is laid.
-/
import Derived.Test.YtjfjfbefhdabeaaDoorPartIsP
import Derived.Test.YtjfjfbefhdabeaaDoorPartRefC
namespace Go.Proofs.YtjfjfbefhdabeaaDoor
open Go.RowKit

/-- Which of the first k parts are in the set; none, if it has some bytes of one, but not all. -/
def ovTo (P : List (Nat → Bool)) (S : Nat → Bool) : Nat → Option (List Nat)
  | 0 => some []
  | k + 1 => match ovTo P S k with
    | none => none
    | some l => if eqs (cand (P.getD k no) S) no then some l else if eqs (cand (P.getD k no) S) (P.getD k no) then some (l ++ [k]) else none
def ov (P : List (Nat → Bool)) (S : Nat → Bool) : Option (List Nat) := ovTo P S P.length
theorem ovTo_none {P : List (Nat → Bool)} {S : Nat → Bool} {k : Nat} (h : ovTo P S k = none) : ∀ m, k ≤ m → ovTo P S m = none := by
  intro m
  induction m with
  | zero => intro hm; obtain rfl : k = 0 := by omega
            exact h
  | succ m ih =>
    intro hm
    by_cases e : k = m + 1
    · subst e; exact h
    · rw [ovTo, ih (by omega)]
theorem ovTo_bound {P : List (Nat → Bool)} {S : Nat → Bool} : ∀ k l, ovTo P S k = some l → l.length ≤ k ∧ ∀ x ∈ l, x < k
  | 0, l, h => by cases h; exact ⟨Nat.le_refl _, by simp⟩
  | k + 1, l, h => by
    rw [ovTo] at h
    cases hk : ovTo P S k with
    | none => rw [hk] at h; cases h
    | some m =>
      obtain ⟨h1, h2⟩ := ovTo_bound k m hk
      rw [hk] at h
      simp only at h
      split at h
      · cases h; exact ⟨by omega, fun x hx => by have := h2 x hx; omega⟩
      · split at h
        · cases h
          refine ⟨by simp; omega, fun x hx => ?_⟩
          rw [List.mem_append, List.mem_singleton] at hx
          rcases hx with hx | rfl
          · have := h2 x hx; omega
          · omega
        · cases h
theorem ovTo_skip {P : List (Nat → Bool)} {S : Nat → Bool} {k : Nat} {l : List Nat} (h : ovTo P S k = some l) (h1 : eqs (cand (P.getD k no) S) no = true) : ovTo P S (k + 1) = some l := by
  rw [ovTo, h]; simp only; rw [if_pos h1]
theorem ovTo_take {P : List (Nat → Bool)} {S : Nat → Bool} {k : Nat} {l : List Nat} (h : ovTo P S k = some l) (h1 : eqs (cand (P.getD k no) S) no = false) (h2 : eqs (cand (P.getD k no) S) (P.getD k no) = true) : ovTo P S (k + 1) = some (l ++ [k]) := by
  rw [ovTo, h]; simp only; rw [if_neg (by rw [h1]; decide), if_pos h2]
theorem ov_bad {P : List (Nat → Bool)} {S : Nat → Bool} {k : Nat} {l : List Nat} (hk : k < P.length) (h : ovTo P S k = some l) (h1 : eqs (cand (P.getD k no) S) no = false) (h2 : eqs (cand (P.getD k no) S) (P.getD k no) = false) : ov P S = none := by
  refine ovTo_none (k := k + 1) ?_ _ hk
  rw [ovTo, h]; simp only; rw [if_neg (by rw [h1]; decide), if_neg (by rw [h2]; decide)]

theorem over_bad (ao : Option Addr) (len cap : Nat) (P : List (Nat → Bool)) (S : Nat → Bool) (hl : P.length = len) (hlen : len ≤ 1099511627776) (w : World) (hT : Tab w) (hS : SAt w ao P w.heap.size) (hp : ¬ IsPart P) :
    Calls Tryd.prog 17 #[.slice ao len cap, sv S] w fun e w' => e = .returned (.tuple #[.slice none 0 0, .int .i64 1]) ∧ Below w.heap.size w w' := by
  have HL := Lib.hid hl
  have hf := partB_f hp
  have hB0 := bal (Below.refl w.heap.size w) (.cells (cells4 S) 35)
  have HB := Lib.hid hB0
  have HS := Lib.hid ((hS.below hB0 (Nat.le_refl _)).mono hB0.size)
  have HT := Lib.hid (hT.below' hB0)
  clear hS hp hT hl hB0
  go_enter Tryd.func17, Tryd.ntmps17
  go_wp2_with fail
  refine (isPart_any ao len cap P HL.out hlen _ HT.out HS.out).mono ?_
  rw [hf]
  rintro e w1 ⟨rfl, hb1⟩
  have hB1 := btr HB.out hb1
  clear hb1
  go_wp2
  go_ret2
  exact ⟨rfl, hB1⟩

set_option maxRecDepth 100000 in
set_option maxHeartbeats 4000000 in
theorem over_any (ao : Option Addr) (len cap : Nat) (P : List (Nat → Bool)) (S : Nat → Bool) (hl : P.length = len) (hlen : len ≤ 1099511627776) (w : World) (hT : Tab w) (hS : SAt w ao P w.heap.size) (hp : IsPart P) :
    Calls Tryd.prog 17 #[.slice ao len cap, sv S] w fun e w' => ∃ v, e = .returned v ∧ ((∃ l bo bc, ov P S = some l ∧ v = .tuple #[.slice bo l.length bc, .int .i64 0] ∧ IAt w' bo (l.map fun x : Nat => (x : Int)) w'.heap.size) ∨ (ov P S = none ∧ v = .tuple #[.slice none 0 0, .int .i64 1])) ∧ Below w.heap.size w w' := by
  obtain ⟨i0, hi, hz0, hz1, hz2⟩ := info_parts info_int
  have HL := Lib.hid hl
  have HSW := Lib.hid hS
  have ht := (partB_iff P).2 hp
  have hgd := guard25
  have hB0 := bal (Below.refl w.heap.size w) (.cells (cells4 S) 35)
  have HB := Lib.hid hB0
  have HS := Lib.hid ((hS.below hB0 (Nat.le_refl _)).mono hB0.size)
  have HT := Lib.hid (hT.below' hB0)
  have hS0 := Blk.new w 35 (cells4 S)
  clear hS hT hl hB0 hp
  go_enter Tryd.func17, Tryd.ntmps17
  go_wp2_with fail
  refine (isPart_any ao len cap P HL.out hlen _ HT.out HS.out).mono ?_
  rw [ht]
  rintro e w0 ⟨rfl, hb0⟩
  have HB0 := Lib.hid (btr HB.out hb0)
  have HS0 := Lib.hid (hS0.below hb0 hS0.lt)
  clear hb0 ht hS0
  go_wp2_with fail
  go_loopw [6, 15] (fun v i wr => ∃ (k : Nat) (l : List Nat), k ≤ len ∧ i = .int .i64 k ∧ Hid (ovTo P S k = some l) ∧ wr.ownsRow (w.heap.size + 1) 3 1 v l.length (repCells l) ∧ Blk wr w.heap.size 35 (cells4 S) ∧ Below w.heap.size w wr)
    (fun _ i _ => len - (intOf i).toNat)
  case atStart => exact ⟨0, [], Nat.zero_le _, rfl, Lib.hid rfl, World.ownsRow_nil _ _ _ _, HS0.out, HB0.out⟩
  case round =>
    obtain ⟨k, l, hk, rfl, hov, hown, hSb, hB⟩ := hrel
    obtain ⟨hll, hlx⟩ := ovTo_bound k l hov.out
    by_cases hlt : k < len
    · obtain ⟨g, off, rfl, hg, hc⟩ := HSW.out (by rw [HL.out]; omega)
      have hkP : k < P.length := by rw [HL.out]; exact hlt
      obtain ⟨t0, t1, t2, t3⟩ := (hc k hkP).below hB hg
      obtain ⟨s0, s1, s2, s3⟩ := hSb.cells
      have hskip := Lib.hid (ovTo_skip hov.out)
      have htake := Lib.hid (ovTo_take hov.out)
      have hbad := Lib.hid (ov_bad hkP hov.out)
      clear hc hkP
      generalize P.getD k no = T at t0 t1 t2 t3 hskip htake hbad
      have hlti : (k : Int) < (len : Int) := by omega
      have hsz := hSb.lt
      have hTx := Blk.new wr 35 (cells4 T)
      have hSx := hSb.alloc (.cells (cells4 T) 35)
      have hBx := bal hB (.cells (cells4 T) 35)
      have hownx := hown.alloc (.cells (cells4 T) 35)
      go_wp2_with fail
      refine (both_to T S _).mono ?_
      rintro e w1 ⟨rfl, hb1⟩
      have hT1 := (hTx.below hb1 hTx.lt).alloc (.cells (cells4 (cand T S)) 35)
      have hS1 := (hSx.below hb1 hSx.lt).alloc (.cells (cells4 (cand T S)) 35)
      have hB1 := bal (btr hBx hb1) (.cells (cells4 (cand T S)) 35)
      have hown1 := (owns_below hownx hb1).alloc (.cells (cells4 (cand T S)) 35)
      have hC1 := Blk.new w1 35 (cells4 (cand T S))
      obtain ⟨r0, r1, r2, r3⟩ := hT1.cells
      clear t0 t1 t2 t3 s0 s1 s2 s3 hTx hSx hBx hownx hown hSb hB hb1
      have hq1 : ∀ w, (Op.equalIn 10000 35 (sv (cand T S)) (.agg zero4)).run Tryd.prog w = .ok (eqs (cand T S) no) w := fun w => eq_sets2 (cand T S) no w
      have hq2 : ∀ w, (Op.equalIn 10000 35 (sv (cand T S)) (sv T)).run Tryd.prog w = .ok (eqs (cand T S) T) w := fun w => eq_sets2 (cand T S) T w
      have hsz1 : w.heap.size + 1 ≤ w1.heap.size + 1 := by have := hS1.lt; simp at this; omega
      cases h1 : eqs (cand T S) no with
      | true =>
        have HO := Lib.hid (hskip.out h1)
        rw [h1] at hq1
        clear hskip htake hbad hT1
        go_wp2
        go_roundw
        case rel => exact ⟨k + 1, l, by omega, by go_num, HO, hown1, hS1, hB1⟩
        case measure => simp [intOf]; omega
      | false =>
        rw [h1] at hq1
        cases h2 : eqs (cand T S) T with
        | false =>
          have HO := Lib.hid (hbad.out h1 h2)
          rw [h2] at hq2
          clear hskip htake hbad
          go_wp2
          go_ret2
          exact ⟨_, rfl, .inr ⟨HO.out, rfl⟩, hB1⟩
        | true =>
          have HO := Lib.hid (htake.out h1 h2)
          rw [h2] at hq2
          clear hskip htake hbad
          obtain ⟨po, pc, rfl⟩ := owns_slice hown1
          go_wp2_with (first | (at_builtin; refine wpList_append_own _ rfl _ _ 26 rfl (w.heap.size + 1) 3 i0 (.int .i64 0) 1 8 Tryd.underlying26 hi hz0 hz1 hz2 rfl (by decide) _ _ _ rfl (hown1.alloc _) ⟨w1.heap.size + 1, 0, none⟩ 1 1 [.int .i64 (k : Int)] rfl rfl (fun j u hu => by have := cell_one_new (w1.alloc (.cells (cells4 (cand T S)) 35)) (.int .i64 (k : Int)) 3 j u hu; simpa using this) (by simp [Value.oneCell']) (by unfold maxLen; omega) (by omega) (by simp; omega) ?_; intro v' w3 hown3 hg3 _) | fail)
          have hlow := grown_low _ hown1 hS1.lt hg3
          have hS3 := hS1.below hlow (by omega)
          have hB3 := hB1.trans (hlow.mono (by omega))
          have e4 : repCells l ++ [.int .i64 (k : Int)] = repCells (l ++ [k]) := by simp [repCells]
          rw [e4] at hown3
          clear r0 r1 r2 r3 hT1 hS1 hB1 hown1 hC1 hg3 hlow e4
          go_roundw
          case rel => exact ⟨k + 1, l ++ [k], by omega, by go_num, HO, by rw [List.length_append]; exact hown3, hS3, hB3⟩
          case measure => simp [intOf]; omega
    · obtain rfl : k = len := by omega
      have HO := Lib.hid (show ov P S = some l by unfold ov; rw [HL.out]; exact hov.out)
      have hown' : wr.ownsRow (w.heap.size + 1) 3 1 u6 (l.map fun x : Nat => (x : Int)).length ((l.map fun x : Nat => (x : Int)).map (Value.int .i64)) := by
        rw [List.length_map, List.map_map]; exact hown
      obtain ⟨bo, bc, rfl, hat⟩ := IAt.of_owns hown'
      rw [List.length_map]
      have HA := Lib.hid hat
      clear hown hown' hat hSb hov
      go_wp2
      go_ret2
      exact ⟨_, rfl, .inl ⟨l, bo, bc, HO.out, rfl, HA.out⟩, hB⟩
end Go.Proofs.YtjfjfbefhdabeaaDoor
