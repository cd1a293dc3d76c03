/-
  The parser's small functions: fronts of tokens. Conditions: none but those that each names.
-/
import Derived.Test.YtbiempopfmpohaaPwKit
namespace Go.Proofs.Ytbiempopfmpohaa
open Go.RowKit

set_option maxRecDepth 100000 in
set_option maxHeartbeats 1000000 in
theorem pkind_any (k : Int) (w : World) :
    Calls Try.prog 24 #[.int .i64 k] w fun e w' => e = .returned (.agg #[.int .i64 k, .string { data := #[] }]) ∧ Below w.heap.size w w' := by
  have hR := Blk.new w 72 #[.int .i64 0, .string { data := #[] }]
  go_enter Try.func24, Try.ntmps24
  go_wp2_with (first | (refine wp_put rfl _ _ _ rfl w.heap.size _ #[.int .i64 k, .string { data := #[] }] rfl rfl hR (by rw [size_front]; rfl) rfl (by simp [Value.oneCell']) ?_; intro w1 hR1 hb1) | fail)
  refine ret_blk _ _ _ _ _ rfl rfl rfl hR1 Try.underlying72 rfl (by rw [size_front]; rfl) ?_
  exact ⟨rfl, (bal0 w _).trans (hb1.low (Nat.le_refl _) (by simp))⟩
set_option maxRecDepth 100000 in
set_option maxHeartbeats 1000000 in
theorem psign_any (s : ByteArray) (w : World) :
    Calls Try.prog 30 #[.string s] w fun e w' => e = .returned (.agg #[.int .i64 4, .string s]) ∧ Below w.heap.size w w' := by
  have hR := Blk.new w 72 #[.int .i64 0, .string { data := #[] }]
  go_enter Try.func30, Try.ntmps30
  go_wp2_with (first | (refine wp_put rfl _ _ _ rfl w.heap.size _ #[.int .i64 4, .string s] rfl rfl hR (by rw [size_front]; rfl) rfl (by simp [Value.oneCell']) ?_; intro w1 hR1 hb1) | fail)
  refine ret_blk _ _ _ _ _ rfl rfl rfl hR1 Try.underlying72 rfl (by rw [size_front]; rfl) ?_
  exact ⟨rfl, (bal0 w _).trans (hb1.low (Nat.le_refl _) (by simp))⟩
set_option maxRecDepth 100000 in
set_option maxHeartbeats 1000000 in
theorem pword_any (s : ByteArray) (w : World) :
    Calls Try.prog 49 #[.string s] w fun e w' => e = .returned (.agg #[.int .i64 1, .string s]) ∧ Below w.heap.size w w' := by
  have hR := Blk.new w 72 #[.int .i64 0, .string { data := #[] }]
  go_enter Try.func49, Try.ntmps49
  go_wp2_with (first | (refine wp_put rfl _ _ _ rfl w.heap.size _ #[.int .i64 1, .string s] rfl rfl hR (by rw [size_front]; rfl) rfl (by simp [Value.oneCell']) ?_; intro w1 hR1 hb1) | fail)
  refine ret_blk _ _ _ _ _ rfl rfl rfl hR1 Try.underlying72 rfl (by rw [size_front]; rfl) ?_
  exact ⟨rfl, (bal0 w _).trans (hb1.low (Nat.le_refl _) (by simp))⟩

set_option maxRecDepth 100000 in
set_option maxHeartbeats 1000000 in
theorem pisword_any (s : ByteArray) (w : World) :
    Calls Try.prog 60 #[.string s] w fun e w' => e = .returned (.bool (keyB (bl s))) ∧ w' = w := by
  have HK := Lib.hid (show keyB (bl s) = (s.toList == [100, 101, 102] || s.toList == [109, 97, 112] || s.toList == [116, 111, 107, 101, 110] || s.toList == [114, 117, 108, 101] || s.toList == [95]) by rw [toList_bl]; rfl)
  cases h1 : s.toList == [100, 101, 102] with
  | true =>
    rw [h1] at HK
    go_enter Try.func60, Try.ntmps60
    go_wp2
    go_ret
    exact ⟨by rw [HK.out]; rfl, rfl⟩
  | false =>
  rw [h1] at HK
  cases h2 : s.toList == [109, 97, 112] with
  | true =>
    rw [h2] at HK
    go_enter Try.func60, Try.ntmps60
    go_wp2
    go_ret
    exact ⟨by rw [HK.out]; rfl, rfl⟩
  | false =>
  rw [h2] at HK
  cases h3 : s.toList == [116, 111, 107, 101, 110] with
  | true =>
    rw [h3] at HK
    go_enter Try.func60, Try.ntmps60
    go_wp2
    go_ret
    exact ⟨by rw [HK.out]; rfl, rfl⟩
  | false =>
  rw [h3] at HK
  cases h4 : s.toList == [114, 117, 108, 101] with
  | true =>
    rw [h4] at HK
    go_enter Try.func60, Try.ntmps60
    go_wp2
    go_ret
    exact ⟨by rw [HK.out]; rfl, rfl⟩
  | false =>
  rw [h4] at HK
  cases h5 : s.toList == [95] with
  | true =>
    rw [h5] at HK
    go_enter Try.func60, Try.ntmps60
    go_wp2
    go_ret
    exact ⟨by rw [HK.out]; rfl, rfl⟩
  | false =>
  rw [h5] at HK
  go_enter Try.func60, Try.ntmps60
  go_wp2
  go_ret
  exact ⟨by rw [HK.out]; rfl, rfl⟩

set_option maxRecDepth 100000 in
set_option maxHeartbeats 1000000 in
theorem pfrontof_any (t : Tk) (a : Int) (w : World) :
    Calls Try.prog 48 #[tokV t a] w fun e w' => e = .returned (frV (frF t)) ∧ Below w.heap.size w w' := by
  have hT := (Blk.new w 65 (tokCells t a)).alloc (.cells #[.int .i64 0, .string { data := #[] }] 72)
  have hR := Blk.new (w.alloc (.cells (tokCells t a) 65)) 72 #[.int .i64 0, .string { data := #[] }]
  have hB := bal (bal0 w (.cells (tokCells t a) 65)) (.cells #[.int .i64 0, .string { data := #[] }] 72)
  rw [World.size_alloc] at hR
  have k0 := hT.cell 0
  have k1 := hT.cell 1
  simp at k0 k1
  have hne : w.heap.size ≠ w.heap.size + 1 := by omega
  have HI := Lib.hid (fun W => pisword_any (mkS t.text) W)
  rw [bl_mkS] at HI
  cases h4 : (((t.kind : Nat) : Int) == 4) with
  | true =>
    have HF := Lib.hid (show frF t = (t.kind, t.text) by
      rw [beq_iff_eq] at h4
      exact if_pos (.inl (by omega)))
    go_enter Try.func48, Try.ntmps48
    go_wp2_with (first | (refine wp_put rfl _ _ _ rfl (w.heap.size + 1) _ (frCells (t.kind, t.text)) rfl rfl hR (by rw [size_front]; rfl) rfl (by simp [Value.oneCell']) ?_; intro w1 hR1 hb1) | fail)
    refine ret_blk _ _ _ _ _ rfl rfl rfl hR1 Try.underlying72 rfl (by rw [size_front]; rfl) ?_
    exact ⟨by rw [HF.out], hB.trans (hb1.low (by omega) (by simp; omega))⟩
  | false =>
    cases h1 : (((t.kind : Nat) : Int) == 1) with
    | true =>
      cases hk : keyB t.text with
      | true =>
        rw [hk] at HI
        have HF := Lib.hid (show frF t = (t.kind, t.text) by
          rw [beq_iff_eq] at h1
          exact if_pos (.inr ⟨by omega, hk⟩))
        go_enter Try.func48, Try.ntmps48
        go_wp2_with fail
        refine (HI.out _).mono ?_
        rintro e w1 ⟨rfl, h⟩
        subst w1
        go_wp2_with (first | (refine wp_put rfl _ _ _ rfl (w.heap.size + 1) _ (frCells (t.kind, t.text)) rfl rfl hR (by rw [size_front]; rfl) rfl (by simp [Value.oneCell']) ?_; intro w1 hR1 hb1) | fail)
        refine ret_blk _ _ _ _ _ rfl rfl rfl hR1 Try.underlying72 rfl (by rw [size_front]; rfl) ?_
        exact ⟨by rw [HF.out], hB.trans (hb1.low (by omega) (by simp; omega))⟩
      | false =>
        rw [hk] at HI
        have HF := Lib.hid (show frF t = (t.kind, []) by
          rw [beq_eq_false_iff_ne] at h4
          refine if_neg ?_
          rintro (h | ⟨_, h⟩)
          · omega
          · rw [hk] at h; cases h)
        go_enter Try.func48, Try.ntmps48
        go_wp2_with fail
        refine (HI.out _).mono ?_
        rintro e w1 ⟨rfl, h⟩
        subst w1
        go_wp2_with fail
        refine (pkind_any _ _).mono ?_
        rintro e w2 ⟨rfl, hb2⟩
        have hR2 := hR.below hb2 hR.lt
        have hB2 := btr hB hb2
        go_wp2_with (first | (refine wp_put rfl _ _ _ rfl (w.heap.size + 1) _ (frCells (t.kind, [])) rfl rfl hR2 (by rw [size_front]; rfl) rfl (by simp [Value.oneCell']) ?_; intro w3 hR3 hb3) | fail)
        refine ret_blk _ _ _ _ _ rfl rfl rfl hR3 Try.underlying72 rfl (by rw [size_front]; rfl) ?_
        exact ⟨by rw [HF.out], hB2.trans (hb3.low (by omega) hB2.size)⟩
    | false =>
      have HF := Lib.hid (show frF t = (t.kind, []) by
        rw [beq_eq_false_iff_ne] at h4 h1
        refine if_neg ?_
        rintro (h | ⟨h, _⟩)
        · omega
        · omega)
      go_enter Try.func48, Try.ntmps48
      go_wp2_with fail
      refine (pkind_any _ _).mono ?_
      rintro e w2 ⟨rfl, hb2⟩
      have hR2 := hR.below hb2 hR.lt
      have hB2 := btr hB hb2
      go_wp2_with (first | (refine wp_put rfl _ _ _ rfl (w.heap.size + 1) _ (frCells (t.kind, [])) rfl rfl hR2 (by rw [size_front]; rfl) rfl (by simp [Value.oneCell']) ?_; intro w3 hR3 hb3) | fail)
      refine ret_blk _ _ _ _ _ rfl rfl rfl hR3 Try.underlying72 rfl (by rw [size_front]; rfl) ?_
      exact ⟨by rw [HF.out], hB2.trans (hb3.low (by omega) hB2.size)⟩
end Go.Proofs.Ytbiempopfmpohaa
