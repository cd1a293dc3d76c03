/-
  Atoms without parts, as the landed parser reads them. Conditions: none but those that each names.
-/
import Derived.Test.YtbiempopfmpohaaPwPL
import Derived.Test.YtbiempopfmpohaaSetWs
namespace Go.Proofs.Ytbiempopfmpohaa
open Go.RowKit

theorem wd_none (k : Nat) : wd noSet k = 0 := zero_set k
/-- The nine cells of an atom. -/
abbrev atC (k : Int) (T : List UInt8) (S : Nat → Bool) : Array Value := #[.int .i64 k, .string (mkS T), .int .u64 ((wd S 0 : Nat) : Int), .int .u64 ((wd S 1 : Nat) : Int), .int .u64 ((wd S 2 : Nat) : Int), .int .u64 ((wd S 3 : Nat) : Int), .slice none 0 0, .int .i64 0, .int .i64 0]
theorem at_cells (k : Int) (T : List UInt8) (S : Nat → Bool) : rxCells (.mk k T S [] 0 0) none 0 = atC k T S := rfl

set_option maxRecDepth 100000 in
set_option maxHeartbeats 1000000 in
theorem ptext_any (B d : Nat) (t : Tk) (p : Nat) (L : List (Tk × Nat)) (w : World) (hR : Rd w B ((t, p) :: L) d) :
    Calls Try.prog 41 #[.pointer (some ⟨B, 0, none⟩)] w fun e w' => e = .returned (.agg (atC 1 t.text noSet)) ∧ Btt B w w' ∧ Rd w' B L d := by
  have hlt := hR.lt
  have hA := hR.alloc (.cells zr9 27)
  have hF := Blk.new w 27 zr9
  have hB0 := Btt.ofB (B := B) (bal0 w (.cells zr9 27))
  have HT := Lib.hid (ptake_any B d t p L _ hA)
  have hfd := fun W => ptok_text t ((p : Nat) : Int) W
  have HC := Lib.hid (show atC 1 t.text noSet = #[.int .i64 1, .string (mkS t.text), .int .u64 0, .int .u64 0, .int .u64 0, .int .u64 0, .slice none 0 0, .int .i64 0, .int .i64 0] by simp [atC, wd_none])
  clear hR hA
  go_enter Try.func41, Try.ntmps41
  go_wp2_with fail
  refine HT.out.mono ?_
  rintro e w2 ⟨rfl, hb2, hR2⟩
  have hF2 := hb2.at hF (by omega)
  have hB2 := hB0.next hb2
  go_wp2_with (first | (refine wp_put rfl _ _ _ rfl w.heap.size _ (atC 1 t.text noSet) rfl (by rw [HC.out]; rfl) hF2 (by rw [size_re]; rfl) rfl (by simp [Value.oneCell']) ?_; intro w3 hF3 hb3) | fail)
  refine ret_blk _ _ _ _ _ rfl rfl rfl hF3 Try.underlying27 rfl (by rw [size_re]; rfl) ?_
  exact ⟨rfl, hB2.own hb3 (Nat.le_refl _), hR2.own hb3 hlt⟩
set_option maxRecDepth 100000 in
set_option maxHeartbeats 1000000 in
theorem pname_any (B d : Nat) (t : Tk) (p : Nat) (L : List (Tk × Nat)) (w : World) (hR : Rd w B ((t, p) :: L) d) :
    Calls Try.prog 43 #[.pointer (some ⟨B, 0, none⟩)] w fun e w' => e = .returned (.agg (atC 3 t.text noSet)) ∧ Btt B w w' ∧ Rd w' B L d := by
  have hlt := hR.lt
  have hA := hR.alloc (.cells zr9 27)
  have hF := Blk.new w 27 zr9
  have hB0 := Btt.ofB (B := B) (bal0 w (.cells zr9 27))
  have HT := Lib.hid (ptake_any B d t p L _ hA)
  have hfd := fun W => ptok_text t ((p : Nat) : Int) W
  have HC := Lib.hid (show atC 3 t.text noSet = #[.int .i64 3, .string (mkS t.text), .int .u64 0, .int .u64 0, .int .u64 0, .int .u64 0, .slice none 0 0, .int .i64 0, .int .i64 0] by simp [atC, wd_none])
  clear hR hA
  go_enter Try.func43, Try.ntmps43
  go_wp2_with fail
  refine HT.out.mono ?_
  rintro e w2 ⟨rfl, hb2, hR2⟩
  have hF2 := hb2.at hF (by omega)
  have hB2 := hB0.next hb2
  go_wp2_with (first | (refine wp_put rfl _ _ _ rfl w.heap.size _ (atC 3 t.text noSet) rfl (by rw [HC.out]; rfl) hF2 (by rw [size_re]; rfl) rfl (by simp [Value.oneCell']) ?_; intro w3 hF3 hb3) | fail)
  refine ret_blk _ _ _ _ _ rfl rfl rfl hF3 Try.underlying27 rfl (by rw [size_re]; rfl) ?_
  exact ⟨rfl, hB2.own hb3 (Nat.le_refl _), hR2.own hb3 hlt⟩
set_option maxRecDepth 100000 in
set_option maxHeartbeats 1000000 in
theorem pset_any (B d : Nat) (t : Tk) (p : Nat) (L : List (Tk × Nat)) (w : World) (hR : Rd w B ((t, p) :: L) d) :
    Calls Try.prog 42 #[.pointer (some ⟨B, 0, none⟩)] w fun e w' => e = .returned (.agg (atC 2 [] t.set)) ∧ Btt B w w' ∧ Rd w' B L d := by
  have hlt := hR.lt
  have hA := hR.alloc (.cells zr9 27)
  have hF := Blk.new w 27 zr9
  have hB0 := Btt.ofB (B := B) (bal0 w (.cells zr9 27))
  have HT := Lib.hid (ptake_any B d t p L _ hA)
  have hfd := fun W => ptok_set t ((p : Nat) : Int) W
  clear hR hA
  go_enter Try.func42, Try.ntmps42
  go_wp2_with fail
  refine HT.out.mono ?_
  rintro e w2 ⟨rfl, hb2, hR2⟩
  have hF2 := hb2.at hF (by omega)
  have hB2 := hB0.next hb2
  go_wp2_with (first | (refine wp_put rfl _ _ _ rfl w.heap.size _ (atC 2 [] t.set) rfl rfl hF2 (by rw [size_re]; rfl) rfl (by simp [Value.oneCell']) ?_; intro w3 hF3 hb3) | fail)
  refine ret_blk _ _ _ _ _ rfl rfl rfl hF3 Try.underlying27 rfl (by rw [size_re]; rfl) ?_
  exact ⟨rfl, hB2.own hb3 (Nat.le_refl _), hR2.own hb3 hlt⟩
set_option maxRecDepth 100000 in
set_option maxHeartbeats 1000000 in
theorem pdot_any (B d : Nat) (t : Tk) (p : Nat) (L : List (Tk × Nat)) (w : World) (hR : Rd w B ((t, p) :: L) d) :
    Calls Try.prog 44 #[.pointer (some ⟨B, 0, none⟩)] w fun e w' => e = .returned (.agg (atC 2 [] allSet)) ∧ Btt B w w' ∧ Rd w' B L d := by
  have hlt := hR.lt
  have hA := hR.alloc (.cells zr9 27)
  have hF := Blk.new w 27 zr9
  have hB0 := Btt.ofB (B := B) (bal0 w (.cells zr9 27))
  have HT := Lib.hid (ptake_any B d t p L _ hA)
  have HN := Lib.hid (fun W => show Calls Try.prog 56 #[.agg zero4] W fun e w' => e = .returned (sv allSet) ∧ Below W.heap.size W w' from neg_to (fun _ => false) W)
  clear hR hA
  go_enter Try.func44, Try.ntmps44
  go_wp2_with fail
  refine HT.out.mono ?_
  rintro e w2 ⟨rfl, hb2, hR2⟩
  have hF2 := hb2.at hF (by omega)
  have hB2 := hB0.next hb2
  go_wp2_with fail
  refine (HN.out _).mono ?_
  rintro e w4 ⟨rfl, hb4⟩
  have hF4 := hF2.below hb4 hF2.lt
  have hR4 := hR2.below hb4 hR2.lt
  have hB4 := hB2.on hb4
  go_wp2_with (first | (refine wp_put rfl _ _ _ rfl w.heap.size _ (atC 2 [] allSet) rfl rfl hF4 (by rw [size_re]; rfl) rfl (by simp [Value.oneCell']) ?_; intro w3 hF3 hb3) | fail)
  refine ret_blk _ _ _ _ _ rfl rfl rfl hF3 Try.underlying27 rfl (by rw [size_re]; rfl) ?_
  exact ⟨rfl, hB4.own hb3 (Nat.le_refl _), hR4.own hb3 hlt⟩

/-- How an atom without parts is read. -/
theorem patom_is (t : Tk) : (∃ a : Rx, atomT t = some a ∧ ((plainF (frF t) = .func (.func 41) #[] #[] ∧ a = .mk 1 t.text noSet [] 0 0) ∨ (plainF (frF t) = .func (.func 42) #[] #[] ∧ a = .mk 2 [] t.set [] 0 0) ∨ (plainF (frF t) = .func (.func 44) #[] #[] ∧ a = .mk 2 [] allSet [] 0 0) ∨ (plainF (frF t) = .func (.func 43) #[] #[] ∧ a = .mk 3 t.text noSet [] 0 0))) ∨ (atomT t = none ∧ plainF (frF t) = .nilFunc) := by
  by_cases h2 : t.kind = 2
  · have hf : frF t = (2, []) := by unfold frF; rw [if_neg (by omega), h2]
    exact .inl ⟨_, by unfold atomT; rw [if_pos h2], .inl ⟨by rw [hf]; rfl, rfl⟩⟩
  by_cases h3 : t.kind = 3
  · have hf : frF t = (3, []) := by unfold frF; rw [if_neg (by omega), h3]
    exact .inl ⟨_, by unfold atomT; rw [if_neg h2, if_pos h3], .inr (.inl ⟨by rw [hf]; rfl, rfl⟩)⟩
  by_cases h4 : t.kind = 4
  · have hf : frF t = (4, t.text) := by unfold frF; rw [if_pos (.inl h4), h4]
    by_cases hd : t.text = [46]
    · exact .inl ⟨_, by unfold atomT; rw [if_neg h2, if_neg h3, if_pos ⟨h4, hd⟩], .inr (.inr (.inl ⟨by rw [hf, hd]; rfl, rfl⟩))⟩
    · refine .inr ⟨by unfold atomT; rw [if_neg h2, if_neg h3, if_neg fun h => hd h.2, if_neg (by omega)], ?_⟩
      rw [hf]
      unfold plainF
      simp [hd]
  by_cases h1 : t.kind = 1
  · cases hk : keyB t.text with
    | false =>
      have hf : frF t = (1, []) := by
        unfold frF
        rw [if_neg, h1]
        rintro (h | ⟨_, h⟩)
        · exact h4 h
        · rw [hk] at h; cases h
      exact .inl ⟨_, by unfold atomT; rw [if_neg h2, if_neg h3, if_neg fun h => h4 h.1, if_pos ⟨h1, hk⟩], .inr (.inr (.inr ⟨by rw [hf]; rfl, rfl⟩))⟩
    | true =>
      have hf : frF t = (1, t.text) := by unfold frF; rw [if_pos (.inr ⟨h1, hk⟩), h1]
      refine .inr ⟨by unfold atomT; rw [if_neg h2, if_neg h3, if_neg fun h => h4 h.1, if_neg fun h => by rw [hk] at h; cases h.2], ?_⟩
      rw [hf]
      have hne : t.text ≠ [] := by intro e; rw [e] at hk; cases hk
      unfold plainF
      simp [hne]
  · have hf : frF t = (t.kind, []) := by
      unfold frF
      rw [if_neg]
      rintro (h | ⟨h, _⟩)
      · exact h4 h
      · exact h1 h
    refine .inr ⟨by unfold atomT; rw [if_neg h2, if_neg h3, if_neg fun h => h4 h.1, if_neg fun h => h1 h.1], ?_⟩
    rw [hf]
    unfold plainF
    simp [h2, h3, h1]
end Go.Proofs.Ytbiempopfmpohaa
