/-
  The walk of the statement LexJoin: of any two texts it returns true; nothing that was there before the call has changed. Conditions: sizes up to 2^47.
-/
import Derived.Test.YtgckhkdjjmeboaaLexAwake
import Derived.Test.YtgckhkdjjmeboaaLexErr
import Derived.Test.YtgckhkdjjmeboaaPast
namespace Go.Proofs.Ytgckhkdjjmeboaa
open Go.RowKit

/-- Moved tokens. -/
def moved (B : List (Tk × Nat)) (d : Nat) : List (Tk × Nat) := B.map fun x => (x.1, x.2 + d)
theorem moved_len (B : List (Tk × Nat)) (d : Nat) : (moved B d).length = B.length := by simp [moved]
theorem join_front (A B : List (Tk × Nat)) {k : Nat} (h : k < A.length) : (A ++ B).getD k (Tk.none, 0) = A.getD k (Tk.none, 0) := by
  simp [List.getD, List.getElem?_append_left h]
theorem join_back (A B : List (Tk × Nat)) (d : Nat) {k : Nat} (h1 : A.length ≤ k) (h2 : k < A.length + B.length) : (A ++ moved B d).getD k (Tk.none, 0) = ((B.getD (k - A.length) (Tk.none, 0)).1, (B.getD (k - A.length) (Tk.none, 0)).2 + d) := by
  have h3 : k - A.length < B.length := by omega
  simp [List.getD, List.getElem?_append_right h1, moved, h3]
theorem all_join (s t : List UInt8) {A : List (Tk × Nat)} (h : allL s 0 = .ok A) : allL (s ++ 10 :: t) 0 = match allL t 0 with
    | .error x => .error (x.1, x.2 + (s.length + 1))
    | .ok B => .ok (A ++ moved B (s.length + 1)) := by
  rw [allL_join t s.length s 0 (Nat.le_refl _) h, Nat.zero_add]
  have := allL_shift (s.length + 1) t.length t 0 (Nat.le_refl _)
  rw [Nat.zero_add] at this
  rw [this]
  cases allL t 0 <;> rfl

theorem AllA.any {l : List UInt8} {w w' : World} {e : Ending} (h : AllA l w e w') : (∃ so n sc q er, e = .returned (.tuple #[.slice so n sc, .int .i64 q, .int .i64 er])) ∧ Below w.heap.size w w' := by
  unfold AllA at h
  split at h
  · obtain ⟨⟨so, sc, rfl⟩, hb⟩ := h
    exact ⟨⟨so, 0, sc, _, _, rfl⟩, hb⟩
  · obtain ⟨ao, cap, rfl, _, _, hb⟩ := h
    exact ⟨⟨ao, _, cap, _, _, rfl⟩, hb⟩

set_option maxRecDepth 100000 in
set_option maxHeartbeats 4000000 in
theorem lexJoin_walk (s t : ByteArray) (hs : s.size ≤ 140737488355328) (ht : t.size ≤ 140737488355328) (w : World) :
    Calls Try.prog 4 #[.string s, .string t] w fun e w' => e = .returned (.bool true) ∧ Below w.heap.size w w' := by
  have w1 : IntKind.i64.wrap ((s.size : Int) + (t.size : Int)) = (s.size : Int) + (t.size : Int) := IntWalk.i64_in _ (by omega)
  by_cases hz : s.size + t.size ≤ 1500
  · have hzi : ¬ (1500 : Int) < (s.size : Int) + (t.size : Int) := by omega
    have hbl := bl_length s
    have hbt := bl_length t
    have R1 := Lib.hid (lall_any s (by omega))
    have R2 := Lib.hid (lall_any t (by omega))
    have hc1 : (s ++ ByteArray.mk #[10]).size = s.size + 1 := by rw [ByteArray.size_append]; rfl
    have hc2 : (s ++ ByteArray.mk #[10] ++ t).size = s.size + 1 + t.size := by rw [ByteArray.size_append, hc1]
    have R3 := Lib.hid (lall_any (s ++ ByteArray.mk #[10] ++ t) (by omega))
    have hb3 : bl (s ++ ByteArray.mk #[10] ++ t) = bl s ++ 10 :: bl t := by rw [bl_append, bl_append, List.append_assoc]; rfl
    rw [hb3] at R3
    clear hb3
    cases h1 : allL (bl s) 0 with
    | error x =>
      obtain ⟨e1, q1⟩ := x
      have hne := allL_err (bl s).length (bl s) 0 (Nat.le_refl _) h1
      have hd : (((e1 : Nat) : Int) != 0) = true := by simpa using fun e : e1 = 0 => hne e
      have hd' : ((e1 : Int) == 0) = false := by simpa using fun e : e1 = 0 => hne e
      have A1 := Lib.hid (fun w w' e (h : AllA (bl s) w e w') => AllA.err h1 h)
      clear hne hbl hbt h1
      go_enter Try.func4, Try.ntmps4
      go_wp2_with fail
      refine (R1.out w).mono ?_
      intro e v1 ha
      obtain ⟨⟨so, sc, rfl⟩, hb1⟩ := A1.out _ _ _ ha
      clear ha
      go_wp2_with fail
      refine (R2.out v1).mono ?_
      intro e v2 ha
      obtain ⟨⟨so2, n2, sc2, q2, er2, rfl⟩, hb2⟩ := AllA.any ha
      have hB2 := btr hb1 hb2
      clear ha
      go_wp2_with fail
      refine (R3.out v2).mono ?_
      intro e v3 ha
      obtain ⟨⟨so3, n3, sc3, q3, er3, rfl⟩, hb3⟩ := AllA.any ha
      have hB3 := btr hB2 hb3
      clear ha
      go_wp2_with fail
      refine (awake_lex v3).mono ?_
      rintro e v4 ⟨rfl, hb4⟩
      have hB4 := btr hB3 hb4
      go_wp2
      go_ret
      exact ⟨rfl, hB4⟩
    | ok A =>
      have hj := all_join (bl s) (bl t) h1
      have hal := allL_len (bl s).length (bl s) 0 (Nat.le_refl _) h1
      have A1 := Lib.hid (fun w w' e (h : AllA (bl s) w e w') => AllA.ok h1 h)
      rw [hbl] at A1 hal hj
      cases h2 : allL (bl t) 0 with
      | error x =>
        obtain ⟨e2, q2⟩ := x
        have hne := allL_err (bl t).length (bl t) 0 (Nat.le_refl _) h2
        have hd : (((e2 : Nat) : Int) != 0) = true := by simpa using fun e : e2 = 0 => hne e
        have hd' : ((e2 : Int) == 0) = false := by simpa using fun e : e2 = 0 => hne e
        rw [h2] at hj
        have A2 := Lib.hid (fun w w' e (h : AllA (bl t) w e w') => AllA.err h2 h)
        have A3 := Lib.hid (fun w w' e (h : AllA (bl s ++ 10 :: bl t) w e w') => AllA.err hj h)
        clear hne hbl hbt h1 h2 hj
        go_enter Try.func4, Try.ntmps4
        go_wp2_with fail
        refine (R1.out w).mono ?_
        intro e v1 ha
        obtain ⟨ao, ac, rfl, _, _, hb1⟩ := A1.out _ _ _ ha
        clear ha
        go_wp2_with fail
        refine (R2.out v1).mono ?_
        intro e v2 ha
        obtain ⟨⟨so2, sc2, rfl⟩, hb2⟩ := A2.out _ _ _ ha
        have hB2 := btr hb1 hb2
        clear ha
        go_wp2_with fail
        refine (R3.out v2).mono ?_
        intro e v3 ha
        obtain ⟨⟨so3, sc3, rfl⟩, hb3⟩ := A3.out _ _ _ ha
        have hB3 := btr hB2 hb3
        clear ha
        go_wp2_with fail
        refine (awake_lex v3).mono ?_
        rintro e v4 ⟨rfl, hb4⟩
        have hB4 := btr hB3 hb4
        go_wp2
        go_ret
        exact ⟨rfl, hB4⟩
      | ok B =>
        rw [h2] at hj
        have hbl2 := allL_len (bl t).length (bl t) 0 (Nat.le_refl _) h2
        rw [hbt] at hbl2
        have A2 := Lib.hid (fun w w' e (h : AllA (bl t) w e w') => AllA.ok h2 h)
        have A3 := Lib.hid (fun w w' e (h : AllA (bl s ++ 10 :: bl t) w e w') => AllA.ok hj h)
        rw [hbt] at A2
        have hl3 : (bl s ++ 10 :: bl t).length = s.size + 1 + t.size := by rw [List.length_append, List.length_cons, hbl, hbt]; omega
        rw [hl3] at A3
        have hpos := Lib.hid (fun k (hk : k < B.length) => (okAt_get (allL_at (bl t).length (bl t) 0 (Nat.le_refl _) h2) hk).2.1)
        rw [hbt] at hpos
        obtain ⟨na, hna⟩ : ∃ n, A.length = n := ⟨_, rfl⟩
        obtain ⟨nb, hnb⟩ : ∃ n, B.length = n := ⟨_, rfl⟩
        have hnc : (A ++ moved B (s.size + 1)).length = na + nb := by rw [List.length_append, moved_len, hna, hnb]
        rw [hna] at A1 hal
        rw [hnb] at A2 hbl2
        rw [hnc] at A3
        have HNA := Lib.hid hna
        have HNB := Lib.hid hnb
        have HNC := Lib.hid hnc
        clear hbl hbt h1 h2 hj hl3 hna hnb hnc
        go_enter Try.func4, Try.ntmps4
        go_wp2_with fail
        refine (R1.out w).mono ?_
        intro e v1 ha
        obtain ⟨ao, ac, rfl, _, k1, hb1⟩ := A1.out _ _ _ ha
        have K1 := Lib.hid k1
        clear ha k1
        go_wp2_with fail
        refine (R2.out v1).mono ?_
        intro e v2 ha
        obtain ⟨bo, bc, rfl, _, k2, hb2⟩ := A2.out _ _ _ ha
        have hB2 := btr hb1 hb2
        have K1 := Lib.hid ((K1.out.below hb2 (Nat.le_refl _)).mono hb2.size)
        have K2 := Lib.hid k2
        clear ha k2 hb1 hb2
        go_wp2_with fail
        refine (R3.out v2).mono ?_
        intro e v3 ha
        obtain ⟨co, cc, rfl, _, k3, hb3⟩ := A3.out _ _ _ ha
        have hB3 := btr hB2 hb3
        have K1 := KAt.hid HNA.out ((K1.out.below hb3 (Nat.le_refl _)).mono hb3.size)
        have K2 := KAt.hid HNB.out ((K2.out.below hb3 (Nat.le_refl _)).mono hb3.size)
        have K3 := KAt.hid HNC.out k3
        clear ha k3 hB2 hb3
        have y1 : IntKind.i64.wrap ((s.size : Int) + 1) = (s.size : Int) + 1 := IntWalk.i64_in _ (by omega)
        have y2 : IntKind.i64.wrap ((s.size : Int) + 1 + (t.size : Int)) = (s.size : Int) + 1 + (t.size : Int) := IntWalk.i64_in _ (by omega)
        have y3 : IntKind.i64.wrap ((na : Int) + (nb : Int)) = (na : Int) + (nb : Int) := IntWalk.i64_in _ (by omega)
        have y4 : ((((s.size + 1 + t.size : Nat) : Int)) != (s.size : Int) + 1 + (t.size : Int)) = false := by simp
        have y5 : ((((na + nb : Nat) : Int)) != (na : Int) + (nb : Int)) = false := by simp
        go_wp2_with fail
        go_loopw [14] (fun i wr => ∃ k : Nat, k ≤ na + nb ∧ i = .int .i64 k ∧ Below v3.heap.size v3 wr)
          (fun i _ => na + nb - (intOf i).toNat)
        case atStart => exact ⟨0, Nat.zero_le _, rfl, Below.refl _ _⟩
        case round =>
          obtain ⟨k, hk, rfl, hW⟩ := hrel
          by_cases hlt : k < na + nb
          · obtain ⟨g3, o3, rfl, hg3, hc3⟩ := K3.out (by omega)
            have h3 := hc3 k hlt wr hW
            have hlti : (k : Int) < (na : Int) + (nb : Int) := by omega
            have hlti' : (k : Int) < ((na + nb : Nat) : Int) := by omega
            have hk0 : (0 : Int) ≤ (k : Int) := by omega
            by_cases hka : k < na
            · obtain ⟨g1, o1, rfl, hg1, hc1⟩ := K1.out (by omega)
              have h1 := hc1 k hka wr hW
              rw [join_front A (moved B (s.size + 1)) (by rw [HNA.out]; exact hka)] at h3
              have hkai : (k : Int) < (na : Int) := by omega
              generalize A.getD k (Tk.none, 0) = x at *
              obtain ⟨u, q⟩ := x
              simp only at h1 h3
              obtain ⟨a0, a1, a2, a3, a4, a5, a6, a7⟩ := h1
              obtain ⟨b0, b1, b2, b3, b4, b5, b6, b7⟩ := h3
              have hq : ∀ w, (Op.equalIn 10000 30 (tokV u ((q : Nat) : Int)) (tokV u ((q : Nat) : Int))).run Try.prog w = .ok true w := fun w => by rw [eq_tok, tkEq_self]
              clear hc1 hc3
              go_wp2_with fail
              go_quiet (fail)
              go_wp2
              go_roundw
              case rel => exact ⟨k + 1, by omega, by go_num, below_drewN hW _⟩
              case measure => simp [intOf]; omega
            · obtain ⟨g2, o2, rfl, hg2, hc2⟩ := K2.out (by omega)
              have h2 := hc2 (k - na) (by omega) wr hW
              have hp2 := hpos.out (k - na) (by rw [HNB.out]; omega)
              rw [join_back A B (s.size + 1) (by rw [HNA.out]; omega) (by rw [HNA.out, HNB.out]; exact hlt), HNA.out] at h3
              have hkai : ¬ (k : Int) < (na : Int) := by omega
              have hge : B.getD (k - na) (Tk.none, 0) = B[k - na]'(by rw [HNB.out]; omega) := by simp [List.getD, show k - na < B.length by rw [HNB.out]; omega]
              rw [← hge] at hp2
              generalize B.getD (k - na) (Tk.none, 0) = x at *
              obtain ⟨u, q⟩ := x
              simp only at h2 h3 hp2
              obtain ⟨a0, a1, a2, a3, a4, a5, a6, a7⟩ := h2
              obtain ⟨b0, b1, b2, b3, b4, b5, b6, b7⟩ := h3
              have hs1 : IntKind.i64.wrap ((k : Int) - (na : Int)) = ((k - na : Nat) : Int) := by rw [show (k : Int) - (na : Int) = ((k - na : Nat) : Int) by omega]; exact IntWalk.i64_in _ (by omega)
              have hs2 : ((k - na : Nat) : Int) < (nb : Int) := by omega
              have hs3 : (0 : Int) ≤ ((k - na : Nat) : Int) := by omega
              have hs4 : IntKind.i64.wrap (((q : Nat) : Int) + (s.size : Int)) = ((q : Nat) : Int) + (s.size : Int) := IntWalk.i64_in _ (by omega)
              have hs5 : IntKind.i64.wrap (((q : Nat) : Int) + (s.size : Int) + 1) = ((q : Nat) : Int) + (s.size : Int) + 1 := IntWalk.i64_in _ (by omega)
              obtain ⟨z, hz'⟩ : ∃ z : Int, (((q + (s.size + 1) : Nat) : Int)) = z := ⟨_, rfl⟩
              rw [hz'] at b7
              have hq : ∀ w, (Op.equalIn 10000 30 (tokV u z) (tokV u (((q : Nat) : Int) + (s.size : Int) + 1))).run Try.prog w = .ok true w := fun w => by rw [eq_tok, tkEq_of rfl rfl (fun _ _ => rfl) rfl (by omega)]
              clear hz'
              have hg0 : decide ((k : Int) < (na : Int)) = false := decide_eq_false hkai
              clear hc2 hc3 hge
              go_wp2_with fail
              go_quiet (fail)
              have hWq := below_drewN hW nq
              have K8a : K8At (wr.drewN nq) g2 (o2 + (k - na) * 8) u ((q : Nat) : Int) := ⟨a0, a1, a2, a3, a4, a5, a6, a7⟩
              have K8b : K8At (wr.drewN nq) g3 (o3 + k * 8) u z := ⟨b0, b1, b2, b3, b4, b5, b6, b7⟩
              have hgl : g3 < (wr.drewN nq).heap.size := Nat.lt_of_lt_of_le hg3 hWq.size
              clear a0 a1 a2 a3 a4 a5 a6 a7 b0 b1 b2 b3 b4 b5 b6 b7
              generalize wr.drewN nq = wq at *
              obtain ⟨a0, a1, a2, a3, a4, a5, a6, a7⟩ := K8a
              obtain ⟨b0, b1, b2, b3, b4, b5, b6, b7⟩ := K8b
              have K8c := K8At.below (W' := wq.alloc (.cells (tokCells u (((q : Nat) : Int) + (s.size : Int) + 1)) 30)) ⟨b0, b1, b2, b3, b4, b5, b6, b7⟩ (bal (Below.refl wq.heap.size wq) _) hgl
              have hX := Blk.new wq 30 (tokCells u (((q : Nat) : Int) + (s.size : Int) + 1))
              have hWx := bal hWq (.cells (tokCells u (((q : Nat) : Int) + (s.size : Int) + 1)) 30)
              go_wp2_with fail
              change Code.wp _ _ _ _ (wq.alloc (.cells (tokCells u (((q : Nat) : Int) + (s.size : Int) + 1)) 30))
              generalize wq.alloc (.cells (tokCells u (((q : Nat) : Int) + (s.size : Int) + 1)) 30) = wx at *
              have f0 := hX.cell 0
              have f1 := hX.cell 1
              have f2 := hX.cell 2
              have f3 := hX.cell 3
              have f4 := hX.cell 4
              have f5 := hX.cell 5
              have f6 := hX.cell 6
              have f7 := hX.cell 7
              simp at f0 f1 f2 f3 f4 f5 f6 f7
              clear a0 a1 a2 a3 a4 a5 a6 a7 b0 b1 b2 b3 b4 b5 b6 b7
              obtain ⟨b0, b1, b2, b3, b4, b5, b6, b7⟩ := K8c
              go_quiet (fail)
              go_wp2
              go_roundw
              case rel => exact ⟨k + 1, by omega, by go_num, below_drewN hWx _⟩
              case measure => simp [intOf]; omega
          · obtain rfl : k = na + nb := by omega
            have hnk : ¬ ((na + nb : Nat) : Int) < (na : Int) + (nb : Int) := by omega
            have hB := btr hB3 hW
            go_wp2_with fail
            refine (awake_lex _).mono ?_
            rintro e v4 ⟨rfl, hb4⟩
            have hB4 := btr hB hb4
            go_wp2
            go_ret
            exact ⟨rfl, hB4⟩
  · have hzi : (1500 : Int) < (s.size : Int) + (t.size : Int) := by omega
    go_enter Try.func4, Try.ntmps4
    go_wp2
    go_ret
    exact ⟨rfl, Below.refl _ _⟩
end Go.Proofs.Ytgckhkdjjmeboaa
