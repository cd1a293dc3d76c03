/-
  The walk of the statement InternSame: of any row of rows and any two places it returns true; nothing that was there before the call has changed. Conditions: the rows lie in memory as a slice.
-/
import Derived.Test.YtbnnfhpphelmfaaInternSameM
import Derived.Test.YtbnnfhpphelmfaaPast
import Derived.Deep.CutRange
import Derived.Deep.RegionHeld3
namespace Go.Proofs.Ytbnnfhpphelmfaa
open Go.RowKit

/-- What the last statement reads, in every world that it comes through. -/
abbrev Look4 (w : World) (gg o1 o2 g o3 : Nat) (a b c : Value) (W : World) : Prop :=
  W.cell? ⟨gg, o1, none⟩ = some a ∧ W.cell? ⟨gg, o2, none⟩ = some b ∧ W.cell? ⟨g, o3, none⟩ = some c ∧ Below w.heap.size w W ∧ gg < w.heap.size ∧ g < w.heap.size
theorem Look4.step {w : World} {gg o1 o2 g o3 : Nat} {a b c : Value} {W W' : World} (h : Look4 w gg o1 o2 g o3 a b c W) (hb : Below W.heap.size W W') : Look4 w gg o1 o2 g o3 a b c W' := by
  obtain ⟨h1, h2, h3, h4, h5, h6⟩ := h
  have := h4.size
  exact ⟨(hb.cell (p := ⟨gg, o1, none⟩) (by simp only; omega)).trans h1, (hb.cell (p := ⟨gg, o2, none⟩) (by simp only; omega)).trans h2, (hb.cell (p := ⟨g, o3, none⟩) (by simp only; omega)).trans h3, btr h4 hb, h5, h6⟩
theorem Look4.drew {w : World} {gg o1 o2 g o3 : Nat} {a b c : Value} {W : World} (h : Look4 w gg o1 o2 g o3 a b c W) : Look4 w gg o1 o2 g o3 a b c W.drew := ⟨h.1, h.2.1, h.2.2.1, h.2.2.2.1.drew, h.2.2.2.2⟩
theorem Look4.b {w : World} {gg o1 o2 g o3 : Nat} {a b c : Value} {W : World} (h : Look4 w gg o1 o2 g o3 a b c W) : Below w.heap.size w W := h.2.2.2.1

set_option maxRecDepth 100000 in
set_option maxHeartbeats 4000000 in
theorem internSame_main (ao : Option Addr) (la ca : Nat) (L : List (List Int)) (i k : Nat) (hla : L.length = la) (hma : la ≤ maxLen) (f1 : FewL L) (hRL : RngL L) (hi : i < la) (hk : k < la) (w : World) (hA : RsAt w ao L w.heap.size) :
    Calls Try.prog 5 #[.slice ao la ca, .int .i64 (i : Int), .int .i64 (k : Int)] w fun e w' => e = .returned (.bool true) ∧ Below w.heap.size w w' := by
  have F1 := Lib.hid (few_any ao la ca L hla hma w hA)
  rw [(fewB_iff L).2 f1] at F1
  have HLA := Lib.hid hla
  have h80 := f1.1
  rw [hla] at h80
  have HM1 := Lib.hid f1.2
  have HRL := Lib.hid hRL
  have HA := RsAt.hid hla hA
  have hi0 : ¬ (i : Int) < 0 := by omega
  have hk0 : ¬ (k : Int) < 0 := by omega
  have hi1 : ¬ (la : Int) ≤ (i : Int) := by omega
  have hk1 : ¬ (la : Int) ≤ (k : Int) := by omega
  obtain ⟨i0, hi', hz0, hz1, hz2⟩ := info_parts info_num
  clear hla hA f1 hRL
  go_enter Try.func5, Try.ntmps5
  go_wp2_with fail
  refine F1.out.mono ?_
  rintro e w1 ⟨rfl, hb1⟩
  go_wp2_with fail
  refine (new_any w1).mono ?_
  rintro e w2 ⟨a, F, rfl, hT, hb2, hF⟩
  have HB2 := Lib.hid (btr hb1 hb2)
  have HT := Lib.hid hT
  have HF := Lib.hid (fun x h => Nat.le_trans hb1.size (hF x h))
  clear hb1 hb2 hT hF
  go_wp2_with fail
  go_loopw [8, 9] (fun gv q wr => ∃ (j : Nat) (P : List (List Int)) (F : Nat → Prop) (N : List Int), j ≤ la ∧ q = .int .i64 j ∧ P.length ≤ j ∧ N.length = j ∧ Tb wr a P F ∧ (∀ x, F x → w.heap.size ≤ x) ∧ wr.ownsRow w.heap.size 3 1 gv j (numCells N) ∧ (∀ x, gv.ownBlock = some x → ¬ F x) ∧ Hid (∀ q, q < j → ∃ n : Nat, posTo (srt (L.getD q [])) P = some n ∧ N.getD q 0 = (n : Int)) ∧ Below w.heap.size w wr)
    (fun _ q _ => la - (intOf q).toNat)
  case atStart => exact ⟨0, [], F, [], Nat.zero_le _, rfl, Nat.le_refl _, rfl, HT.out, HF.out, World.ownsRow_nil _ _ _ _, fun x h => by simp [Value.ownBlock] at h, Lib.hid fun q h => absurd h (Nat.not_lt_zero _), HB2.out⟩
  case round =>
    clear HB2 HT HF
    obtain ⟨j, P, F, N, hj, rfl, hP, hN, hT, hF, hown, hgF, hpos, hW⟩ := hrel
    by_cases hlt : j < la
    · obtain ⟨g, off, rfl, hg, hc⟩ := HA.out (by omega)
      obtain ⟨so, sc, hsc, hsm, hcw⟩ := hc j hlt
      have hx60 := HM1.out j (by rw [HLA.out]; exact hlt)
      obtain ⟨ck, hxi⟩ := hcw wr hW
      obtain ⟨xs, hxs⟩ : ∃ xs, L.getD j [] = xs := ⟨_, rfl⟩
      have HXS := Lib.hid hxs
      have HRX := Lib.hid (HRL.out.is hxs)
      rw [hxs] at hsc hx60 ck hxi
      obtain ⟨lx, hlx⟩ : ∃ n, xs.length = n := ⟨_, rfl⟩
      rw [hlx] at hsc hx60 ck
      have HLX := Lib.hid hlx
      clear hc hcw hsm hxs hlx
      have hlti : (j : Int) < (la : Int) := by omega
      have hj0 : (0 : Int) ≤ (j : Int) := by omega
      obtain ⟨n, hp1, hp2, hp3⟩ := put_pos (P := P) (s := srt xs) (by omega)
      have hpl := putL_len P (srt xs)
      have HKE := Lib.hid (fun t m (h : posTo t P = some m) => put_keeps (s := srt xs) h)
      have HPO := Lib.hid hp1
      have HRP := Lib.hid (row_pos hp1)
      have hsl := srt_length xs
      obtain ⟨vo, vc, rfl, hvc⟩ := owns_form hown
      have hgvlt := hown.lt
      go_wp2_with fail
      refine (ownints_any so lx sc xs HLX.out (by omega) wr hxi).mono ?_
      rintro e v1 ⟨x, rfl, hownx, hb1⟩
      have HT1 := Lib.hid (hT.below hb1)
      have hTlt := hT.lt
      have hown1 := owns_belowN hown hb1
      have hxlt := hownx.lt
      rw [← HLX.out] at hownx
      obtain ⟨xo, xc, rfl, hxc, _, hxat⟩ := IAt.of_owns hownx
      rw [HLX.out] at hownx hxc hxlt ⊢
      have hW1 := btr hW hb1
      have HPU := Lib.hid (put_any a P F xo lx xc xs HLX.out (by omega) HRX.out (by omega) v1 HT1.out hxat)
      rw [hp2, hp3] at HPU
      clear hp1 hp2 hp3 hxi ck hT hown hxat HT1
      go_wp2_with fail
      refine HPU.out.mono ?_
      rintro e v2 ⟨rfl, F2, hT2, hu2, hF2⟩
      have hW2 : Below w.heap.size w v2 := hW1.trans (hu2.below hW1.size hF)
      have hxF : ∀ x, (Value.slice xo lx xc).ownBlock = some x → ¬ F x := fun x h f => by
        have := hTlt x f
        have := hxlt x h
        omega
      have hownx2 := hu2.owns hownx hxF
      have hown2 := hu2.owns hown1 hgF
      have hxF2 : ∀ x, (Value.slice xo lx xc).ownBlock = some x → ¬ F2 x := fun x h f => by
        rcases hF2 x f with f | f
        · exact hxF x h f
        · have := hxlt x h; omega
      have hgF2 : ∀ x, (Value.slice vo j vc).ownBlock = some x → ¬ F2 x := fun x h f => by
        rcases hF2 x f with f | f
        · exact hgF x h f
        · have := hgvlt x h
          have := hb1.size
          omega
      have hF2w : ∀ x, F2 x → w.heap.size ≤ x := fun x f => by
        rcases hF2 x f with f | f
        · exact hF x f
        · have := hW1.size; omega
      have hsz2 := hW2.size
      clear HPU hF2 hxF hgF hown1 hownx
      go_wp2_with (first | (at_builtin; refine wpList_append_own_at _ rfl _ _ 22 rfl w.heap.size 3 i0 (.int .i64 0) 1 8 Try.underlying22 hi' hz0 hz1 hz2 rfl (by decide) (.slice vo j vc) j (numCells N) rfl (hown2.alloc (.cells #[.int .i64 (n : Int)] 3)) ⟨v2.heap.size, 0, none⟩ 1 1 [.int .i64 (n : Int)] rfl rfl (cell_one_new _ _ _) (by simp [Value.oneCell']) (by unfold maxLen; omega) (by omega) (by rw [World.size_alloc]; omega) ?_; intro gv3 v3 hown3 hg3 _ hat3) | fail)
      have hsa : (v2.alloc (.cells #[.int .i64 (n : Int)] 3)).heap.size = v2.heap.size + 1 := by simp
      have hlow3 := grown_lowN (hown2.alloc (.cells #[.int .i64 (n : Int)] 3)) (by omega) hg3
      have hW3 : Below w.heap.size w v3 := (bal hW2 _).trans hlow3
      have hT3 := (hT2.below (bal (Below.refl _ _) (.cells #[.int .i64 (n : Int)] 3))).but (But.of_grown hg3) fun x f e => hgF2 x e f
      have hgx : ∀ x, (Value.slice xo lx xc).ownBlock = some x → gv3.ownBlock ≠ some x := fun x h e => by
        have := hxlt x h
        rcases hat3 with e3 | e3
        · have := hgvlt x (e3 ▸ e); omega
        · rw [e3, hsa] at e
          have := Option.some.inj e
          have := hownx2.lt x h
          omega
      have hownx3 := (But.of_grown hg3).owns (hownx2.alloc (.cells #[.int .i64 (n : Int)] 3)) fun x h e => by
        have := hxlt x h
        have := hgvlt x e
        omega
      have hgF3 : ∀ x, gv3.ownBlock = some x → ¬ F2 x := fun x h f => by
        rcases hat3 with e3 | e3
        · exact hgF2 x (e3 ▸ h) f
        · rw [e3, hsa] at h
          have := Option.some.inj h
          have := hT2.lt x f
          omega
      rw [show numCells N ++ [.int .i64 (n : Int)] = numCells (N ++ [(n : Int)]) by simp [numCells]] at hown3
      have hxn : ∀ x, (Value.slice xo lx xc).ownBlock = some x → w.heap.size ≤ x := fun x h => by
        have := hxlt x h
        have := hW.size
        omega
      clear hT2 hown2 hownx2 hgF2 hg3 hat3 hlow3 hW2 hu2 hsa hgvlt hxlt hTlt hb1 hW1 hF hvc
      have hwn := hW.size
      clear hW
      obtain ⟨bs, hbs⟩ : ∃ bs, wr.heap.size = bs := ⟨_, rfl⟩
      rw [hbs] at hownx3 hwn
      clear hbs
      obtain ⟨P', hP'⟩ : ∃ q, putL P (srt xs) = q := ⟨_, rfl⟩
      obtain ⟨bq, hbq⟩ : ∃ q, putB P (srt xs) = q := ⟨_, rfl⟩
      rw [hP'] at hpl HKE HPO HRP hT3
      rw [hbq]
      clear hP' hbq
      have HX0 := Lib.hid hownx3
      have HT3 := Lib.hid hT3
      have HOW3 := Lib.hid hown3
      have HGX := Lib.hid hgx
      have HGF := Lib.hid hgF3
      have HXF := Lib.hid hxF2
      have HXN := Lib.hid hxn
      clear hownx3 hT3 hown3 hgx hgF3 hxF2 hxn
      generalize wr = wo at *
      go_loopw [14] (fun q wr => ∃ p : Nat, p ≤ lx ∧ q = .int .i64 p ∧ But (fun k => (Value.slice xo lx xc).ownBlock = some k) v3 wr ∧ ∃ ys, wr.ownsRow bs 3 1 (.slice xo lx xc) lx ys)
        (fun q _ => lx - (intOf q).toNat)
      case atStart => exact ⟨0, Nat.zero_le _, rfl, But.refl _ _, _, HX0.out⟩
      case round =>
        obtain ⟨p, hp, rfl, hbut, ys, hox⟩ := hrel
        by_cases hpl2 : p < lx
        · obtain ⟨gx, rfl, ⟨u, hu⟩, hfz, hset⟩ := owns_wipe hox hpl2
          have hp0 : (0 : Int) ≤ (p : Int) := by omega
          have hp1 : (p : Int) < (lx : Int) := by omega
          obtain ⟨hs1, hs2⟩ := hset (.int .i64 (-7))
          have HS := Lib.hid (hbut.trans hs2 fun x h => .inl h)
          have HS1 := Lib.hid hs1
          clear hset hox hbut hs1 hs2
          go_wp2
          go_roundw
          case rel => exact ⟨p + 1, by omega, by go_num, HS.out, HS1.out⟩
          case measure => simp [intOf]; omega
        · obtain rfl : p = lx := by omega
          have hnp : ¬ (p : Int) < (p : Int) := by omega
          have hT4 := HT3.out.but hbut fun x f e => HXF.out x e f
          have hown4 := hbut.owns HOW3.out fun x h e => HGX.out x e h
          have hW4 := hW3.trans (hbut.below hW3.size HXN.out)
          have HRW := Lib.hid (row_any a P' F2 (n : Int) (by have := (posTo_lt HPO.out).1; omega) (by omega) wr hT4)
          rw [HRP.out.1, HRP.out.2] at HRW
          clear hbut hox HX0 HT3 HOW3 HGX HXF HXN
          have hTlt4 := hT4.lt
          have hgl4 := hown4.lt
          go_wp2_with fail
          refine HRW.out.mono ?_
          rintro e v5 ⟨y, rfl, howny, hb5⟩
          obtain ⟨yo, yc, rfl, hyc⟩ := owns_form howny
          have hylt := howny.lt
          have HT5 := Lib.hid (hT4.below hb5)
          have HOW5 := Lib.hid (owns_belowN hown4 hb5)
          have hW5 := btr hW4 hb5
          have HYF := Lib.hid (fun x (h : (Value.slice yo (srt xs).length yc).ownBlock = some x) (f : F2 x) => show False by
            have := hylt x h
            have := hTlt4 x f
            omega)
          have HYG := Lib.hid (fun x (h : (Value.slice yo (srt xs).length yc).ownBlock = some x) (e : gv3.ownBlock = some x) => show False by
            have := hylt x h
            have := hgl4 x e
            omega)
          have HYN := Lib.hid (fun x (h : (Value.slice yo (srt xs).length yc).ownBlock = some x) => show w.heap.size ≤ x by
            have := hylt x h
            have := hW4.size
            omega)
          obtain ⟨by', hby⟩ : ∃ b, wr.heap.size = b := ⟨_, rfl⟩
          rw [hby] at howny
          have HY0 := Lib.hid howny
          obtain ⟨ly, hly⟩ : ∃ n, (srt xs).length = n := ⟨_, rfl⟩
          rw [hly] at HYF HYG HYN HY0 hsl ⊢
          have hlyb : ly ≤ 60 := by have := HLX.out; omega
          clear hT4 hown4 hW4 HRW hTlt4 hgl4 howny hylt hb5 hby hly hyc
          generalize wr = wp at *
          go_wp2_with fail
          go_loopw [17] (fun q wr => ∃ p : Nat, p ≤ ly ∧ q = .int .i64 p ∧ But (fun k => (Value.slice yo ly yc).ownBlock = some k) v5 wr ∧ ∃ ys, wr.ownsRow by' 3 1 (.slice yo ly yc) ly ys)
            (fun q _ => ly - (intOf q).toNat)
          case atStart => exact ⟨0, Nat.zero_le _, rfl, But.refl _ _, _, HY0.out⟩
          case round =>
            obtain ⟨p2, hp2, rfl, hbut, ys2, hoy⟩ := hrel
            by_cases hpl3 : p2 < ly
            · obtain ⟨gy, rfl, ⟨u, hu⟩, hfz, hset⟩ := owns_wipe hoy hpl3
              have hp0 : (0 : Int) ≤ (p2 : Int) := by omega
              have hp1 : (p2 : Int) < (ly : Int) := by omega
              obtain ⟨hs1, hs2⟩ := hset (.int .i64 (-7))
              have HS := Lib.hid (hbut.trans hs2 fun x h => .inl h)
              have HS1 := Lib.hid hs1
              clear hset hoy hbut hs1 hs2
              go_wp2
              go_roundw
              case rel => exact ⟨p2 + 1, by omega, by go_num, HS.out, HS1.out⟩
              case measure => simp [intOf]; omega
            · obtain rfl : p2 = ly := by omega
              have hnp2 : ¬ (p2 : Int) < (p2 : Int) := by omega
              have hT6 := HT5.out.but hbut fun x f e => HYF.out x e f
              have hown6 := hbut.owns HOW5.out fun x h e => HYG.out x e h
              have hW6 := hW5.trans (hbut.below hW5.size HYN.out)
              clear hbut hoy HY0 HT5 HOW5 HYF HYG HYN
              go_wp2
              go_roundw
              case rel =>
                refine ⟨j + 1, P', F2, N ++ [(n : Int)], by omega, by go_num, by omega, by rw [List.length_append, hN]; rfl, hT6, hF2w, hown6, HGF.out, Lib.hid fun q hq => ?_, hW6⟩
                rcases Nat.lt_or_ge q j with h | h
                · obtain ⟨m, e1, e2⟩ := hpos.out q h
                  refine ⟨m, HKE.out _ _ e1, ?_⟩
                  rw [← e2]
                  simp [List.getD, List.getElem?_append_left (show q < N.length by omega)]
                · obtain rfl : q = j := by omega
                  refine ⟨n, by rw [HXS.out]; exact HPO.out, ?_⟩
                  simp [List.getD, ← hN]
              case measure => simp [intOf]; omega
    · obtain rfl : j = la := by omega
      have hnj : ¬ (j : Int) < (j : Int) := by omega
      obtain ⟨n1, hp1, hg1⟩ := hpos.out i hi
      obtain ⟨n2, hp2, hg2⟩ := hpos.out k hk
      rw [← hN] at hown
      obtain ⟨go, gc, rfl, _, _, hgat⟩ := IAt.of_owns hown
      rw [hN]
      obtain ⟨gg, goff, rfl, hgg, hgc⟩ := (IAt.hid hN hgat).out (by omega)
      have HG := Lib.hid (fun (W : World) (h : Below wr.heap.size wr W) => (show W.cell? ⟨gg, goff + i, none⟩ = some (.int .i64 (n1 : Int)) ∧ W.cell? ⟨gg, goff + k, none⟩ = some (.int .i64 (n2 : Int)) from ⟨by rw [← hg1]; exact hgc i hi W h, by rw [← hg2]; exact hgc k hk W h⟩))
      obtain ⟨g, off, rfl, hg, hc⟩ := HA.out (by omega)
      obtain ⟨so1, sc1, hsc1, hsm1, hcw1⟩ := hc i hi
      obtain ⟨so2, sc2, hsc2, hsm2, hcw2⟩ := hc k hk
      have hx1 := HM1.out i (by rw [HLA.out]; exact hi)
      have hx2 := HM1.out k (by rw [HLA.out]; exact hk)
      have HPS := Lib.hid (pos_same hp1 hp2)
      have HRP := Lib.hid (row_pos hp1)
      have HFP := Lib.hid (fnd_pos hp2)
      have HN1 := Lib.hid (posTo_lt hp1).1
      have HCK1 := Lib.hid (fun (W : World) (h : Below w.heap.size w W) => (hcw1 W h).1)
      have HCK2 := Lib.hid (fun (W : World) (h : Below w.heap.size w W) => (hcw2 W h).1)
      have HIX1 := Lib.hid (fun (W : World) (h : Below w.heap.size w W) => (hcw1 W h).2)
      have HIX2 := Lib.hid (fun (W : World) (h : Below w.heap.size w W) => (hcw2 W h).2)
      have S1 := Lib.hid (fun (W : World) (h : Below w.heap.size w W) => sort_own so1 _ sc1 (L.getD i []) rfl (by omega) W (HIX1.out W h))
      have S2 := Lib.hid (fun (W : World) (h : Below w.heap.size w W) => sort_own so2 _ sc2 (L.getD k []) rfl (by omega) W (HIX2.out W h))
      have HSL := Lib.hid (srt_length (L.getD i []))
      have HRX2 := Lib.hid (HRL.out.at k)
      clear hc hcw1 hcw2 hgc hp1 hp2 hg1 hg2 hpos hgat hown hF hgF HA hsm1 hsm2 HIX1
      generalize L.getD i [] = xs1 at *
      generalize L.getD k [] = xs2 at *
      generalize srt xs1 = s1 at *
      have hs1 : s1.length ≤ maxLen := by have := HSL.out; unfold maxLen; omega
      obtain ⟨nb, hnb⟩ : ∃ nb, decide (s1 = srt xs2) = nb := ⟨_, rfl⟩
      have hnn : ((n1 : Int) == (n2 : Int)) = nb := by
        rw [← hnb, Bool.eq_iff_iff, beq_iff_eq, decide_eq_true_iff]
        exact ⟨fun h => HPS.out.1 (by omega), fun h => by rw [HPS.out.2 h]⟩
      have hbb : (nb == nb) = true := beq_self_eq_true _
      have HT := Lib.hid (fun (W : World) (h : Below wr.heap.size wr W) => hT.below h)
      have hi0' : (0 : Int) ≤ (i : Int) := by omega
      have hk0' : (0 : Int) ≤ (k : Int) := by omega
      have hi1' : (i : Int) < (j : Int) := by omega
      have hk1' : (k : Int) < (j : Int) := by omega
      have c1 := HCK1.out wr hW
      have c2 := HCK2.out wr hW
      have hWd : Below w.heap.size w wr.drew := hW.drew
      have hId : Below wr.heap.size wr wr.drew := (Below.refl _ wr).drew
      clear hT hi0 hk0 hi1 hk1
      have HWW := Lib.hid hW
      go_upto_region 24 with fail
      go_cut [18] from 98 to 108 (fun s18 wx => s18 = .bool nb ∧ Below wr.heap.size wr wx)
      case first =>
        have tok1 : True := trivial
        go_region_with (first
          | (go_at_call 12; have _t := tok1; clear tok1 _t; refine (S1.out _ hWd).mono ?_; rintro e x1 ⟨v, rfl, ho1, hb1⟩; obtain ⟨s1o, s1c, rfl, _, _, hs1a⟩ := IAt.of_owns ho1; have hW1 := btr hWd hb1; have hI1 := btr hId hb1; have c2' := HCK2.out x1 hW1)
          | (go_at_call 12; refine (S2.out _ hW1).mono ?_; rintro e x2 ⟨v, rfl, ho2, hb2⟩; obtain ⟨s2o, s2c, rfl, _, _, hs2a⟩ := IAt.of_owns ho2; have hW2 := btr hW1 hb2; have hI2 := btr hI1 hb2; have hs1b := (hs1a.below hb2 (Nat.le_refl _)).mono hb2.size)
          | (go_at_call 11; refine (ints2_any s1o s2o _ s1c _ s2c s1 (srt xs2) rfl rfl hs1 x2 hs1b hs2a).mono ?_; rw [hnb]; rintro e x3 ⟨rfl, hb3⟩; have hI3 := btr hI2 hb3))
        all_goals
          go_wp2_with fail
          go_meet
          case rel => exact ⟨rfl, hI3⟩
      case rest =>
        obtain ⟨rfl, hI⟩ := hcut
        have hWx := btr HWW.out hI
        obtain ⟨cg1, cg2⟩ := HG.out _ hI
        have HRW := Lib.hid (row_any a P F (n1 : Int) (by have := HN1.out; omega) (by omega) wc (HT.out wc hI))
        rw [HRP.out.1, HRP.out.2] at HRW
        have ckx := HCK2.out wc hWx
        clear c1 c2 hWd hId hW
        go_wp2_with fail
        refine HRW.out.mono ?_
        rintro e y1 ⟨v, rfl, ho1, hb1⟩
        obtain ⟨ro, rc, rfl, _, _, hr1⟩ := IAt.of_owns ho1
        have hI1 := btr hI hb1
        have hW1 := btr hWx hb1
        have ck1 := HCK2.out y1 hW1
        have HFN := Lib.hid (find_any a P F so2 _ sc2 xs2 rfl (by omega) HRX2.out y1 (HT.out y1 hI1) (HIX2.out y1 hW1))
        rw [HFP.out] at HFN
        clear cg1 cg2 ckx HRW ho1 hb1
        go_wp2_with fail
        refine HFN.out.mono ?_
        rintro e y2 ⟨rfl, hb2⟩
        have hI2 := btr hI1 hb2
        have hW2 := btr hW1 hb2
        have hr2 := (hr1.below hb2 (Nat.le_refl _)).mono hb2.size
        clear ck1 HFN hr1 hb2
        have HR2 := Lib.hid hr2
        obtain ⟨cg1, cg2⟩ := HG.out y2 hI2
        have ci := HCK1.out y2 hW2
        have HI : Look4 y2 gg (goff + i) (goff + k) g (off + i) (.int .i64 (n1 : Int)) (.int .i64 (n2 : Int)) (.slice so1 xs1.length sc1) y2.drew := Look4.drew ⟨cg1, cg2, ci, Below.refl _ _, Nat.lt_of_lt_of_le hgg hI2.size, Nat.lt_of_lt_of_le hg hW2.size⟩
        have he2 : ((n2 : Int) == (n2 : Int)) = true := beq_self_eq_true _
        clear hr2 cg1 cg2 ci
        go_upto_region 27 with fail
        go_region_held3 (fun W' => W'.cell? ⟨gg, goff + i, none⟩ = some (.int .i64 (n1 : Int)) ∧ W'.cell? ⟨gg, goff + k, none⟩ = some (.int .i64 (n2 : Int)) ∧ W'.cell? ⟨g, off + i, none⟩ = some (.slice so1 xs1.length sc1) ∧ Below y2.heap.size y2 W' ∧ gg < y2.heap.size ∧ g < y2.heap.size)
          ((first | with_reducible exact HI | exact Look4.step (by assumption) (by assumption)))
          (first
            | (go_at_call 10; refine (awake_intern _).mono ?_; rintro e w' ⟨rfl, hb⟩)
            | (go_at_call 12; refine (S1.out _ ?hx).mono ?_; (case hx => exact btr hW2 (Look4.b (w := y2) (gg := gg) (o1 := goff + i) (o2 := goff + k) (g := g) (o3 := off + i) (by assumption))); rintro e y4 ⟨v, rfl, ho4, hb4⟩; obtain ⟨s4o, s4c, rfl, _, _, hs4a⟩ := IAt.of_owns ho4)
            | (go_at_call 11; refine (ints2_any ro s4o _ rc _ s4c s1 s1 rfl rfl hs1 y4 ?hx hs4a).mono ?_; (case hx => (have hd4 : Below y2.heap.size y2 y4 := Look4.b (w := y2) (gg := gg) (o1 := goff + i) (o2 := goff + k) (g := g) (o3 := off + i) (by assumption)); exact (HR2.out.below hd4 (Nat.le_refl _)).mono hd4.size); rw [decide_eq_true (rfl : s1 = s1)]; rintro e y5 ⟨rfl, hb5⟩))
        have HB := Lib.hid (Look4.b (w := y2) (gg := gg) (o1 := goff + i) (o2 := goff + k) (g := g) (o3 := off + i) (by assumption))
        go_wp2_with fail
        go_ret
        exact ⟨rfl, btr hW2 HB.out⟩
end Go.Proofs.Ytbnnfhpphelmfaa
