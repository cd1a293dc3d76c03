/-
  Parts, and others while there are more: whatever reads a part, and tells whether there are more. Conditions: those that it names.
-/
import Derived.Test.YtbiempopfmpohaaPwJoin
import Derived.Test.YtbiempopfmpohaaLexNA
import Derived.OwnWalk
import Derived.Maps.AppendAt
namespace Go.Proofs.Ytbiempopfmpohaa
open Go.RowKit

theorem Btt.grown {B : Nat} {w w1 w2 : World} {row : Option Nat} (h : Btt B w w1) (hg : w1.grownBy w2 row) (hr : ∀ k, row = some k → w.heap.size ≤ k) : Btt B w w2 :=
  h.trans (G := fun k => row = some k) ⟨hg.os, hg.tape, hg.output, hg.size, fun k hk hne => hg.block k hk fun e => hne e.symm⟩ fun i hi => .inr (hr i hi)
theorem Blk.grown {W W' : World} {R : Nat} {t : TypeId} {vs : Array Value} {row : Option Nat} (h : Blk W R t vs) (hg : W.grownBy W' row) (hr : row ≠ some R) : Blk W' R t vs := (hg.block R h.lt fun e => hr e.symm).trans h
theorem Rd.grown {W W' : World} {B d : Nat} {L : List (Tk × Nat)} {row : Option Nat} (h : Rd W B L d) (hg : W.grownBy W' row) (hr : ∀ k, row = some k → B < k) : Rd W' B L d :=
  h.below (n := B + 1) ⟨hg.os, hg.tape, hg.output, hg.size, fun k hk => hg.block k (Nat.lt_of_lt_of_le hk (Nat.succ_le_of_lt h.lt)) fun e => by have := hr k e.symm; omega⟩ (Nat.lt_succ_self _)
theorem ReU.grown {W W' : World} {F : Nat → Prop} {row : Option Nat} {a : Rx} {ao : Option Addr} {cap : Nat} (h : ReU W F a ao cap) (hg : W.grownBy W' row) (hr : ∀ k, row = some k → ¬ F k) : ReU W' F a ao cap :=
  h.to fun g hF hl => ⟨hg.block g hl fun e => hr g e.symm hF, hF⟩
theorem pl_len : ∀ {L : List (Tk × Nat)}, Row L → (pl L).length + 1 = L.length
  | [_], _ => rfl
  | _ :: y :: L, h => by
    show ((pl (y :: L)).length + 1) + 1 = (y :: L).length + 1
    rw [pl_len h.2]
theorem own_one (W : World) (base : Nat) (hb : base ≤ W.heap.size) (a : Rx) (ao : Option Addr) (cap : Nat) : (W.alloc (.cells (rxCells a ao cap) 27)).ownsRow base 27 9 (.slice (some ⟨W.heap.size, 0, none⟩) 1 1) 1 (rxsL [(a, ao, cap)]) :=
  ⟨rfl, .inr ⟨W.heap.size, 1, rxCells a ao cap, rfl, hb, Blk.new W _ _, Nat.le_refl _, by decide, rfl, rfl⟩⟩
/-- How many tokens the reader still has. -/
noncomputable def leftN (B : Nat) (W : World) : Nat := match W.cell? ⟨B, 0, none⟩ with
  | some (.slice _ n _) => n
  | _ => 0
theorem Rd.left {W : World} {B d : Nat} {L : List (Tk × Nat)} (h : Rd W B L d) : leftN B W = L.length := by
  obtain ⟨g, o, c, m, h1, _⟩ := h
  unfold leftN
  rw [h1.cell 0]
  rfl
/-- Parts, and others. -/
def partsE (F : List Tk → PAns Rx) (m : List Tk → Option (List Tk)) (G : List Tk → PAns (List Rx)) (T : List Tk) : PAns (List Rx) := match F T with
  | .error x => .error x
  | .ok y => match m y.2 with
    | none => .ok ([y.1], y.2)
    | some R' => match G R' with
      | .error x => .error x
      | .ok z => .ok (y.1 :: z.1, z.2)
/-- What has been read, and what follows. -/
def partsR (m : List Tk → Option (List Tk)) (G : List Tk → PAns (List Rx)) (l : List Rx) (R : List Tk) : PAns (List Rx) := match m R with
  | none => .ok (l, R)
  | some R' => match G R' with
    | .error x => .error x
    | .ok z => .ok (l ++ z.1, z.2)
theorem parts_first {F : List Tk → PAns Rx} {m : List Tk → Option (List Tk)} {G : List Tk → PAns (List Rx)} {T : List Tk} {y : Rx × List Tk} (h : F T = .ok y) : partsE F m G T = partsR m G [y.1] y.2 := by
  unfold partsE partsR
  rw [h]
  simp only
  cases m y.2 with
  | none => rfl
  | some R' =>
    simp only
    cases G R' <;> rfl
theorem parts_next {F : List Tk → PAns Rx} {m : List Tk → Option (List Tk)} {G : List Tk → PAns (List Rx)} (hG : ∀ T, G T = partsE F m G T) {l : List Rx} {R R' : List Tk} {y : Rx × List Tk} (h : m R = some R') (hF : F R' = .ok y) : partsR m G l R = partsR m G (l ++ [y.1]) y.2 := by
  rw [partsR, h]
  simp only
  rw [hG R', parts_first hF, partsR, partsR]
  cases m y.2 with
  | none => rfl
  | some R2 =>
    simp only
    cases G R2 with
    | error x => rfl
    | ok z => simp
/-- Between two rounds. -/
def PRel (B d vb : Nat) (L : List (Tk × Nat)) (w : World) (m : List Tk → Option (List Tk)) (G : List Tk → PAns (List Rx)) (v : Value) (wr : World) : Prop :=
  ∃ (l : List RxI) (L1 : List (Tk × Nat)), wr.ownsRow w.heap.size 27 9 v l.length (rxsL l) ∧ 0 < l.length ∧ (∀ x ∈ l, ReU wr (fun k => w.heap.size ≤ k ∧ v.ownBlock ≠ some k) x.1 x.2.1 x.2.2) ∧ L1 <:+ L ∧ Row L1 ∧ Rd wr B L1 d ∧ Btt B w wr ∧
    Blk wr vb 51 #[.pointer (some ⟨B, 0, none⟩)] ∧ l.length + (pl L1).length ≤ (pl L).length ∧ G (pl L) = partsR m G (l.map (·.1)) (pl L1)
theorem PRel.start {B d vb : Nat} {L L1 : List (Tk × Nat)} {w w1 : World} {m : List Tk → Option (List Tk)} {G : List Tk → PAns (List Rx)} {a : Rx} {ao : Option Addr} {cap : Nat} (hU : ReU w1 (fun k => w.heap.size ≤ k) a ao cap) (hb : Btt B w w1) (hs : L1 <:+ L) (hL1 : Row L1) (hR : Rd w1 B L1 d)
    (hV : Blk w1 vb 51 #[.pointer (some ⟨B, 0, none⟩)]) (hl : (pl L1).length < (pl L).length) (hG : G (pl L) = partsR m G [a] (pl L1)) : PRel B d vb L w m G (.slice (some ⟨w1.heap.size, 0, none⟩) 1 1) (w1.alloc (.cells (rxCells a ao cap) 27)) := by
  refine ⟨[(a, ao, cap)], L1, own_one w1 w.heap.size hb.size a ao cap, Nat.succ_pos _, fun x hx => ?_, hs, hL1, hR.alloc _, hb.alloc _, hV.alloc _, by simp; omega, hG⟩
  obtain rfl := List.mem_singleton.1 hx
  refine hU.to fun g hg hlt => ⟨Below.heap_alloc w1 _ g hlt, hg, fun e => ?_⟩
  have := Option.some.inj (show some w1.heap.size = some g from e)
  omega
theorem PRel.next {B d vb : Nat} {L L3 : List (Tk × Nat)} {w w3 w4 : World} {m : List Tk → Option (List Tk)} {G : List Tk → PAns (List Rx)} {l : List RxI} {v v' : Value} {a : Rx} {ao : Option Addr} {cap : Nat} (_hbase : w.heap.size ≤ w3.heap.size) (hB : B < w.heap.size) (hvb : vb < w.heap.size)
    (hown : (w3.alloc (.cells (rxCells a ao cap) 27)).ownsRow w.heap.size 27 9 v l.length (rxsL l)) (hU : ∀ x ∈ l, ReU w3 (fun k => w.heap.size ≤ k ∧ v.ownBlock ≠ some k) x.1 x.2.1 x.2.2) (hU1 : ReU w3 (fun k => w.heap.size ≤ k ∧ v.ownBlock ≠ some k) a ao cap)
    (hown' : w4.ownsRow w.heap.size 27 9 v' (l.length + 1) (rxsL l ++ (rxCells a ao cap).toList)) (hg : (w3.alloc (.cells (rxCells a ao cap) 27)).grownBy w4 v.ownBlock) (hloc : v'.ownBlock = v.ownBlock ∨ v'.ownBlock = some (w3.alloc (.cells (rxCells a ao cap) 27)).heap.size)
    (hb : Btt B w w3) (hs : L3 <:+ L) (hL3 : Row L3) (hR : Rd w3 B L3 d) (hV : Blk w3 vb 51 #[.pointer (some ⟨B, 0, none⟩)]) (hl : l.length + 1 + (pl L3).length ≤ (pl L).length) (hG : G (pl L) = partsR m G (l.map (·.1) ++ [a]) (pl L3)) : PRel B d vb L w m G v' w4 := by
  have hrow : ∀ k, v.ownBlock = some k → w.heap.size ≤ k := fun k hk => (hown.lt k hk).1
  have hk : ∀ x : RxI, ReU w3 (fun k => w.heap.size ≤ k ∧ v.ownBlock ≠ some k) x.1 x.2.1 x.2.2 → ReU w4 (fun k => w.heap.size ≤ k ∧ v'.ownBlock ≠ some k) x.1 x.2.1 x.2.2 := fun x hx => hx.to fun g hF hlt => by
    refine ⟨(hg.block g (by rw [World.size_alloc]; omega) fun e => hF.2 e.symm).trans (Below.heap_alloc w3 _ g hlt), hF.1, fun e => ?_⟩
    rcases hloc with h | h
    · exact hF.2 (h ▸ e)
    · rw [h, World.size_alloc] at e
      have := Option.some.inj e
      omega
  refine ⟨l ++ [(a, ao, cap)], L3, ?_, by simp, fun x hx => ?_, hs, hL3, (hR.alloc _).grown hg fun k hk => by have := hrow k hk; omega, (hb.alloc _).grown hg hrow, (hV.alloc _).grown hg fun e => by have := hrow _ e; omega, by simpa using hl, by rw [List.map_append]; exact hG⟩
  · rw [rxsL_append, List.length_append]
    exact hown'
  · rcases List.mem_append.1 hx with hx | hx
    · exact hk x (hU x hx)
    · obtain rfl := List.mem_singleton.1 hx
      exact hk _ hU1

set_option maxRecDepth 100000 in
set_option maxHeartbeats 4000000 in
theorem pparts_any (B d : Nat) (L : List (Tk × Nat)) (hL : Row L) (hLn : L.length ≤ 70000) (F : List Tk → PAns Rx) (m : List Tk → Option (List Tk)) (G : List Tk → PAns (List Rx)) (hG : ∀ T, G T = partsE F m G T)
    (hFl : ∀ T y, F T = .ok y → y.2.length < T.length) (hml : ∀ T R, m T = some R → R.length ≤ T.length) (f gm vb : Nat) (ef : ∀ v W, (callFunc f #[v]).run Try.prog W = .ok (.enter f #[v]) W) (eg : ∀ v W, (callFunc gm #[v]).run Try.prog W = .ok (.enter gm #[v]) W)
    (w : World) (hR : Rd w B L d) (hV : Blk w vb 51 #[.pointer (some ⟨B, 0, none⟩)]) (hne : vb ≠ B)
    (hf : ∀ L' W, L' <:+ L → Row L' → Rd W B L' d → Calls Try.prog f #[.pointer (some ⟨B, 0, none⟩)] W fun e w' => PA B d L' W (F (pl L')) e w')
    (hg : ∀ L' W, L' <:+ L → Row L' → Rd W B L' d → Blk W vb 51 #[.pointer (some ⟨B, 0, none⟩)] → Calls Try.prog gm #[.pointer (some ⟨vb, 0, none⟩)] W fun e w' => e = .returned (.bool (m (pl L')).isSome) ∧ Left B d L' W w' ((m (pl L')).getD (pl L'))) :
    Calls Try.prog 26 #[.pointer (some ⟨B, 0, none⟩), .func (.func f) #[] #[], .func (.func gm) #[] #[.pointer (some ⟨vb, 0, none⟩)]] w fun e w' => PL B d L w (G (pl L)) e w' := by
  obtain ⟨i0, hi, hz0, hz1, hz2⟩ := info_parts info_re9
  have HF := Lib.hid hf
  have HM := Lib.hid hg
  have HFL := Lib.hid hFl
  have HML := Lib.hid hml
  have HGE := Lib.hid hG
  have hlt := hR.lt
  have hvlt := hV.lt
  clear hf hg hG hFl hml
  have HF0 := Lib.hid (HF.out L w (List.suffix_refl _) hL hR)
  cases hF0 : F (pl L) with
  | error x =>
    obtain ⟨c, Q⟩ := x
    rw [hF0] at HF0
    have HGV := Lib.hid (show G (pl L) = .error (c, Q) by rw [HGE.out, partsE, hF0])
    clear hF0
    go_enter Try.func26, Try.ntmps26
    go_wp2_with fail
    refine HF0.out.mono ?_
    rintro e w1 ⟨hb1, L1, hs1, hL1, hp1, rfl⟩
    exact ⟨rfl, by unfold PL; rw [HGV.out]; exact ⟨hb1, L1, hs1, hL1, hp1, rfl⟩⟩
  | ok y =>
    obtain ⟨a0, R0⟩ := y
    rw [hF0] at HF0
    have HG0 := Lib.hid (show G (pl L) = partsR m G [a0] R0 by rw [HGE.out, parts_first hF0])
    have HL0 := Lib.hid (HFL.out _ _ hF0)
    clear hF0
    go_enter Try.func26, Try.ntmps26
    go_wp2_with fail
    refine HF0.out.mono ?_
    rintro e w1 ⟨⟨ao, cap, rfl, hU⟩, hb1, L1, hs1, hL1, hp1, hR1⟩
    have hV1 := hb1.at hV hne
    have hP := PRel.start (d := d) (m := m) (G := G) hU hb1 hs1 hL1 hR1 hV1 (by rw [hp1]; exact HL0.out) (by rw [hp1]; exact HG0.out)
    clear HF0 HG0 HL0 hU hb1 hR1 hV1 hp1
    go_wp2_with fail
    go_loopw [7] (fun v wr => PRel B d vb L w m G v wr) (fun _ wr => leftN B wr)
    case atStart => exact hP
    case round =>
      obtain ⟨l, L2, hown, hl0, hU2, hs2, hL2, hR2, hb2, hV2, hcnt, hGl⟩ := hrel
      have hn2 := hR2.left
      have HM2 := Lib.hid (HM.out L2 wr hs2 hL2 hR2 hV2)
      cases hm2 : m (pl L2) with
      | none =>
        rw [hm2] at HM2
        have HGV := Lib.hid (show G (pl L) = .ok (l.map (·.1), pl L2) by rw [hGl, partsR, hm2])
        go_wp2_with fail
        refine HM2.out.mono ?_
        rintro e w3 ⟨rfl, hb3, L3, hs3, hL3, hp3, hR3⟩
        have hown3 := hb3.owns hown (fun k hk e => by have := (hown.lt k hk).1; omega)
        have hU3 : ∀ x ∈ l, ReU w3 (fun k => w.heap.size ≤ k) x.1 x.2.1 x.2.2 := fun x hx => ((hU2 x hx).btt hb3 (.inl fun h => by omega)).mono fun g hF _ => hF.1
        obtain ⟨g, c, rfl, hc1, hc2, hgF, hrow⟩ := row_of_owns (F := fun k => w.heap.size ≤ k) hown3 hl0 (fun _ h => h) hU3
        have HE := Lib.hid (show PL B d L w (G (pl L)) (.returned (.slice (some ⟨g, 0, none⟩) l.length c)) w3 by
          unfold PL
          rw [HGV.out]
          have hlm : (l.map (·.1)).length = l.length := List.length_map ..
          have := pl_len hL
          exact ⟨⟨g, c, by rw [hlm], by rw [hlm]; exact hl0, by rw [hlm]; omega, by rw [hlm]; exact hc1, hc2, hgF, hrow⟩, hb2.next hb3, L3, hs3.trans hs2, hL3, hp3, hR3⟩)
        clear hown3 hU3 hrow hown hU2
        go_wp2
        go_ret
        exact HE.out
      | some R' =>
        rw [hm2] at HM2
        have hR'l := HML.out _ _ hm2
        cases hF2 : F R' with
        | error x =>
          obtain ⟨c, Q⟩ := x
          have HGV := Lib.hid (show G (pl L) = .error (c, Q) by rw [hGl, partsR, hm2]; simp only; rw [HGE.out, partsE, hF2])
          go_wp2_with fail
          refine HM2.out.mono ?_
          rintro e w3 ⟨rfl, hb3, L3, hs3, hL3, hp3, hR3⟩
          have HF3 := Lib.hid (HF.out L3 w3 (hs3.trans hs2) hL3 hR3)
          rw [show pl L3 = R' from hp3, hF2] at HF3
          go_wp2_with fail
          refine HF3.out.mono ?_
          rintro e w4 ⟨hb4, L4, hs4, hL4, hp4, rfl⟩
          exact ⟨rfl, by unfold PL; rw [HGV.out]; exact ⟨(hb2.next hb3).next hb4, L4, (hs4.trans hs3).trans hs2, hL4, hp4, rfl⟩⟩
        | ok y =>
          obtain ⟨a, R3⟩ := y
          have HGV := Lib.hid (show G (pl L) = partsR m G (l.map (·.1) ++ [a]) R3 by rw [hGl, parts_next HGE.out hm2 hF2])
          have hlen := HFL.out _ _ hF2
          go_wp2_with fail
          refine HM2.out.mono ?_
          rintro e w3 ⟨rfl, hb3, L3, hs3, hL3, hp3, hR3⟩
          have HF3 := Lib.hid (HF.out L3 w3 (hs3.trans hs2) hL3 hR3)
          rw [show pl L3 = R' from hp3, hF2] at HF3
          have hown3 := hb3.owns hown (fun k hk e => by have := (hown.lt k hk).1; omega)
          have hU3 : ∀ x ∈ l, ReU w3 (fun k => w.heap.size ≤ k ∧ u7.ownBlock ≠ some k) x.1 x.2.1 x.2.2 := fun x hx => (hU2 x hx).btt hb3 (.inl fun h => by omega)
          have hV3 := hb3.at hV2 hne
          clear hown hU2 hV2 hR2
          go_wp2_with fail
          refine HF3.out.mono ?_
          rintro e w4 ⟨⟨ao', cap', rfl, hUa⟩, hb4, L4, hs4, hL4, hp4, hR4⟩
          have hown4 := hb4.owns hown3 (fun k hk e => by have := (hown3.lt k hk).1; omega)
          have hU4 : ∀ x ∈ l, ReU w4 (fun k => w.heap.size ≤ k ∧ u7.ownBlock ≠ some k) x.1 x.2.1 x.2.2 := fun x hx => (hU3 x hx).btt hb4 (.inl fun h => by omega)
          have hV4 := hb4.at hV3 hne
          have hb34 := (hb2.next hb3).next hb4
          have hUa' : ReU w4 (fun k => w.heap.size ≤ k ∧ u7.ownBlock ≠ some k) a ao' cap' := hUa.mono fun g hF hl => ⟨by have := (hb2.next hb3).size; omega, fun e => by have := (hown3.lt g e).2; omega⟩
          have hsz4 := hb34.size
          have hown5 := hown4.alloc (.cells (rxCells a ao' cap') 27)
          have hlL := pl_len hL
          have hcnt' : l.length + 1 + R3.length ≤ (pl L).length := by omega
          clear hown3 hU3 hV3 hR3 HF3 HM2
          go_wp2_with (first | (at_builtin; refine wpList_append_own_at _ rfl _ _ 25 rfl w.heap.size 27 i0 (.agg zr9) 9 96 Try.underlying25 hi hz0 hz1 hz2 rfl (by decide) u7 l.length (rxsL l) rfl hown5 ⟨w4.heap.size, 0, none⟩ 1 1 (rxCells a ao' cap').toList rfl rfl (cells_new w4 27 (rxCells a ao' cap').toList) (by simp [Value.oneCell']) (by unfold maxLen; omega) (by omega) (by rw [World.size_alloc]; omega) ?_; intro v' w6 hown6 hg6 _ hloc6) | fail)
          have hR6 := (hR4.alloc (.cells (rxCells a ao' cap') 27)).grown hg6 fun k hk => by have := (hown5.lt k hk).1; omega
          have hmeas : leftN B w6 < leftN B wr := by
            have e1 := pl_len hL4
            have e2 := pl_len hL2
            have e3 : (pl L4).length = R3.length := by rw [show pl L4 = R3 from hp4]
            rw [hR6.left, hn2]
            omega
          go_roundw
          case rel => exact PRel.next hsz4 hlt hvlt hown5 hU4 hUa' hown6 hg6 hloc6 hb34 ((hs4.trans hs3).trans hs2) hL4 hR4 hV4 (by rw [show pl L4 = R3 from hp4]; exact hcnt') (by rw [show pl L4 = R3 from hp4]; exact HGV.out)
          case measure =>
            first | exact hmeas | (simp; exact hmeas)
end Go.Proofs.Ytbiempopfmpohaa
