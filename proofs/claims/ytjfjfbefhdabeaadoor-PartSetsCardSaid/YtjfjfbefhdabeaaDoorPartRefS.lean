/-
  The walk of the reference's Sets: ErrArg of what are no classes, else the sets of the classes in a new slice; nothing that was there before the call has changed. Conditions: the numbers lie in memory as a slice.
-/
import Derived.Test.YtjfjfbefhdabeaaDoorPartIsClass
import Derived.Test.YtjfjfbefhdabeaaDoorPartMap
import Derived.Test.YtjfjfbefhdabeaaDoorSetRef3
namespace Go.Proofs.YtjfjfbefhdabeaaDoor
open Go.RowKit

theorem cell4n (w : World) (a b c d : Value) (t : TypeId) : ∀ j u, [a, b, c, d][j]? = some u → (w.alloc (.cells #[a, b, c, d] t)).cell? ((⟨w.heap.size, 0, none⟩ : Addr).add j) = some u := by
  intro j u hj
  match j, hj with
  | 0, hj => simp at hj; subst hj; simp [Addr.add]
  | 1, hj => simp at hj; subst hj; simp [Addr.add]
  | 2, hj => simp at hj; subst hj; simp [Addr.add]
  | 3, hj => simp at hj; subst hj; simp [Addr.add]
  | j + 4, hj => simp at hj

set_option maxRecDepth 100000 in
set_option maxHeartbeats 400000 in
theorem refsets_all (ao : Option Addr) (len cap : Nat) (xs : List Int) (hl : xs.length = len) (hlen : len ≤ 1099511627776) (w : World) (hS : IAt w ao xs w.heap.size) :
    Calls Tryd.prog 16 #[.slice ao len cap] w fun e w' => ∃ v, e = .returned v ∧ ((ClassOk xs ∧ ∃ u, v = .tuple #[u, .int .i64 0] ∧ w'.ownsRow w.heap.size 35 4 u (prts (natOf xs) 256).length (setCells (prts (natOf xs) 256))) ∨ (¬ ClassOk xs ∧ v = .tuple #[.slice none 0 0, .int .i64 1])) ∧ Below w.heap.size w w' := by
  obtain ⟨i0, hi, hz0, hz1, hz2⟩ := info_parts info_set
  have HL := Lib.hid hl
  have HS := Lib.hid hS
  have hmb := make_bools
  clear hl hS
  by_cases hle : len = 256
  · subst hle
    go_enter Tryd.func16, Tryd.ntmps16
    go_wp2
    go_loopw [4, 5] (fun u i wr => ∃ (k : Nat) (y : Int), k ≤ 256 ∧ i = .int .i64 k ∧ u = .int .i64 y ∧ y + 1 = ((nx (natOf xs) k : Nat) : Int) ∧ Hid ((∀ b, b < k → 0 ≤ xs.getD b 0) ∧ rgs (natOf xs) k) ∧ Below w.heap.size w wr)
      (fun _ i _ => 256 - (intOf i).toNat)
    case atStart => exact ⟨0, -1, by decide, rfl, rfl, rfl, Lib.hid ⟨fun b h => by omega, fun b h => by omega⟩, Below.refl _ _⟩
    case round =>
      obtain ⟨k, y, hk, rfl, rfl, hy, hok, hBw⟩ := hrel
      by_cases hlt : k < 256
      · obtain ⟨g, off, rfl, hg, hc⟩ := HS.out (by rw [HL.out]; decide)
        have ck := (hBw.cell (p := ⟨g, off + k, none⟩) hg).trans (hc k (by rw [HL.out]; exact hlt))
        have hn := nx_le (natOf xs) k (fun b hb => hok.out.2 b hb)
        have hst := Lib.hid (show nx (natOf xs) (k + 1) = max (nx (natOf xs) k) ((xs.getD k 0).toNat + 1) from rfl)
        have hrg := Lib.hid (show 0 ≤ xs.getD k 0 → xs.getD k 0 ≤ ((nx (natOf xs) k : Nat) : Int) → rgs (natOf xs) (k + 1) from fun h0 h1 b hb => by
          by_cases e : b = k
          · subst e; unfold natOf at *; omega
          · exact hok.out.2 b (by omega))
        have hbad := Lib.hid (show ¬ (0 ≤ xs.getD k 0 ∧ xs.getD k 0 ≤ ((nx (natOf xs) k : Nat) : Int)) → ¬ ClassOk xs from fun hn h => hn ⟨h.pos k hlt, by
          have h1 := h.rgs k hlt
          have h2 := h.cast k hlt
          omega⟩)
        have hpos := Lib.hid (show 0 ≤ xs.getD k 0 → ∀ b, b < k + 1 → 0 ≤ xs.getD b 0 from fun h0 b hb => by
          by_cases e : b = k
          · subst e; exact h0
          · exact hok.out.1 b (by omega))
        clear hc
        generalize hx : xs.getD k 0 = x at ck hst hrg hbad hpos
        clear hx
        have hlti : (k : Int) < 256 := by omega
        generalize hnn : nx (natOf xs) k = n at *
        clear hnn
        have hw : IntKind.i64.wrap (y + 1) = y + 1 := IntWalk.i64_in _ (by omega)
        by_cases h0 : x < 0
        · have hb := Lib.hid (hbad.out (by omega))
          clear hst hrg hbad hpos
          go_wp2
          go_ret2
          exact ⟨.tuple #[.slice none 0 0, .int .i64 1], rfl, .inr ⟨hb.out, rfl⟩, hBw⟩
        · by_cases h1 : y + 1 < x
          · have hb := Lib.hid (hbad.out (by omega))
            clear hst hrg hbad hpos
            go_wp2
            go_ret2
            exact ⟨.tuple #[.slice none 0 0, .int .i64 1], rfl, .inr ⟨hb.out, rfl⟩, hBw⟩
          · have hrg' := Lib.hid (hrg.out (by omega) (by omega))
            have hpos' := Lib.hid (hpos.out (by omega))
            have HST := Lib.hid (show (if y < x then x else y) + 1 = ((nx (natOf xs) (k + 1) : Nat) : Int) by rw [hst.out]; split <;> omega)
            clear hst hrg hbad hpos
            go_wp2
            go_roundw
            case rel => exact ⟨k + 1, _, by omega, by go_num, rfl, HST.out, Lib.hid ⟨hpos'.out, hrg'.out⟩, hBw⟩
            case measure => simp [intOf]; omega
      · have hk256 : k = 256 := by omega
        rw [hk256] at hy hok
        have hkge : ¬ (k : Int) < 256 := by omega
        clear hk256 hlt hk
        generalize (k : Int) = k5 at *
        have HC := Lib.hid (show ClassOk xs from ⟨HL.out, hok.out.1, hok.out.2⟩)
        have hpl := prts_length (natOf xs) 256
        have hnb := nx_le (natOf xs) 256 HC.out.rgs
        have hgt := Lib.hid (fun k h => prts_get (natOf xs) 256 k h)
        rw [← hpl] at hy hnb hgt
        clear hpl hok
        generalize hRD : prts (natOf xs) 256 = R at *
        have HRD := Lib.hid hRD
        clear hRD
        generalize hR : R.length = N at *
        have HR := Lib.hid hR
        clear hR
        go_wp2_with fail
        go_loopw [6, 7] (fun v kk wr => ∃ k : Nat, k ≤ N ∧ kk = .int .i64 k ∧ wr.ownsRow w.heap.size 35 4 v k (setCells (R.take k)) ∧ Below w.heap.size w wr)
          (fun _ kk _ => N - (intOf kk).toNat)
        case atStart => exact ⟨0, Nat.zero_le _, rfl, World.ownsRow_nil _ _ _ _, hBw⟩
        case round =>
          clear hBw
          obtain ⟨k, hkN, rfl, hown, hB⟩ := hrel
          by_cases hkl : k < N
          · have hst := Lib.hid (take_snoc R k (by rw [HR.out]; exact hkl))
            have hgk := Lib.hid (hgt.out k hkl)
            have hcmp : (k : Int) ≤ y := by omega
            have hszw := hB.size
            have hMa := Lib.hid (Blk.new wr 4 (bools fun _ => false))
            have HBI := Lib.hid hB
            have HOW := Lib.hid hown
            clear hB hown
            generalize wr = wi at *
            go_wp2_with fail
            go_loopw [9] (fun bb wr => ∃ b : Nat, b ≤ 256 ∧ bb = .int .i64 b ∧ Blk wr wi.heap.size 4 (bools (under (fun i => natOf xs i == k) b)) ∧ Below wi.heap.size wi wr)
              (fun bb _ => 256 - (intOf bb).toNat)
            case atStart => exact ⟨0, by decide, rfl, by rw [under_zero]; exact hMa.out, bal (Below.refl _ _) _⟩
            case round =>
              obtain ⟨b, hb, rfl, hM, hbi⟩ := hrel
              by_cases hbl : b < 256
              · obtain ⟨g, off, rfl, hg, hc⟩ := HS.out (by rw [HL.out]; decide)
                have ck := ((btr HBI.out hbi).cell (p := ⟨g, off + b, none⟩) hg).trans (hc b (by rw [HL.out]; exact hbl))
                rw [← HC.out.cast b hbl] at ck
                have hstep := Lib.hid (by_step (fun i => natOf xs i == k) b)
                obtain ⟨t, ht⟩ : ∃ t, (natOf xs b == k) = t := ⟨_, rfl⟩
                have hce : (((natOf xs b : Nat) : Int) == (k : Int)) = t := by
                  rw [← ht, Bool.eq_iff_iff, beq_iff_eq, beq_iff_eq]; omega
                have HT := Lib.hid ht
                clear hc ht
                generalize ((natOf xs b : Nat) : Int) = xv at ck hce
                have hs := (hM.cell b).trans (bools_get _ b hbl)
                have hsf := hM.frozen b
                have h1 := hM.set b (.bool t)
                have hbb : (b : Int) < 256 := by omega
                go_wp2
                clear hs hsf ck hce
                go_roundw
                case rel => exact ⟨b + 1, by omega, by go_num, by rw [hstep.out, HT.out]; exact h1, hbi.setCell (by simp) _⟩
                case measure => simp [intOf]; omega
              · obtain rfl : b = 256 := by omega
                have hmk := make_any (R.getD k no) wi.heap.size wr (fun i hi => by
                  rw [hM.cell, bools_get _ i hi, hgk.out]; rfl)
                have HMK := Lib.hid hmk
                have hown1 := owns_below HOW.out hbi
                have hB1 := btr HBI.out hbi
                clear hmk hM hbi
                generalize R.getD k no = S at hst HMK
                go_wp2_with fail
                refine HMK.out.mono ?_
                rintro e w5 ⟨rfl, hb5⟩
                have hown2 := owns_below hown1 hb5
                have hB2 := btr hB1 hb5
                have hsz2 := hB2.size
                obtain ⟨qo, qc, rfl⟩ := owns_slice hown2
                clear hown1 hB1 hb5
                go_wp2_with (first | (at_builtin; refine wpList_append_own _ rfl _ _ 22 rfl w.heap.size 35 i0 (.agg zero4) 4 32 Tryd.underlying22 hi hz0 hz1 hz2 rfl (by decide) _ _ _ rfl (hown2.alloc _) ⟨w5.heap.size, 0, none⟩ 1 1 [.int .u64 ((wd S 0 : Nat) : Int), .int .u64 ((wd S 1 : Nat) : Int), .int .u64 ((wd S 2 : Nat) : Int), .int .u64 ((wd S 3 : Nat) : Int)] rfl rfl (cell4n _ _ _ _ _ _) (by simp [Value.oneCell']) (by unfold maxLen; omega) (by omega) (by simp; omega) ?_; intro v' w6 hown3 hg3 _) | fail)
                have hlow := grown_low _ hown2 hsz2 hg3
                have hB3 := hB2.trans hlow
                have e4 : setCells (R.take k) ++ [.int .u64 ((wd S 0 : Nat) : Int), .int .u64 ((wd S 1 : Nat) : Int), .int .u64 ((wd S 2 : Nat) : Int), .int .u64 ((wd S 3 : Nat) : Int)] = setCells (R.take (k + 1)) := by rw [hst.out, setCells_append]; rfl
                rw [e4] at hown3
                clear hown2 hB2 hg3 hlow e4
                go_roundw
                case rel => exact ⟨k + 1, by omega, by go_num, hown3, hB3⟩
                case measure => simp [intOf]; omega
          · obtain rfl : k = N := by omega
            have hcmp : ¬ (k : Int) ≤ y := by omega
            have htk : R.take k = R := by rw [← HR.out]; exact List.take_length
            rw [htk] at hown
            have HO := Lib.hid hown
            clear hown htk
            go_wp2
            go_ret2
            exact ⟨.tuple #[u6, .int .i64 0], rfl, .inl ⟨HC.out, u6, rfl, by rw [HRD.out, HR.out]; exact HO.out⟩, hB⟩
  · have h1 : ((len : Int) == 256) = false := by simp; omega
    have h2 : ((len : Int) != 256) = true := by simp; omega
    have hb := Lib.hid (show ¬ ClassOk xs from fun h => hle (HL.out.symm.trans h.len))
    go_enter Tryd.func16, Tryd.ntmps16
    go_wp2
    go_ret2
    exact ⟨.tuple #[.slice none 0 0, .int .i64 1], rfl, .inr ⟨hb.out, rfl⟩, Below.refl _ _⟩
end Go.Proofs.YtjfjfbefhdabeaaDoor
