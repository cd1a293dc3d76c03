/-
  The walk of the statement PartMore: of any two rows of sets it returns true; nothing that was there before the call has changed. Conditions: the sets lie in memory as slices; the table of math/bits as it is laid.
-/
import Derived.Test.YtjfjfbefhdabeaaDoorPartAwake
import Derived.Test.YtjfjfbefhdabeaaDoorPartSameR
import Derived.Test.YtjfjfbefhdabeaaDoorPartAppend
import Derived.Deep.RegionHeld3
namespace Go.Proofs.YtjfjfbefhdabeaaDoor
open Go.RowKit

theorem nx_fine {c d : Nat → Nat} : ∀ n, rgs c n → rgs d n → (∀ a b, a < n → b < n → d a = d b → c a = c b) → nx c n ≤ nx d n
  | 0, _, _, _ => Nat.le_refl _
  | n + 1, hc, hd, h => by
    have ih := nx_fine n (fun b hb => hc b (by omega)) (fun b hb => hd b (by omega)) (fun a b ha hb => h a b (by omega) (by omega))
    have h1 := hc n (by omega)
    have h2 := hd n (by omega)
    rw [nx, nx]
    by_cases e : d n < nx d n
    · obtain ⟨a, ha, hda⟩ := nx_hit d n (fun b hb => hd b (by omega)) _ e
      have h3 := h a n (by omega) (by omega) hda
      have h4 := nx_gt c n a ha
      omega
    · omega
theorem cls_fine (L M : List (Nat → Bool)) (a b : Nat) (h : cls (L ++ M) a = cls (L ++ M) b) : cls L a = cls L b := by
  rw [cls_iff, alk_iff] at *
  exact fun S hS => h S (List.mem_append_left _ hS)
theorem parts_more (L M : List (Nat → Bool)) : (parts L).length ≤ (parts (L ++ M)).length := by
  unfold parts
  rw [prts_length, prts_length]
  exact nx_fine 256 (cls_rgs L 256) (cls_rgs _ 256) fun a b _ _ h => cls_fine L M a b h

/-- Each part of more sets is within one that there was. -/
theorem home (L M : List (Nat → Bool)) (i : Nat) (hi : i < (parts (L ++ M)).length) :
    ∃ h, h < (parts L).length ∧ ∀ k, k < (parts L).length → (k = h → eqs (cand ((parts L).getD k no) ((parts (L ++ M)).getD i no)) ((parts (L ++ M)).getD i no) = true) ∧
      (k ≠ h → eqs (cand ((parts L).getD k no) ((parts (L ++ M)).getD i no)) ((parts (L ++ M)).getD i no) = false ∧ eqs (cand ((parts L).getD k no) ((parts (L ++ M)).getD i no)) no = true) := by
  have hp := parts_pt L
  have hq := parts_pt (L ++ M)
  obtain ⟨b, hb, hcb⟩ := nx_hit (cls (L ++ M)) 256 hq.rgs i (by rw [← hq.len]; exact hi)
  have hmem : ∀ x, x < 256 → (parts (L ++ M)).getD i no x = true → cls L x = cls L b := fun x hx e => by
    have := hq.one hx hi e
    exact cls_fine L M x b (by rw [this, hcb])
  refine ⟨cls L b, hp.lt b hb, fun k hk => ⟨fun e => ?_, fun e => ?_⟩⟩
  · subst e
    rw [eqs_iff]
    intro x hx
    unfold cand
    cases h1 : (parts (L ++ M)).getD i no x with
    | false => simp
    | true =>
      rw [hp.has x hx _ hk, hmem x hx h1]
      simp
  · have hno : ∀ x, x < 256 → cand ((parts L).getD k no) ((parts (L ++ M)).getD i no) x = false := fun x hx => by
      unfold cand
      cases h1 : (parts (L ++ M)).getD i no x with
      | false => simp
      | true =>
        rw [hp.has x hx _ hk, hmem x hx h1]
        simp
        exact fun h => e h.symm
    constructor
    · rw [Bool.eq_false_iff, ne_eq, eqs_iff]
      intro h
      have := h b hb
      rw [hno b hb] at this
      have hb1 := hq.mem b hb
      rw [hcb] at hb1
      rw [hb1] at this
      cases this
    · rw [eqs_iff]
      exact fun x hx => hno x hx

/-- What stays while two sets are looked at. -/
abbrev Look2 (w : World) (B g o : Nat) (S : Nat → Bool) (g' o' : Nat) (T : Nat → Bool) (W : World) : Prop :=
  (W.cell? ⟨g, o, none⟩ = some (.int .u64 ((wd S 0 : Nat) : Int)) ∧ W.cell? ⟨g, o + 1, none⟩ = some (.int .u64 ((wd S 1 : Nat) : Int)) ∧ W.cell? ⟨g, o + 2, none⟩ = some (.int .u64 ((wd S 2 : Nat) : Int)) ∧ W.cell? ⟨g, o + 3, none⟩ = some (.int .u64 ((wd S 3 : Nat) : Int))) ∧
  (W.cell? ⟨g', o', none⟩ = some (.int .u64 ((wd T 0 : Nat) : Int)) ∧ W.cell? ⟨g', o' + 1, none⟩ = some (.int .u64 ((wd T 1 : Nat) : Int)) ∧ W.cell? ⟨g', o' + 2, none⟩ = some (.int .u64 ((wd T 2 : Nat) : Int)) ∧ W.cell? ⟨g', o' + 3, none⟩ = some (.int .u64 ((wd T 3 : Nat) : Int))) ∧ Below B w W ∧ g < B ∧ g' < B ∧ B ≤ w.heap.size
theorem Look2.step {w : World} {B g o g' o' : Nat} {S T : Nat → Bool} {W W' : World} (h : Look2 w B g o S g' o' T W) (hb : Below W.heap.size W W') : Look2 w B g o S g' o' T W' := by
  have h1 : Below B W W' := hb.mono (Nat.le_trans h.2.2.2.2.2 h.2.2.1.size)
  exact ⟨C4At.below (S := S) h.1 h1 h.2.2.2.1, C4At.below (S := T) h.2.1 h1 h.2.2.2.2.1, h.2.2.1.trans h1, h.2.2.2⟩
theorem Look2.drew {w : World} {B g o g' o' : Nat} {S T : Nat → Bool} {W : World} (h : Look2 w B g o S g' o' T W) : Look2 w B g o S g' o' T W.drew := ⟨h.1, h.2.1, h.2.2.1.drew, h.2.2.2⟩
theorem Look2.b {w : World} {B g o g' o' : Nat} {S T : Nat → Bool} {W : World} (h : Look2 w B g o S g' o' T W) : Below B w W := h.2.2.1

set_option maxRecDepth 100000 in
set_option maxHeartbeats 1000000 in
theorem partMore_main (ao ao2 : Option Addr) (len cap len2 cap2 : Nat) (L M : List (Nat → Bool)) (hl : L.length = len) (hl2 : M.length = len2) (hlen : len ≤ 20) (hlen2 : len2 ≤ 20) (w : World) (hT : Tab w) (hS : SAt w ao L w.heap.size) (hS2 : SAt w ao2 M w.heap.size) :
    Calls Tryd.prog 6 #[.slice ao len cap, .slice ao2 len2 cap2] w fun e w' => e = .returned (.bool true) ∧ Below w.heap.size w w' := by
  have HL := Lib.hid hl
  have HL2 := Lib.hid hl2
  have HS := Lib.hid hS
  have HS2 := Lib.hid hS2
  have HT := Lib.hid hT
  have hgd := guard25
  clear hl hl2 hS hS2 hT
  have hg1 : ¬ (20 : Int) < (len : Int) := by omega
  have hg2 : ¬ (20 : Int) < (len2 : Int) := by omega
  go_enter Tryd.func6, Tryd.ntmps6
  go_wp2_with fail
  refine (parts_any (H := Unit) ao len cap L HL.out (by omega) w HS.out).mono ?_
  rintro e w1 ⟨v, rfl, hown, hb1⟩
  obtain ⟨po, pc, rfl, hat⟩ := SAt.of_owns hown
  have HAT := Lib.hid hat
  have HB1 := Lib.hid hb1
  have hsz1 := hb1.size
  have hpl := parts_length_le L
  have hpp := Lib.hid (parts_parts L)
  have hhome := Lib.hid (home L M)
  have hmore := Lib.hid (parts_more L M)
  have hql := parts_length_le (L ++ M)
  clear hown hat hb1
  generalize hPP : parts L = PP at *
  clear hPP
  obtain ⟨pn, hpn⟩ : ∃ pn, PP.length = pn := ⟨_, rfl⟩
  have HPN := Lib.hid hpn
  rw [hpn] at hpl hhome hmore ⊢
  clear hpn
  have hown0 : (w1.alloc (.cells #[] 35)).ownsRow w1.heap.size 35 4 (.slice (some ⟨w1.heap.size, 0, none⟩) 0 0) 0 (setCells []) := World.ownsRow_made w1 #[] 0 (Nat.le_refl _) (by unfold maxLen; omega) rfl
  have hBx := bal HB1.out (.cells #[] 35)
  have hS1 := HS.out.below hBx (Nat.le_refl _)
  have hszx : w1.heap.size ≤ (w1.alloc (.cells #[] 35)).heap.size := by simp
  have hb1x := bal (Below.refl w1.heap.size w1) (.cells #[] 35)
  go_wp2_with (first | (at_builtin; refine wpList_append_sets _ rfl _ _ rfl w1.heap.size (.slice (some ⟨w1.heap.size, 0, none⟩) 0 0) 0 [] rfl hown0 ao len cap L rfl HL.out hS1 (by omega) hszx ?_; intro v2 w2 hown2 hg2; have hlow2 := hb1x.trans (grown_low0 hown0 hszx hg2); have hsz2 := hlow2.size; have hS2 := HS2.out.below (HB1.out.trans (hlow2.mono hsz1)) (Nat.le_refl _); rw [Nat.zero_add, List.nil_append] at hown2) | (at_builtin; refine wpList_append_sets _ rfl _ _ rfl w1.heap.size v2 len L rfl hown2 ao2 len2 cap2 M rfl HL2.out hS2 (by omega) hsz2 ?_; intro v3 w3 hown3 hg3) | fail)
  have hlow3 := grown_low0 hown2 hsz2 hg3
  have hlm : (L ++ M).length = len + len2 := by rw [List.length_append, HL.out, HL2.out]
  rw [← hlm] at hown3
  obtain ⟨p3, c3, rfl, hat3⟩ := SAt.of_owns hown3
  have hB3 := HB1.out.trans ((hlow2.trans hlow3).mono hsz1)
  have hat1 := HAT.out.below (hlow2.trans hlow3) (Nat.le_refl _)
  have hsz3 := (hlow2.trans hlow3).size
  clear hown0 hBx hS1 hszx hb1x hown2 hg2 hlow2 hsz2 hS2 hown3 hg3 hlow3
  refine (parts_any (H := Unit) p3 _ c3 (L ++ M) rfl (by rw [hlm]; omega) w3 hat3).mono ?_
  rintro e w4 ⟨v4, rfl, hown4, hb4⟩
  obtain ⟨qo, qc, rfl, hat4⟩ := SAt.of_owns hown4
  have hB4 := btr hB3 hb4
  have hat5 := (hat1.below hb4 hsz3)
  have hsz4 := hb4.size
  clear hat3 hown4 hb4 hB3 hat1 hlm
  generalize parts (L ++ M) = Q at *
  obtain ⟨qn, hqn⟩ : ∃ qn, Q.length = qn := ⟨_, rfl⟩
  have HQN := Lib.hid hqn
  rw [hqn] at hql hhome hmore ⊢
  clear hqn
  go_wp2_with fail
  refine (parts_any (H := Unit) po pn pc PP HPN.out (by omega) w4 (hat5.mono (by omega))).mono ?_
  rw [hpp.out]
  rintro e w5 ⟨v5, rfl, hown5, hb5⟩
  obtain ⟨ro, rc, rfl, hat6⟩ := SAt.of_owns hown5
  rw [HPN.out]
  have hB5 := btr hB4 hb5
  have hatp := (hat5.below hb5 (by omega)).mono (show w1.heap.size ≤ w5.heap.size by have := hb5.size; omega)
  have hatq := (hat4.below hb5 (Nat.le_refl _)).mono hb5.size
  clear hat5 hat4 hown5 hb5 hB4
  go_wp2_with fail
  refine (same_any po ro pn pc rc PP HPN.out (by omega) w5 hatp hat6).mono ?_
  rintro e w6 ⟨rfl, hb6⟩
  have HB6 := Lib.hid (btr hB5 hb6)
  have HP6 := Lib.hid ((hatp.below hb6 (Nat.le_refl _)).mono hb6.size)
  have HQ6 := Lib.hid ((hatq.below hb6 (Nat.le_refl _)).mono hb6.size)
  have hsz6 := HB6.out.size
  clear hatp hatq hat6 hb6 hB5
  go_wp2_with fail
  go_loopw [11] (fun i wr => ∃ k : Nat, k ≤ qn ∧ i = .int .i64 k ∧ Below w6.heap.size w6 wr)
    (fun i _ => qn - (intOf i).toNat)
  case atStart => exact ⟨0, Nat.zero_le _, rfl, Below.refl _ _⟩
  case round =>
    obtain ⟨i, hi, rfl, hB⟩ := hrel
    by_cases hlt : i < qn
    · obtain ⟨g', off', rfl, hg', hc'⟩ := HQ6.out (by rw [HQN.out]; omega)
      have HC' := Lib.hid (hc' i (by rw [HQN.out]; exact hlt))
      obtain ⟨h, hh, hk⟩ := hhome.out i hlt
      have HK := Lib.hid hk
      clear hc' hk
      generalize Q.getD i no = T at HC' HK
      have hlti : (i : Int) < (qn : Int) := by omega
      go_wp2_with fail
      go_loopw [12, 13] (fun n kk wr => ∃ k : Nat, k ≤ pn ∧ kk = .int .i64 k ∧ n = .int .i64 (if h < k then 1 else 0) ∧ Below w6.heap.size w6 wr)
        (fun _ kk _ => pn - (intOf kk).toNat)
      case atStart => exact ⟨0, Nat.zero_le _, rfl, by rw [if_neg (by omega)], hB⟩
      case round =>
        clear hB
        obtain ⟨k, hk, rfl, rfl, hB⟩ := hrel
        by_cases hkl : k < pn
        · obtain ⟨g, off, rfl, hg, hc⟩ := HP6.out (by rw [HPN.out]; omega)
          have hkk := HK.out k hkl
          have h4 := (hc k (by rw [HPN.out]; exact hkl)).below hB hg
          have h5 := HC'.out.below hB hg'
          clear hc
          generalize PP.getD k no = S at hkk h4
          have HI : Look2 w6 w6.heap.size g (off + k * 4) S g' (off' + i * 4) T wr.drew := Look2.drew ⟨h4, h5, hB, hg, hg', Nat.le_refl _⟩
          obtain ⟨s0, s1, s2, s3⟩ := HI.1
          obtain ⟨t0, t1, t2, t3⟩ := HI.2.1
          have hkli : (k : Int) < (pn : Int) := by omega
          have hq1 : ∀ w, (Op.equalIn 10000 35 (sv (cand S T)) (sv T)).run Tryd.prog w = .ok (eqs (cand S T) T) w := fun w => eq_sets2 (cand S T) T w
          have hq2 : ∀ w, (Op.equalIn 10000 35 (sv (cand S T)) (.agg zero4)).run Tryd.prog w = .ok (eqs (cand S T) no) w := fun w => eq_sets2 (cand S T) no w
          clear h4 h5 hB
          by_cases hkh : k = h
          · rw [hkk.1 hkh] at hq1
            subst hkh
            have e1 : (if k < k then (1 : Int) else 0) = 0 := if_neg (by omega)
            have e2 : (if k < k + 1 then (1 : Int) else 0) = 1 := if_pos (by omega)
            have E2 := Lib.hid e2
            rw [e1]
            clear e1 e2 hkk hq2
            go_wp2_with fail
            go_region_held3 (fun W' => (W'.cell? ⟨g, off + k * 4, none⟩ = some (.int .u64 ((wd S 0 : Nat) : Int)) ∧ W'.cell? ⟨g, off + k * 4 + 1, none⟩ = some (.int .u64 ((wd S 1 : Nat) : Int)) ∧ W'.cell? ⟨g, off + k * 4 + 2, none⟩ = some (.int .u64 ((wd S 2 : Nat) : Int)) ∧ W'.cell? ⟨g, off + k * 4 + 3, none⟩ = some (.int .u64 ((wd S 3 : Nat) : Int))) ∧ (W'.cell? ⟨g', off' + i * 4, none⟩ = some (.int .u64 ((wd T 0 : Nat) : Int)) ∧ W'.cell? ⟨g', off' + i * 4 + 1, none⟩ = some (.int .u64 ((wd T 1 : Nat) : Int)) ∧ W'.cell? ⟨g', off' + i * 4 + 2, none⟩ = some (.int .u64 ((wd T 2 : Nat) : Int)) ∧ W'.cell? ⟨g', off' + i * 4 + 3, none⟩ = some (.int .u64 ((wd T 3 : Nat) : Int))) ∧ Below w6.heap.size w6 W' ∧ g < w6.heap.size ∧ g' < w6.heap.size ∧ w6.heap.size ≤ w6.heap.size)
              ((first | with_reducible exact HI | exact Look2.step (by assumption) (by assumption)))
              (first | (go_at_call 20; refine (both_to _ _ _).mono ?_; rintro e w' ⟨rfl, hb⟩))
            have HB := Lib.hid (Look2.b (w := w6) (B := w6.heap.size) (g := g) (o := off + k * 4) (S := S) (g' := g') (o' := off' + i * 4) (T := T) (by assumption))
            clear HI s0 s1 s2 s3 t0 t1 t2 t3 hq1
            go_wp2
            go_roundw
            case rel => exact ⟨k + 1, by omega, by go_num, by rw [E2.out], HB.out⟩
            case measure => simp [intOf]; omega
          · rw [(hkk.2 hkh).1] at hq1
            rw [(hkk.2 hkh).2] at hq2
            have E2 := Lib.hid (show (if h < k + 1 then (1 : Int) else 0) = if h < k then 1 else 0 by
              have : (h < k + 1) = (h < k) := by apply propext; omega
              simp only [this])
            generalize (if h < k then (1 : Int) else 0) = nn at *
            clear hkk
            go_wp2_with fail
            go_region_held3 (fun W' => (W'.cell? ⟨g, off + k * 4, none⟩ = some (.int .u64 ((wd S 0 : Nat) : Int)) ∧ W'.cell? ⟨g, off + k * 4 + 1, none⟩ = some (.int .u64 ((wd S 1 : Nat) : Int)) ∧ W'.cell? ⟨g, off + k * 4 + 2, none⟩ = some (.int .u64 ((wd S 2 : Nat) : Int)) ∧ W'.cell? ⟨g, off + k * 4 + 3, none⟩ = some (.int .u64 ((wd S 3 : Nat) : Int))) ∧ (W'.cell? ⟨g', off' + i * 4, none⟩ = some (.int .u64 ((wd T 0 : Nat) : Int)) ∧ W'.cell? ⟨g', off' + i * 4 + 1, none⟩ = some (.int .u64 ((wd T 1 : Nat) : Int)) ∧ W'.cell? ⟨g', off' + i * 4 + 2, none⟩ = some (.int .u64 ((wd T 2 : Nat) : Int)) ∧ W'.cell? ⟨g', off' + i * 4 + 3, none⟩ = some (.int .u64 ((wd T 3 : Nat) : Int))) ∧ Below w6.heap.size w6 W' ∧ g < w6.heap.size ∧ g' < w6.heap.size ∧ w6.heap.size ≤ w6.heap.size)
              ((first | with_reducible exact HI | exact Look2.step (by assumption) (by assumption)))
              (first | (go_at_call 20; refine (both_to _ _ _).mono ?_; rintro e w' ⟨rfl, hb⟩))
            have HI2 := Look2.drew (w := w6) (B := w6.heap.size) (g := g) (o := off + k * 4) (S := S) (g' := g') (o' := off' + i * 4) (T := T) (by assumption)
            clear HI s0 s1 s2 s3 t0 t1 t2 t3 hq1
            obtain ⟨s0, s1, s2, s3⟩ := HI2.1
            obtain ⟨t0, t1, t2, t3⟩ := HI2.2.1
            go_wp2_with fail
            go_region_held3 (fun W' => (W'.cell? ⟨g, off + k * 4, none⟩ = some (.int .u64 ((wd S 0 : Nat) : Int)) ∧ W'.cell? ⟨g, off + k * 4 + 1, none⟩ = some (.int .u64 ((wd S 1 : Nat) : Int)) ∧ W'.cell? ⟨g, off + k * 4 + 2, none⟩ = some (.int .u64 ((wd S 2 : Nat) : Int)) ∧ W'.cell? ⟨g, off + k * 4 + 3, none⟩ = some (.int .u64 ((wd S 3 : Nat) : Int))) ∧ (W'.cell? ⟨g', off' + i * 4, none⟩ = some (.int .u64 ((wd T 0 : Nat) : Int)) ∧ W'.cell? ⟨g', off' + i * 4 + 1, none⟩ = some (.int .u64 ((wd T 1 : Nat) : Int)) ∧ W'.cell? ⟨g', off' + i * 4 + 2, none⟩ = some (.int .u64 ((wd T 2 : Nat) : Int)) ∧ W'.cell? ⟨g', off' + i * 4 + 3, none⟩ = some (.int .u64 ((wd T 3 : Nat) : Int))) ∧ Below w6.heap.size w6 W' ∧ g < w6.heap.size ∧ g' < w6.heap.size ∧ w6.heap.size ≤ w6.heap.size)
              ((first | with_reducible exact HI2 | exact Look2.step (by assumption) (by assumption)))
              (first | (go_at_call 20; refine (both_to _ _ _).mono ?_; rintro e w' ⟨rfl, hb⟩))
            have HB := Lib.hid (Look2.b (w := w6) (B := w6.heap.size) (g := g) (o := off + k * 4) (S := S) (g' := g') (o' := off' + i * 4) (T := T) (by assumption))
            clear HI2 s0 s1 s2 s3 t0 t1 t2 t3 hq2
            go_wp2
            go_roundw
            case rel => exact ⟨k + 1, by omega, by go_num, by rw [E2.out], HB.out⟩
            case measure => simp [intOf]; omega
        · obtain rfl : k = pn := by omega
          have e1 : (if h < k then (1 : Int) else 0) = 1 := if_pos hh
          rw [e1]
          go_wp2
          go_roundw
          case rel => exact ⟨i + 1, by omega, by go_num, hB⟩
          case measure => simp [intOf]; omega
    · obtain rfl : i = qn := by omega
      have hB7 := HB6.out.trans (hB.mono hsz6)
      have hT7 := HT.out.below' hB7
      have hge := hmore.out
      go_wp2_with fail
      refine (awake_part wr hT7).mono ?_
      rintro e w8 ⟨rfl, hb8⟩
      have hB8 := btr hB7 hb8
      clear hb8 hB7 hT7 hB
      have hgei : (pn : Int) ≤ (i : Int) := by omega
      go_wp2
      go_ret
      exact ⟨rfl, hB8⟩

theorem partMore_walk (ao ao2 : Option Addr) (len cap len2 cap2 : Nat) (L M : List (Nat → Bool)) (hl : L.length = len) (hl2 : M.length = len2) (hlen : len ≤ maxLen) (hlen2 : len2 ≤ maxLen) (w : World) (hT : Tab w) (hS : SAt w ao L w.heap.size) (hS2 : SAt w ao2 M w.heap.size) :
    Calls Tryd.prog 6 #[.slice ao len cap, .slice ao2 len2 cap2] w fun e w' => e = .returned (.bool true) ∧ Below w.heap.size w w' := by
  unfold maxLen at hlen hlen2
  by_cases h1 : 20 < len
  · have g1 : (20 : Int) < (len : Int) := by omega
    clear hS hS2 hT hl hl2
    go_enter Tryd.func6, Tryd.ntmps6
    go_wp2
    go_ret
    exact ⟨rfl, Below.refl _ _⟩
  · by_cases h2 : 20 < len2
    · have g1 : ¬ (20 : Int) < (len : Int) := by omega
      have g2 : (20 : Int) < (len2 : Int) := by omega
      clear hS hS2 hT hl hl2
      go_enter Tryd.func6, Tryd.ntmps6
      go_wp2
      go_ret
      exact ⟨rfl, Below.refl _ _⟩
    · exact partMore_main ao ao2 len cap len2 cap2 L M hl hl2 (by omega) (by omega) w hT hS hS2
end Go.Proofs.YtjfjfbefhdabeaaDoor
