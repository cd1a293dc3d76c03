/-
  The walks of package intern's table: New, Put, Find, Row, Size; a table that is nil. Conditions: those that each names; rows of at most 1000 numbers, at most 4096 rows.
-/
import Derived.Test.YtbnnfhpphelmfaaInternAdd
import Derived.Test.YtbnnfhpphelmfaaInternOwn
import Derived.Test.YtbnnfhpphelmfaaInternComp
import Derived.Test.YtbnnfhpphelmfaaInternCmp
namespace Go.Proofs.Ytbnnfhpphelmfaa
open Go.RowKit Go.Maps

theorem numadd_any (a : Nat) (L : List (List Int)) (F : Nat → Prop) (s : List Int) (hs : Rng s) (hm : s.length ≤ 1000) (hn : posTo s L = none) (hL : L.length < 4096) (w : World) (hT : Tb w a L F) :
    Calls Try.prog 31 #[.pointer (some ⟨a, 0, none⟩), .string (strOfNums (keyI s))] w fun e w' => e = .returned (.int .i64 (L.length : Int)) ∧ ∃ F', Tb w' a (L ++ [s]) F' ∧ But F w w' ∧ (∀ k, F' k → F k ∨ w.heap.size ≤ k) := by
  obtain ⟨mv, sv, h1, h2, h3, h4⟩ := hT.box
  rcases h4 with ⟨rfl, rfl⟩ | ⟨b, D, rfl, hF, hne, hmap, hi⟩
  · exact add_new ⟨h1, h2, h3, hT.fa, hT.lt⟩ hs hm
  · exact add_old ⟨h1, h2, h3, hF, hne, hmap, hi, hT.fa, hT.lt⟩ hs hm hn hT.good hL

theorem srt_rng {xs : List Int} (h : Rng xs) : Rng (srt xs) := h.srt_mem fun y => (srt_mem xs y).1

set_option maxRecDepth 100000 in
theorem size_any (a : Nat) (L : List (List Int)) (F : Nat → Prop) (_hm2 : L.length ≤ 4096) (w : World) (hT : Tb w a L F) :
    Calls Try.prog 20 #[.pointer (some ⟨a, 0, none⟩)] w fun e w' => e = .returned (.int .i64 (L.length : Int)) ∧ Below w.heap.size w w' := by
  obtain ⟨mv, sv, h1, h2, _⟩ := hT.box
  obtain ⟨so, sc, rfl, _⟩ := owns_form h2
  have c1 := h1.cell 1
  clear h1 h2 hT
  go_enter Try.func20, Try.ntmps20
  go_wp2
  go_ret
  exact ⟨rfl, Below.refl _ _⟩

set_option maxRecDepth 100000 in
theorem new_any (w : World) :
    Calls Try.prog 17 #[] w fun e w' => ∃ a F, e = .returned (.pointer (some ⟨a, 0, none⟩)) ∧ Tb w' a [] F ∧ Below w.heap.size w w' ∧ ∀ k, F k → w.heap.size ≤ k := by
  go_enter Try.func17, Try.ntmps17
  go_wp2
  go_ret
  refine ⟨w.heap.size, fun k => k = w.heap.size, rfl, ⟨⟨.map none, .slice none 0 0, Blk.new _ _ _, World.ownsRow_nil _ _ _ _, fun k h => by simp [Value.ownBlock] at h, .inl ⟨rfl, rfl⟩⟩, rfl, fun k hk => by subst hk; simp, by simp⟩, bal0 _ _, fun k h => by omega⟩

set_option maxRecDepth 100000 in
theorem put_nil (v : Value) (w : World) : Calls Try.prog 18 #[.pointer none, v] w fun e w' => e = .returned (.tuple #[.int .i64 0, .bool false, .int .i64 3]) ∧ Below w.heap.size w w' := by
  go_enter Try.func18, Try.ntmps18
  go_wp2
  go_ret3
  exact ⟨rfl, Below.refl _ _⟩
set_option maxRecDepth 100000 in
theorem find_nil (v : Value) (w : World) : Calls Try.prog 21 #[.pointer none, v] w fun e w' => e = .returned (.tuple #[.int .i64 0, .bool false]) ∧ Below w.heap.size w w' := by
  go_enter Try.func21, Try.ntmps21
  go_wp2
  go_ret2
  exact ⟨rfl, Below.refl _ _⟩
set_option maxRecDepth 100000 in
theorem row_nil (v : Value) (w : World) : Calls Try.prog 23 #[.pointer none, v] w fun e w' => (∃ so sc, e = .returned (.tuple #[.slice so 0 sc, .int .i64 3])) ∧ Below w.heap.size w w' := by
  go_enter Try.func23, Try.ntmps23
  go_wp2
  go_ret2
  exact ⟨⟨none, 0, rfl⟩, Below.refl _ _⟩
set_option maxRecDepth 100000 in
theorem size_nil (w : World) : Calls Try.prog 20 #[.pointer none] w fun e w' => e = .returned (.int .i64 0) ∧ Below w.heap.size w w' := by
  go_enter Try.func20, Try.ntmps20
  go_wp2
  go_ret
  exact ⟨rfl, Below.refl _ _⟩

/-- The key of what is sorted. -/
theorem sortkey {ao : Option Addr} {len cap : Nat} {xs : List Int} (hl : xs.length = len) (hm : len ≤ 1000) {w : World} (hA : IAt w ao xs w.heap.size) :
    Calls Try.prog 12 #[.slice ao len cap] w fun e w' => ∃ v, e = .returned v ∧ Below w.heap.size w w' ∧ ∀ W, Below w'.heap.size w' W → Calls Try.prog 29 #[v] W fun e2 w2 => e2 = .returned (.string (strOfNums (keyI (srt xs)))) ∧ Below W.heap.size W w2 := by
  refine (sort_own ao len cap xs hl hm w hA).mono ?_
  rintro e w1 ⟨v, rfl, hown, hb⟩
  obtain ⟨so, sc, rfl, _, _, hat⟩ := IAt.of_owns hown
  have := srt_length xs
  exact ⟨_, rfl, hb, fun W hW => key_any so _ sc (srt xs) rfl (by omega) W ((hat.below hW (Nat.le_refl _)).mono hW.size)⟩

set_option maxRecDepth 100000 in
set_option maxHeartbeats 1000000 in
theorem put_any (a : Nat) (L : List (List Int)) (F : Nat → Prop) (ao : Option Addr) (len cap : Nat) (xs : List Int) (hl : xs.length = len) (hm : len ≤ 1000) (hR : Rng xs) (hm2 : L.length ≤ 4096) (w : World) (hT : Tb w a L F) (hA : IAt w ao xs w.heap.size) :
    Calls Try.prog 18 #[.pointer (some ⟨a, 0, none⟩), .slice ao len cap] w fun e w' => e = .returned (.tuple #[.int .i64 (putN L (srt xs)), .bool (putB L (srt xs)), .int .i64 (putE L (srt xs))]) ∧ ∃ F', Tb w' a (putL L (srt xs)) F' ∧ But F w w' ∧ (∀ k, F' k → F k ∨ w.heap.size ≤ k) := by
  have hsl := srt_length xs
  have HR := Lib.hid (srt_rng hR)
  have HK := Lib.hid (sortkey (cap := cap) hl hm hA)
  have HT := Lib.hid hT
  have HF := Lib.hid (fun W h => numfind_any a L F (srt xs) HR.out (by omega) W h)
  have HS := Lib.hid (fun W h => size_any a L F hm2 W h)
  have hAD := fun hn hL W h => numadd_any a L F (srt xs) HR.out (by omega) hn hL W h
  have HAD := Lib.hid hAD
  clear hT hA hR hl hAD
  generalize srt xs = s at *
  obtain ⟨key, hk⟩ : ∃ k, strOfNums (keyI s) = k := ⟨_, rfl⟩
  rw [hk] at HK HF HAD
  clear hk
  unfold putN putB putE putL
  unfold fnd at HF
  cases hp : posTo s L with
  | some n =>
    rw [hp] at HF
    simp only
    go_enter Try.func18, Try.ntmps18
    go_wp2_with fail
    refine HK.out.mono ?_
    rintro e w1 ⟨v, rfl, hb1, hk⟩
    go_wp2_with fail
    refine (hk _ (Below.refl _ _)).mono ?_
    rintro e w2 ⟨rfl, hb2⟩
    have hb := btr hb1 hb2
    go_wp2_with fail
    refine (HF.out _ (HT.out.but (But.of_below (F := fun _ => False) hb) fun _ _ f => f)).mono ?_
    rintro e w3 ⟨rfl, hb3⟩
    have hb' := btr hb hb3
    go_wp2
    go_ret3
    exact ⟨rfl, F, HT.out.but (But.of_below (F := fun _ => False) hb') (fun _ _ f => f), But.of_below hb', fun k f => .inl f⟩
  | none =>
    rw [hp] at HF
    simp only
    by_cases hL : 4096 ≤ L.length
    · have hLi : (4096 : Int) ≤ (L.length : Int) := by omega
      simp only [if_pos hL]
      go_enter Try.func18, Try.ntmps18
      go_wp2_with fail
      refine HK.out.mono ?_
      rintro e w1 ⟨v, rfl, hb1, hk⟩
      go_wp2_with fail
      refine (hk _ (Below.refl _ _)).mono ?_
      rintro e w2 ⟨rfl, hb2⟩
      have hb := btr hb1 hb2
      go_wp2_with fail
      refine (HF.out _ (HT.out.but (But.of_below (F := fun _ => False) hb) fun _ _ f => f)).mono ?_
      rintro e w3 ⟨rfl, hb3⟩
      have hb' := btr hb hb3
      go_wp2_with fail
      refine (HS.out _ (HT.out.but (But.of_below (F := fun _ => False) hb') fun _ _ f => f)).mono ?_
      rintro e w4 ⟨rfl, hb4⟩
      have hb'' := btr hb' hb4
      go_wp2
      go_ret3
      exact ⟨rfl, F, HT.out.but (But.of_below (F := fun _ => False) hb'') (fun _ _ f => f), But.of_below hb'', fun k f => .inl f⟩
    · have hLi : ¬ (4096 : Int) ≤ (L.length : Int) := by omega
      simp only [if_neg hL]
      go_enter Try.func18, Try.ntmps18
      go_wp2_with fail
      refine HK.out.mono ?_
      rintro e w1 ⟨v, rfl, hb1, hk⟩
      go_wp2_with fail
      refine (hk _ (Below.refl _ _)).mono ?_
      rintro e w2 ⟨rfl, hb2⟩
      have hb := btr hb1 hb2
      go_wp2_with fail
      refine (HF.out _ (HT.out.but (But.of_below (F := fun _ => False) hb) fun _ _ f => f)).mono ?_
      rintro e w3 ⟨rfl, hb3⟩
      have hb' := btr hb hb3
      go_wp2_with fail
      refine (HS.out _ (HT.out.but (But.of_below (F := fun _ => False) hb') fun _ _ f => f)).mono ?_
      rintro e w4 ⟨rfl, hb4⟩
      have hb'' := btr hb' hb4
      have hs4 := hb''.size
      have HT4 := Lib.hid (HT.out.but (But.of_below (F := fun _ => False) hb'') fun _ _ f => f)
      go_wp2_with fail
      refine (HAD.out hp (by omega) _ HT4.out).mono ?_
      rintro e w5 ⟨rfl, F', t1, t2, t3⟩
      go_wp2
      go_ret3
      refine ⟨rfl, F', t1, (But.of_below hb'').then t2, fun k f => ?_⟩
      rcases t3 k f with f | f
      · exact .inl f
      · exact .inr (by omega)

set_option maxRecDepth 100000 in
set_option maxHeartbeats 1000000 in
theorem find_any (a : Nat) (L : List (List Int)) (F : Nat → Prop) (ao : Option Addr) (len cap : Nat) (xs : List Int) (hl : xs.length = len) (hm : len ≤ 1000) (hR : Rng xs) (w : World) (hT : Tb w a L F) (hA : IAt w ao xs w.heap.size) :
    Calls Try.prog 21 #[.pointer (some ⟨a, 0, none⟩), .slice ao len cap] w fun e w' => e = .returned (.tuple #[.int .i64 (fnd L (srt xs)).1, .bool (fnd L (srt xs)).2]) ∧ Below w.heap.size w w' := by
  have hsl := srt_length xs
  have HR := Lib.hid (srt_rng hR)
  have HK := Lib.hid (fun W (h : Below w.heap.size w W) => sortkey (cap := cap) hl hm ((hA.below h (Nat.le_refl _)).mono h.size))
  have HF := Lib.hid (fun W (h : Below w.heap.size w W) => numfind_any a L F (srt xs) HR.out (by omega) W (hT.but (But.of_below (F := fun _ => False) h) fun _ _ f => f))
  clear hT hA hR hl
  generalize srt xs = s at *
  obtain ⟨key, hk⟩ : ∃ k, strOfNums (keyI s) = k := ⟨_, rfl⟩
  obtain ⟨r, hr⟩ : ∃ r, fnd L s = r := ⟨_, rfl⟩
  rw [hk] at HK
  rw [hk, hr] at HF
  rw [hr]
  clear hk hr
  go_enter Try.func21, Try.ntmps21
  go_wp2_with fail
  have hb0 := Below.refl w.heap.size w
  go_region_with (first | (go_at_call 12; refine (HK.out _ hb0.drew).mono ?_; rintro e w1 ⟨v, rfl, hb1, hk⟩; have hB1 := btr hb0.drew hb1) | (go_at_call 29; refine (hk _ (Below.refl _ _)).mono ?_; rintro e w2 ⟨rfl, hb2⟩; have hB2 := btr hB1 hb2) | (go_at_call 30; refine (HF.out _ hB2).mono ?_; rintro e w3 ⟨rfl, hb3⟩; have hB3 := btr hB2 hb3) | fail)
  all_goals
    go_wp2
    go_ret2
    exact ⟨rfl, hB3⟩

set_option maxRecDepth 100000 in
set_option maxHeartbeats 1000000 in
theorem row_any (a : Nat) (L : List (List Int)) (F : Nat → Prop) (n : Int) (hn : -9223372036854775808 ≤ n ∧ n ≤ 9223372036854775807) (hm2 : L.length ≤ 4096) (w : World) (hT : Tb w a L F) :
    Calls Try.prog 23 #[.pointer (some ⟨a, 0, none⟩), .int .i64 n] w fun e w' => ∃ v, e = .returned (.tuple #[v, .int .i64 (rowE L n)]) ∧ w'.ownsRow w.heap.size 3 1 v (rowL L n).length (numCells (rowL L n)) ∧ Below w.heap.size w w' := by
  have HS := Lib.hid (fun W (h : Below w.heap.size w W) => size_any a L F hm2 W (hT.but (But.of_below (F := fun _ => False) h) fun _ _ f => f))
  obtain ⟨mv, sv, h1, h2, h3, h4⟩ := hT.box
  have HG := Lib.hid hT.good
  unfold rowL rowE
  by_cases hlo : n < 0
  · have hno : ¬ (0 ≤ n ∧ n < L.length) := by omega
    rw [if_neg hno, if_neg hno]
    clear hT h1 h2 h3 h4
    go_enter Try.func23, Try.ntmps23
    go_wp2
    go_ret2
    exact ⟨_, rfl, World.ownsRow_nil _ _ _ _, Below.refl _ _⟩
  · by_cases hhi : (L.length : Int) ≤ n
    · have hno : ¬ (0 ≤ n ∧ n < L.length) := by omega
      rw [if_neg hno, if_neg hno]
      clear hT h1 h2 h3 h4
      go_enter Try.func23, Try.ntmps23
      go_wp2_with fail
      refine (HS.out _ (Below.refl _ _)).mono ?_
      rintro e w1 ⟨rfl, hb1⟩
      go_wp2
      go_ret2
      exact ⟨_, rfl, World.ownsRow_nil _ _ _ _, hb1⟩
    · have hyes : 0 ≤ n ∧ n < L.length := by omega
      rw [if_pos hyes, if_pos hyes]
      obtain ⟨k, rfl⟩ : ∃ k : Nat, n = (k : Int) := ⟨n.toNat, by omega⟩
      have hkl : k < L.length := by omega
      rw [Int.toNat_natCast]
      rcases h2.2 with ⟨_, h0⟩ | ⟨g, cap, cur, rfl, _⟩
      · omega
      have hgl := h2.lt g rfl
      have hcell := h2.cellAt k (by omega)
      have e1 : (strCells L)[k]? = some (.string (strOfNums (keyI (L.getD k [])))) := by
        simp [strCells, List.getD, hkl]
      rw [e1] at hcell
      have hr := HG.out (L.getD k []) (by rw [List.getD, List.getElem?_eq_getElem hkl]; exact List.getElem_mem _)
      have HRO := Lib.hid (fun W => row_of (L.getD k []) hr.2 hr.1 W)
      obtain ⟨r, hrr⟩ : ∃ r, L.getD k [] = r := ⟨_, rfl⟩
      rw [hrr] at HRO hcell ⊢
      obtain ⟨key, hk⟩ : ∃ q, strOfNums (keyI r) = q := ⟨_, rfl⟩
      rw [hk] at HRO hcell
      have c1 := h1.cell 1
      have hga := h1.lt
      have k1 : (k : Int) < (L.length : Int) := by omega
      have k2 : ¬ (L.length : Int) ≤ (k : Int) := by omega
      have k0 : (0 : Int) ≤ (k : Int) := by omega
      have k3 : ¬ (k : Int) < 0 := by omega
      have HC := Lib.hid (fun W (h : Below w.heap.size w W) => And.intro ((h.cell (p := ⟨a, 1, none⟩) hga).trans c1) ((h.cell (p := ⟨g, k, none⟩) hgl.2).trans hcell))
      clear hT h1 h2 h3 h4 hr hrr hk e1 c1 hcell
      go_enter Try.func23, Try.ntmps23
      go_wp2_with fail
      refine (HS.out _ (Below.refl _ _)).mono ?_
      rintro e w1 ⟨rfl, hb1⟩
      obtain ⟨d1, d2⟩ := HC.out w1 hb1
      go_wp2_with fail
      refine (HRO.out _).mono ?_
      rintro e w2 ⟨v, rfl, ho, hb2⟩
      go_wp2
      go_ret2
      exact ⟨v, rfl, owns_low ho hb1.size, btr hb1 hb2⟩
end Go.Proofs.Ytbnnfhpphelmfaa
