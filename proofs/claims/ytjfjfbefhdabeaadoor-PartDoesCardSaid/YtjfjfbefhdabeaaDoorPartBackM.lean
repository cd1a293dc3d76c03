/-
  Plain facts of the statement PartBack: the classes of a partition make it again; each set of a row is some of the parts together; numbers of classes come back. Conditions: none.
-/
import Derived.Test.YtjfjfbefhdabeaaDoorPartOver
import Derived.Test.YtjfjfbefhdabeaaDoorPartClass
namespace Go.Proofs.YtjfjfbefhdabeaaDoor
open Go.RowKit

theorem ints_ok {c : Nat → Nat} (h : rgs c 256) : ClassOk (ints c) :=
  ⟨ints_length c, fun b hb => by rw [ints_get c b hb]; omega, rgs_ext (fun b hb => (natOf_ints c b hb).symm) h⟩
theorem ints_prts (c : Nat → Nat) : prts (natOf (ints c)) 256 = prts c 256 := prts_ext fun b hb => natOf_ints c b hb
theorem fi_parts_rgs (L : List (Nat → Bool)) : rgs (fi (parts L)) 256 := rgs_ext (fun b hb => ((parts_pt L).fi b hb).symm) (cls_rgs L 256)
theorem prts_fi_parts (L : List (Nat → Bool)) : prts (fi (parts L)) 256 = parts L := prts_ext fun b hb => (parts_pt L).fi b hb
theorem ints_back {xs : List Int} (h : ClassOk xs) : ints (fi (prts (natOf xs) 256)) = xs := by
  rw [ints_ext fun b hb => (prts_pt h.rgs).fi b hb]
  refine List.ext_getElem (by rw [ints_length, h.len]) fun i h1 h2 => ?_
  rw [ints_length] at h1
  have e1 := ints_get (natOf xs) i h1
  have e2 := h.cast i h1
  rw [List.getD, List.getElem?_eq_getElem (by rw [ints_length]; exact h1)] at e1
  rw [List.getD, List.getElem?_eq_getElem h2] at e2
  simp only [Option.getD_some] at e1 e2
  rw [e1, e2]

/-- The bytes of some of the sets. -/
def accL (P : List (Nat → Bool)) (l : List Nat) : Nat → Bool := fun b => l.any fun x => P.getD x no b
theorem accL_nil (P : List (Nat → Bool)) : accL P [] = no := rfl
theorem accL_snoc (P : List (Nat → Bool)) (l : List Nat) (x : Nat) : accL P (l ++ [x]) = cor (accL P l) (P.getD x no) := by
  funext b
  simp [accL, cor]
theorem accL_take (P : List (Nat → Bool)) (l : List Nat) (k : Nat) (h : k < l.length) : accL P (l.take (k + 1)) = cor (accL P (l.take k)) (P.getD (l.getD k 0) no) := by
  rw [List.take_succ_eq_append_getElem h, accL_snoc]
  simp [List.getD, h]

theorem ov_some {P : List (Nat → Bool)} {S : Nat → Bool} (h : ∀ k, k < P.length → (∀ b, b < 256 → P.getD k no b = true → S b = true) ∨ (∀ b, b < 256 → P.getD k no b = true → S b = false)) :
    ∀ k, k ≤ P.length → ∃ l, ovTo P S k = some l ∧ ∀ b, b < 256 → (accL P l b = true ↔ ∃ i, i < k ∧ P.getD i no b = true ∧ S b = true)
  | 0, _ => ⟨[], rfl, fun b _ => by
      constructor
      · intro h; cases h
      · rintro ⟨i, hi, _⟩; omega⟩
  | k + 1, hk => by
    obtain ⟨l, hl, hb⟩ := ov_some h k (by omega)
    cases he : eqs (cand (P.getD k no) S) no with
    | true =>
      refine ⟨l, ovTo_skip hl he, fun b hb2 => ?_⟩
      rw [hb b hb2]
      constructor
      · rintro ⟨i, hi, h1⟩; exact ⟨i, by omega, h1⟩
      · rintro ⟨i, hi, h1, h2⟩
        by_cases e : i = k
        · subst e
          have := (eqs_iff _ _).1 he b hb2
          unfold cand at this
          rw [h1, h2] at this
          cases this
        · exact ⟨i, by omega, h1, h2⟩
    | false =>
      have hall : ∀ b, b < 256 → P.getD k no b = true → S b = true := by
        rcases h k (by omega) with h1 | h1
        · exact h1
        · exfalso
          have : eqs (cand (P.getD k no) S) no = true := by
            rw [eqs_iff]
            intro b hb2
            unfold cand
            cases e : P.getD k no b with
            | false => rfl
            | true => rw [h1 b hb2 e]; rfl
          rw [this] at he; cases he
      have he2 : eqs (cand (P.getD k no) S) (P.getD k no) = true := by
        rw [eqs_iff]
        intro b hb2
        unfold cand
        cases e : P.getD k no b with
        | false => rfl
        | true => rw [hall b hb2 e]; rfl
      refine ⟨l ++ [k], ovTo_take hl he he2, fun b hb2 => ?_⟩
      rw [accL_snoc]
      unfold cor
      rw [Bool.or_eq_true, hb b hb2]
      constructor
      · rintro (⟨i, hi, h1⟩ | h1)
        · exact ⟨i, by omega, h1⟩
        · exact ⟨k, by omega, h1, hall b hb2 h1⟩
      · rintro ⟨i, hi, h1, h2⟩
        by_cases e : i = k
        · subst e; exact .inr h1
        · exact .inl ⟨i, by omega, h1, h2⟩

/-- Each set of the row is some of the parts together. -/
theorem ov_parts (L : List (Nat → Bool)) (i : Nat) (hi : i < L.length) : ∃ l, ov (parts L) (L.getD i no) = some l ∧ (∀ x ∈ l, x < (parts L).length) ∧ l.length ≤ (parts L).length ∧ eqs (accL (parts L) l) (L.getD i no) = true := by
  have hp := parts_pt L
  have hmem : L.getD i no ∈ L := by rw [getD_mem hi]; exact List.getElem_mem hi
  have hc : ∀ k, k < (parts L).length → (∀ b, b < 256 → (parts L).getD k no b = true → L.getD i no b = true) ∨ (∀ b, b < 256 → (parts L).getD k no b = true → L.getD i no b = false) := by
    intro k hk
    obtain ⟨a, ha, hca⟩ := nx_hit (cls L) 256 hp.rgs k (by rw [← hp.len]; exact hk)
    have hs : ∀ b, b < 256 → (parts L).getD k no b = true → L.getD i no b = L.getD i no a := fun b hb e => by
      have h1 := hp.one hb hk e
      have h2 := (cls_iff L b a).1 (by rw [h1, hca])
      exact (alk_iff ..).1 h2 _ hmem
    cases e : L.getD i no a with
    | true => exact .inl fun b hb h => (hs b hb h).trans e
    | false => exact .inr fun b hb h => (hs b hb h).trans e
  obtain ⟨l, hl, hb⟩ := ov_some hc _ (Nat.le_refl _)
  obtain ⟨h1, h2⟩ := ovTo_bound _ l hl
  refine ⟨l, hl, h2, h1, (eqs_iff _ _).2 fun b hb2 => ?_⟩
  rw [Bool.eq_iff_iff, hb b hb2]
  constructor
  · rintro ⟨_, _, _, h⟩; exact h
  · intro h
    exact ⟨cls L b, hp.lt b hb2, hp.mem b hb2, h⟩

theorem over_yes (ao : Option Addr) (len cap : Nat) (P : List (Nat → Bool)) (S : Nat → Bool) (hl : P.length = len) (hlen : len ≤ 1099511627776) (w : World) (hT : Tab w) (hS : SAt w ao P w.heap.size) (hp : IsPart P) (l : List Nat) (hov : ov P S = some l) :
    Calls Tryd.prog 17 #[.slice ao len cap, sv S] w fun e w' => ∃ bo bc, e = .returned (.tuple #[.slice bo l.length bc, .int .i64 0]) ∧ IAt w' bo (l.map fun x : Nat => (x : Int)) w'.heap.size ∧ Below w.heap.size w w' := by
  refine (over_any ao len cap P S hl hlen w hT hS hp).mono ?_
  rintro e w' ⟨v, rfl, h | h, hb⟩
  · obtain ⟨l', bo, bc, h1, rfl, h2⟩ := h
    rw [hov] at h1
    cases h1
    exact ⟨bo, bc, rfl, h2, hb⟩
  · rw [hov] at h
    cases h.1
end Go.Proofs.YtjfjfbefhdabeaaDoor
