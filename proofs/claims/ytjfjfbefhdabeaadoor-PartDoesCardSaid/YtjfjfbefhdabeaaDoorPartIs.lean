/-
  When a row of sets is a partition: as package part looks at it (none empty, each apart from those ahead, their least bytes rising, all bytes), and as the reference does (each byte in one set alone, the sets in the order of their first bytes). Conditions: none.
-/
import Derived.Test.YtjfjfbefhdabeaaDoorPartKit
namespace Go.Proofs.YtjfjfbefhdabeaaDoor
open Go.RowKit

theorem Pt.mem {P : List (Nat → Bool)} {c : Nat → Nat} (h : Pt P c) (b : Nat) (hb : b < 256) : P.getD (c b) no b = true := by rw [h.has b hb _ (h.lt b hb)]; simp
theorem Pt.one {P : List (Nat → Bool)} {c : Nat → Nat} (h : Pt P c) {b i : Nat} (hb : b < 256) (hi : i < P.length) (e : P.getD i no b = true) : c b = i := by
  rw [h.has b hb i hi] at e; simpa using e

/-- The bytes of the first k sets. -/
def uni (P : List (Nat → Bool)) (k : Nat) : Nat → Bool := fun b => (P.take k).any fun S => S b
theorem uni_zero (P : List (Nat → Bool)) : uni P 0 = no := rfl
theorem uni_step (P : List (Nat → Bool)) (k : Nat) (h : k < P.length) : uni P (k + 1) = cor (uni P k) (P.getD k no) := by
  funext b
  unfold uni cor
  rw [take_snoc P k h, List.any_append]
  simp
theorem uni_iff (P : List (Nat → Bool)) (k : Nat) (h : k ≤ P.length) (b : Nat) : uni P k b = true ↔ ∃ i, i < k ∧ P.getD i no b = true := by
  unfold uni
  rw [List.any_eq_true]
  constructor
  · rintro ⟨S, hS, e⟩
    obtain ⟨i, hi, rfl⟩ := List.mem_iff_getElem.1 hS
    rw [List.length_take] at hi
    refine ⟨i, by omega, ?_⟩
    rw [getD_mem (by omega)]
    simpa using e
  · rintro ⟨i, hi, e⟩
    refine ⟨P.getD i no, ?_, e⟩
    rw [getD_mem (by omega)]
    exact List.mem_iff_getElem.2 ⟨i, by rw [List.length_take]; omega, by simp⟩

/-- The first k sets are as a partition's. -/
structure OkTo (P : List (Nat → Bool)) (k : Nat) : Prop where
  some : ∀ i, i < k → nxt (P.getD i no) 0 < 256
  up : ∀ i, i + 1 < k → nxt (P.getD i no) 0 ≤ nxt (P.getD (i + 1) no) 0
  apart : ∀ i j, i < j → j < k → ∀ b, b < 256 → P.getD i no b = true → P.getD j no b = true → False
theorem OkTo.zero (P : List (Nat → Bool)) : OkTo P 0 := ⟨fun i h => by omega, fun i h => by omega, fun i j _ h => by omega⟩

theorem nxt_least {S : Nat → Bool} {b : Nat} (_ : b < 256) (h : S b = true) : nxt S 0 ≤ b := by
  obtain ⟨_, _, h1, _⟩ := nxt_spec S 0 (by decide)
  rcases Nat.lt_or_ge b (nxt S 0) with h' | h'
  · rw [h1 b (Nat.zero_le _) h'] at h; cases h
  · exact h'
theorem nxt_in {S : Nat → Bool} (h : nxt S 0 < 256) : S (nxt S 0) = true := (nxt_spec S 0 (by decide)).2.2.2 h

theorem Pt.okTo {P : List (Nat → Bool)} {c : Nat → Nat} (h : Pt P c) (k : Nat) (hk : k ≤ P.length) : OkTo P k := by
  have hit : ∀ i, i < P.length → ∃ b, b < 256 ∧ c b = i := fun i hi => nx_hit c 256 h.rgs i (by rw [← h.len]; exact hi)
  refine ⟨fun i hi => ?_, fun i hi => ?_, fun i j hij hj b hb e1 e2 => ?_⟩
  · obtain ⟨b, hb, e⟩ := hit i (by omega)
    have := nxt_least hb (by rw [← e]; exact h.mem b hb : P.getD i no b = true)
    omega
  · obtain ⟨b, hb, e⟩ := hit (i + 1) (by omega)
    have hlt := nxt_least hb (by rw [← e]; exact h.mem b hb : P.getD (i + 1) no b = true)
    have hin := nxt_in (S := P.getD (i + 1) no) (by omega)
    have hc := h.one (by omega) (by omega) hin
    have hr := h.rgs (nxt (P.getD (i + 1) no) 0) (by omega)
    obtain ⟨a, ha, ea⟩ := nx_hit c (nxt (P.getD (i + 1) no) 0) (fun x hx => h.rgs x (by omega)) i (by omega)
    have := nxt_least (S := P.getD i no) (b := a) (by omega) (by rw [← ea]; exact h.mem a (by omega))
    omega
  · have h1 := h.one hb (by omega) e1
    have h2 := h.one hb (by omega) e2
    omega
theorem Pt.all {P : List (Nat → Bool)} {c : Nat → Nat} (h : Pt P c) (b : Nat) (hb : b < 256) : uni P P.length b = true :=
  (uni_iff P _ (Nat.le_refl _) b).2 ⟨c b, h.lt b hb, h.mem b hb⟩

theorem isPart_of {P : List (Nat → Bool)} (h : OkTo P P.length) (ha : ∀ b, b < 256 → uni P P.length b = true) : IsPart P := by
  have hm : ∀ b, b < 256 → fi P b < P.length ∧ P.getD (fi P b) no b = true := by
    intro b hb
    obtain ⟨i, hi, e⟩ := (uni_iff P _ (Nat.le_refl _) b).1 (ha b hb)
    have hl : fi P b < P.length := by
      unfold fi
      rw [List.findIdx_lt_length]
      exact ⟨P[i], List.getElem_mem hi, by rw [getD_mem hi] at e; exact e⟩
    refine ⟨hl, ?_⟩
    rw [getD_mem hl]
    exact List.findIdx_getElem (w := hl)
  have hone : ∀ b, b < 256 → ∀ i, i < P.length → P.getD i no b = true → fi P b = i := by
    intro b hb i hi e
    obtain ⟨hl, hx⟩ := hm b hb
    rcases Nat.lt_trichotomy (fi P b) i with h' | h' | h'
    · exact (h.apart _ _ h' hi b hb hx e).elim
    · exact h'
    · exact (h.apart _ _ h' hl b hb e hx).elim
  have hpt : ∀ i, i < P.length → nxt (P.getD i no) 0 < 256 ∧ fi P (nxt (P.getD i no) 0) = i := fun i hi => by
    have h1 := h.some i hi
    exact ⟨h1, hone _ h1 i hi (nxt_in h1)⟩
  have hr : rgs (fi P) 256 := by
    intro b hb
    obtain ⟨hl, hx⟩ := hm b hb
    generalize hi : fi P b = i at *
    match i with
    | 0 => exact Nat.zero_le _
    | j + 1 =>
      obtain ⟨h1, h2⟩ := hpt j (by omega)
      obtain ⟨h3, h4⟩ := hpt (j + 1) hl
      have h5 := h.up j hl
      have h6 := nxt_least hb hx
      have h7 : nxt (P.getD j no) 0 ≠ nxt (P.getD (j + 1) no) 0 := fun e => by rw [e, h4] at h2; omega
      have := nx_gt (fi P) b _ (show nxt (P.getD j no) 0 < b by omega)
      omega
  refine ⟨hr, ?_, fun b hb i hi => ?_⟩
  · rcases Nat.lt_trichotomy P.length (nx (fi P) 256) with h' | h' | h'
    · obtain ⟨b, hb, e⟩ := nx_hit (fi P) 256 hr _ h'
      have := (hm b hb).1
      omega
    · exact h'
    · have h0 : nx (fi P) 256 < P.length := h'
      obtain ⟨h1, h2⟩ := hpt _ h0
      have := nx_gt (fi P) 256 _ h1
      omega
  · rw [Bool.eq_iff_iff]
    constructor
    · intro e; rw [hone b hb i hi e]; simp
    · intro e
      have : fi P b = i := by simpa using e
      rw [← this]; exact (hm b hb).2

open Classical in
noncomputable def partB (P : List (Nat → Bool)) : Bool := decide (IsPart P)
theorem partB_iff (P : List (Nat → Bool)) : partB P = true ↔ IsPart P := by simp [partB]
theorem partB_f {P : List (Nat → Bool)} (h : ¬ IsPart P) : partB P = false := by simp [partB, h]

/-- Behind the first i sets, of one byte: how many have it, and how many classes there are then. -/
structure Row1 (P : List (Nat → Bool)) (b m i n x : Nat) : Prop where
  le : n ≤ i
  xle : x ≤ m + i
  none : n = 0 → (∀ j, j < i → P.getD j no b = false) ∧ x = m
  one : n = 1 → ∃ i0, i0 < i ∧ (∀ j, j < i → P.getD j no b = (i0 == j)) ∧ i0 ≤ m ∧ x = max m (i0 + 1)
  two : 2 ≤ n → ∃ j1 j2, j1 < j2 ∧ j2 < i ∧ P.getD j1 no b = true ∧ P.getD j2 no b = true
theorem Row1.zero (P : List (Nat → Bool)) (b m : Nat) : Row1 P b m 0 0 m := ⟨Nat.le_refl _, Nat.le_refl _, fun _ => ⟨fun j h => by omega, rfl⟩, fun h => by omega, fun h => by omega⟩
theorem Row1.lacks {P : List (Nat → Bool)} {b m i n x : Nat} (h : Row1 P b m i n x) (e : P.getD i no b = false) : Row1 P b m (i + 1) n x := by
  refine ⟨by have := h.le; omega, by have := h.xle; omega, fun h0 => ⟨fun j hj => ?_, (h.none h0).2⟩, fun h1 => ?_, fun h2 => ?_⟩
  · by_cases ej : j = i
    · subst ej; exact e
    · exact (h.none h0).1 j (by omega)
  · obtain ⟨i0, hi0, hj, hm, hx⟩ := h.one h1
    refine ⟨i0, by omega, fun j hji => ?_, hm, hx⟩
    by_cases ej : j = i
    · subst ej; rw [e]; symm; simp; omega
    · exact hj j (by omega)
  · obtain ⟨j1, j2, h3, h4, h5, h6⟩ := h.two h2
    exact ⟨j1, j2, h3, by omega, h5, h6⟩
theorem Row1.has {P : List (Nat → Bool)} {b m i n x : Nat} (h : Row1 P b m i n x) (e : P.getD i no b = true) (hi : i ≤ x) : Row1 P b m (i + 1) (n + 1) (max x (i + 1)) := by
  refine ⟨by have := h.le; omega, by have := h.xle; omega, fun h0 => by omega, fun h1 => ?_, fun h2 => ?_⟩
  · obtain ⟨hj, hx⟩ := h.none (by omega)
    refine ⟨i, by omega, fun j hji => ?_, by omega, by omega⟩
    by_cases ej : j = i
    · subst ej; rw [e]; simp
    · rw [hj j (by omega)]; symm; simp; omega
  · have : ∃ j, j < i ∧ P.getD j no b = true := by
      by_cases h1 : n = 1
      · obtain ⟨i0, hi0, hj, _⟩ := h.one h1
        exact ⟨i0, hi0, by rw [hj i0 hi0]; simp⟩
      · obtain ⟨j1, j2, h3, h4, h5, _⟩ := h.two (by omega)
        exact ⟨j1, by omega, h5⟩
    obtain ⟨j, hj, ej⟩ := this
    exact ⟨j, i, hj, by omega, ej, e⟩

/-- Behind the bytes below b. -/
structure RowsTo (P : List (Nat → Bool)) (b : Nat) : Prop where
  has : ∀ a, a < b → ∀ i, i < P.length → P.getD i no a = (fi P a == i)
  lt : ∀ a, a < b → fi P a < P.length
  rgs : rgs (fi P) b
theorem RowsTo.zero (P : List (Nat → Bool)) : RowsTo P 0 := ⟨fun a h => by omega, fun a h => by omega, fun a h => by omega⟩
theorem fi_of {P : List (Nat → Bool)} {b i0 : Nat} (hi : i0 < P.length) (h : ∀ j, j < P.length → P.getD j no b = (i0 == j)) : fi P b = i0 := by
  unfold fi
  rw [List.findIdx_eq hi]
  have h0 := h i0 hi
  rw [getD_mem hi] at h0
  refine ⟨by rw [h0]; simp, fun j hj => ?_⟩
  have h1 := h j (by omega)
  rw [getD_mem (by omega)] at h1
  rw [h1]; simp; omega
theorem RowsTo.step {P : List (Nat → Bool)} {b x : Nat} (h : RowsTo P b) (hr : Row1 P b (nx (fi P) b) P.length 1 x) : RowsTo P (b + 1) ∧ x = nx (fi P) (b + 1) := by
  obtain ⟨i0, hi0, hj, hm, hx⟩ := hr.one rfl
  have hf := fi_of hi0 hj
  refine ⟨⟨fun a ha i hi => ?_, fun a ha => ?_, fun a ha => ?_⟩, by rw [nx, hf]; exact hx⟩
  · by_cases e : a = b
    · subst e; rw [hf]; exact hj i hi
    · exact h.has a (by omega) i hi
  · by_cases e : a = b
    · subst e; omega
    · exact h.lt a (by omega)
  · by_cases e : a = b
    · subst e; omega
    · exact h.rgs a (by omega)
theorem Row1.far {P : List (Nat → Bool)} {b i n x : Nat} (h : Row1 P b (nx (fi P) b) i n x) (hb : b < 256) (hi : i < P.length) (e : P.getD i no b = true) (hx : x < i) : ¬ IsPart P := by
  intro hp
  by_cases h0 : n = 0
  · obtain ⟨_, h2⟩ := h.none h0
    have := hp.one hb hi e
    have h3 := hp.rgs b hb
    omega
  · have : ∃ j, j < i ∧ P.getD j no b = true := by
      by_cases h1 : n = 1
      · obtain ⟨i0, hi0, hj, _⟩ := h.one h1
        exact ⟨i0, hi0, by rw [hj i0 hi0]; simp⟩
      · obtain ⟨j1, j2, h3, h4, h5, _⟩ := h.two (by omega)
        exact ⟨j1, by omega, h5⟩
    obtain ⟨j, hj, ej⟩ := this
    have h1 := hp.one hb (by omega) ej
    have h2 := hp.one hb hi e
    omega
theorem Row1.not1 {P : List (Nat → Bool)} {b m n x : Nat} (h : Row1 P b m P.length n x) (hb : b < 256) (hn : n ≠ 1) : ¬ IsPart P := by
  intro hp
  by_cases h0 : n = 0
  · obtain ⟨h1, _⟩ := h.none h0
    have h2 := hp.mem b hb
    rw [h1 _ (hp.lt b hb)] at h2; cases h2
  · obtain ⟨j1, j2, h3, h4, h5, h6⟩ := h.two (by omega)
    have h1 := hp.one hb (by omega) h5
    have h2 := hp.one hb h4 h6
    omega
theorem RowsTo.end {P : List (Nat → Bool)} (h : RowsTo P 256) : partB P = decide (nx (fi P) 256 = P.length) := by
  by_cases e : nx (fi P) 256 = P.length
  · rw [decide_eq_true e, partB_iff]
    exact ⟨h.rgs, e.symm, h.has⟩
  · rw [decide_eq_false e]
    exact partB_f fun hp => e hp.len.symm
end Go.Proofs.YtjfjfbefhdabeaaDoor
