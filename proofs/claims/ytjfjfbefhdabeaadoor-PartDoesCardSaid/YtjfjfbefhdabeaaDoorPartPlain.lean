/-
  Plain arithmetic of partitions: numbers of classes, each at most one more than the greatest one ahead; the sets of such classes; which bytes some sets tell apart. Conditions: none.
-/
import Derived.Test.YtjfjfbefhdabeaaDoorSetPlain
namespace Go.Proofs.YtjfjfbefhdabeaaDoor

/-- How many classes there are among the bytes below n. -/
def nx (c : Nat → Nat) : Nat → Nat
  | 0 => 0
  | n + 1 => max (nx c n) (c n + 1)
/-- Each number is at most one more than the greatest one ahead. -/
def rgs (c : Nat → Nat) (n : Nat) : Prop := ∀ b, b < n → c b ≤ nx c b

theorem nx_step (c : Nat → Nat) (n : Nat) (h : c n ≤ nx c n) : nx c (n + 1) = if c n = nx c n then nx c n + 1 else nx c n := by
  rw [nx]; split <;> omega
theorem nx_gt (c : Nat → Nat) : ∀ n b, b < n → c b < nx c n
  | n + 1, b, h => by
    rw [nx]
    by_cases e : b = n
    · subst e; omega
    · have := nx_gt c n b (by omega); omega
theorem nx_mono (c : Nat → Nat) : ∀ n m, n ≤ m → nx c n ≤ nx c m
  | n, 0, h => by obtain rfl : n = 0 := by omega
                  exact Nat.le_refl _
  | n, m + 1, h => by
    by_cases e : n = m + 1
    · subst e; exact Nat.le_refl _
    · have := nx_mono c n m (by omega)
      rw [nx]; omega
theorem nx_le (c : Nat → Nat) : ∀ n, rgs c n → nx c n ≤ n
  | 0, _ => Nat.le_refl _
  | n + 1, h => by
    have h1 := nx_le c n fun b hb => h b (by omega)
    have h2 := h n (by omega)
    rw [nx]; omega
theorem nx_hit (c : Nat → Nat) : ∀ n, rgs c n → ∀ k, k < nx c n → ∃ b, b < n ∧ c b = k
  | 0, _, k, hk => by simp [nx] at hk
  | n + 1, h, k, hk => by
    by_cases e : k < nx c n
    · obtain ⟨b, hb, hc⟩ := nx_hit c n (fun b hb => h b (by omega)) k e
      exact ⟨b, by omega, hc⟩
    · have h2 := h n (by omega)
      rw [nx] at hk
      exact ⟨n, by omega, by omega⟩
theorem nx_ext {c d : Nat → Nat} : ∀ n, (∀ b, b < n → c b = d b) → nx c n = nx d n
  | 0, _ => rfl
  | n + 1, h => by rw [nx, nx, nx_ext n fun b hb => h b (by omega), h n (by omega)]
theorem rgs_ext {c d : Nat → Nat} {n : Nat} (h : ∀ b, b < n → c b = d b) (hc : rgs c n) : rgs d n := fun b hb => by
  rw [← h b hb, ← nx_ext b fun a ha => h a (by omega)]; exact hc b hb

/-- Two such rows of numbers that tell the same apart are the same. -/
theorem rgs_same {c d : Nat → Nat} {n : Nat} (hc : rgs c n) (hd : rgs d n) (h : ∀ a b, a < n → b < n → (c a = c b ↔ d a = d b)) : ∀ b, b < n → c b = d b := by
  intro b
  induction b using Nat.strongRecOn with
  | ind b ih =>
    intro hb
    have hnx : nx c b = nx d b := nx_ext b fun a ha => ih a ha (by omega)
    have h1 := hc b hb
    have h2 := hd b hb
    by_cases e1 : c b < nx c b
    · obtain ⟨a, ha, hca⟩ := nx_hit c b (fun x hx => hc x (by omega)) _ e1
      have := (h a b (by omega) hb).1 hca
      rw [← hca, ih a ha (by omega)]; exact this
    · by_cases e2 : d b < nx d b
      · obtain ⟨a, ha, hda⟩ := nx_hit d b (fun x hx => hd x (by omega)) _ e2
        have := (h a b (by omega) hb).2 hda
        rw [← hda, ← ih a ha (by omega)]; exact this.symm
      · omega

/-- The empty set. -/
abbrev no : Nat → Bool := fun _ => false

/-- The sets of the classes, of the bytes below n. -/
def prts (c : Nat → Nat) (n : Nat) : List (Nat → Bool) := (List.range (nx c n)).map fun k b => decide (b < n) && c b == k
theorem prts_length (c : Nat → Nat) (n : Nat) : (prts c n).length = nx c n := by simp [prts]
theorem prts_get (c : Nat → Nat) (n i : Nat) (h : i < nx c n) : (prts c n).getD i no = fun b => decide (b < n) && c b == i := by
  simp [prts, List.getD, h]
theorem prts_zero (c : Nat → Nat) : prts c 0 = [] := rfl
theorem prts_ext {c d : Nat → Nat} {n : Nat} (h : ∀ b, b < n → c b = d b) : prts c n = prts d n := by
  unfold prts
  rw [nx_ext n h]
  refine List.map_congr_left fun k _ => ?_
  funext b
  by_cases hb : b < n
  · rw [h b hb]
  · simp [hb]

theorem prts_elem (c : Nat → Nat) (n i : Nat) (h : i < (prts c n).length) : (prts c n)[i] = fun b => decide (b < n) && c b == i := by simp [prts]
theorem upd_step (c : Nat → Nat) (n i : Nat) (S : Nat → Bool) (h : ∀ b, b < n → S b = (c b == i)) (h' : ∀ b, n ≤ b → S b = false) (hc : c n = i) : (fun b => decide (b < n + 1) && c b == i) = upd S n := by
  funext b
  unfold upd
  rcases Nat.lt_trichotomy b n with hb | hb | hb
  · rw [h b hb]
    have h1 : b < n + 1 := by omega
    have h2 : (b == n) = false := by simp; omega
    simp [h1, h2]
  · subst hb; simp [hc]
  · rw [h' b (by omega)]
    have h1 : ¬ b < n + 1 := by omega
    have h2 : (b == n) = false := by simp; omega
    simp [h1, h2]
theorem other_step (c : Nat → Nat) (n i : Nat) (hc : ¬ c n = i) : (fun b => decide (b < n + 1) && c b == i) = fun b => decide (b < n) && c b == i := by
  funext b
  rcases Nat.lt_trichotomy b n with hb | hb | hb
  · have h1 : b < n + 1 := by omega
    simp [h1, hb]
  · subst hb; simp [hc]
  · have h1 : ¬ b < n + 1 := by omega
    have h2 : ¬ b < n := by omega
    simp [h1, h2]

/-- A byte more, of a class that there is. -/
theorem prts_old (c : Nat → Nat) (n : Nat) (h : c n < nx c n) : prts c (n + 1) = (prts c n).set (c n) (upd ((prts c n).getD (c n) no) n) := by
  have hn : nx c (n + 1) = nx c n := by rw [nx]; omega
  rw [prts_get _ _ _ h]
  refine List.ext_getElem (by simp [prts, hn]) fun i h1 h2 => ?_
  rw [prts_elem, List.getElem_set]
  split
  · next e =>
    subst e
    exact upd_step c n _ _ (fun b hb => by simp [hb]) (fun b hb => by simp; omega) rfl
  · next e =>
    rw [prts_elem]
    exact other_step c n i e
/-- A byte more, of a new class. -/
theorem prts_new (c : Nat → Nat) (n : Nat) (h : c n = nx c n) : prts c (n + 1) = (prts c n ++ [no]).set (c n) (upd ((prts c n ++ [no]).getD (c n) no) n) := by
  have hn : nx c (n + 1) = nx c n + 1 := by rw [nx]; omega
  have hg : (prts c n ++ [no]).getD (c n) no = no := by rw [h, ← prts_length c n]; simp [List.getD]
  rw [hg]
  refine List.ext_getElem (by simp [prts, hn]) fun i h1 h2 => ?_
  rw [prts_elem, List.getElem_set]
  split
  · next e =>
    subst e
    exact upd_step c n _ _ (fun b hb => by have := nx_gt c n b hb; simp; omega) (fun b _ => rfl) rfl
  · next e =>
    rw [List.length_set, List.length_append, prts_length] at h2
    simp only [List.length_cons, List.length_nil] at h2
    rw [List.getElem_append_left (by rw [prts_length]; omega), prts_elem]
    exact other_step c n i e

/-- Are two bytes alike for some sets? -/
def alk (L : List (Nat → Bool)) (a b : Nat) : Bool := L.all fun S => S a == S b
theorem alk_iff (L : List (Nat → Bool)) (a b : Nat) : alk L a b = true ↔ ∀ S ∈ L, S a = S b := by simp [alk]
theorem alk_refl (L : List (Nat → Bool)) (a : Nat) : alk L a a = true := by simp [alk]
theorem alk_symm {L : List (Nat → Bool)} {a b : Nat} (h : alk L a b = true) : alk L b a = true := (alk_iff ..).2 fun S hS => ((alk_iff ..).1 h S hS).symm
theorem alk_trans {L : List (Nat → Bool)} {a b d : Nat} (h : alk L a b = true) (k : alk L b d = true) : alk L a d = true := (alk_iff ..).2 fun S hS => ((alk_iff ..).1 h S hS).trans ((alk_iff ..).1 k S hS)

/-- The least bytes of the parts, of the bytes below n. -/
def reps (L : List (Nat → Bool)) : Nat → List Nat
  | 0 => []
  | n + 1 => if (reps L n).any (fun r => alk L r n) then reps L n else reps L n ++ [n]
/-- Which part a byte is in. -/
def cls (L : List (Nat → Bool)) (b : Nat) : Nat := (reps L b).findIdx fun r => alk L r b

theorem getD_left (l m : List Nat) (i : Nat) (h : i < l.length) : (l ++ m).getD i 0 = l.getD i 0 := by simp [List.getD, List.getElem?_append_left h]
theorem findIdx_any {α : Type} (p : α → Bool) (l : List α) : l.any p = true ↔ l.findIdx p < l.length := by
  rw [List.findIdx_lt_length]; simp
theorem reps_old {L : List (Nat → Bool)} {n : Nat} (h : cls L n < (reps L n).length) : reps L (n + 1) = reps L n := by
  rw [reps, if_pos ((findIdx_any _ _).2 h)]
theorem reps_new {L : List (Nat → Bool)} {n : Nat} (h : ¬ cls L n < (reps L n).length) : reps L (n + 1) = reps L n ++ [n] := by
  rw [reps, if_neg fun e => h ((findIdx_any _ _).1 e)]
theorem cls_le (L : List (Nat → Bool)) (n : Nat) : cls L n ≤ (reps L n).length := List.findIdx_le_length
theorem nx_cls (L : List (Nat → Bool)) : ∀ n, nx (cls L) n = (reps L n).length
  | 0 => rfl
  | n + 1 => by
    have h1 := cls_le L n
    rw [nx, nx_cls L n]
    by_cases h : cls L n < (reps L n).length
    · rw [reps_old h]; omega
    · rw [reps_new h, List.length_append]; simp; omega
theorem cls_rgs (L : List (Nat → Bool)) (n : Nat) : rgs (cls L) n := fun b _ => by rw [nx_cls]; exact cls_le L b

/-- The parts' least bytes: each byte below n is alike to the one of its class. -/
theorem reps_spec (L : List (Nat → Bool)) : ∀ n, (∀ b, b < n → alk L ((reps L n).getD (cls L b) 0) b = true) ∧ (∀ i j, i < j → j < (reps L n).length → alk L ((reps L n).getD i 0) ((reps L n).getD j 0) = false) ∧ ∀ i, i < (reps L n).length → (reps L n).getD i 0 < n
  | 0 => ⟨fun b h => by omega, fun i j _ h => by simp [reps] at h, fun i h => by simp [reps] at h⟩
  | n + 1 => by
    obtain ⟨h1, h2, h3⟩ := reps_spec L n
    by_cases h : cls L n < (reps L n).length
    · rw [reps_old h]
      refine ⟨fun b hb => ?_, h2, fun i hi => by have := h3 i hi; omega⟩
      by_cases e : b = n
      · subst e
        have := List.findIdx_getElem (w := h)
        rw [List.getD, List.getElem?_eq_getElem h]
        exact this
      · exact h1 b (by omega)
    · rw [reps_new h]
      have hl : cls L n = (reps L n).length := by have := cls_le L n; omega
      refine ⟨fun b hb => ?_, fun i j hij hj => ?_, fun i hi => ?_⟩
      · by_cases e : b = n
        · subst e
          rw [hl]
          simp [List.getD, alk_refl]
        · have hb' : cls L b < (reps L n).length := by rw [← nx_cls]; exact nx_gt _ n b (by omega)
          have := h1 b (by omega)
          rwa [getD_left _ _ _ hb']
      · simp at hj
        by_cases e : j = (reps L n).length
        · subst e
          have hi : i < (reps L n).length := hij
          have : ¬ alk L ((reps L n).getD i 0) n = true := fun ha => h ((findIdx_any _ _).1 (by
            rw [List.any_eq_true]
            exact ⟨_, by rw [List.getD, List.getElem?_eq_getElem hi]; exact List.getElem_mem hi, ha⟩))
          rw [getD_left _ _ _ hi]
          simpa [List.getD] using this
        · have hj' : j < (reps L n).length := by omega
          have := h2 i j hij hj'
          rwa [getD_left _ _ _ (by omega), getD_left _ _ _ hj']
      · simp at hi
        by_cases e : i = (reps L n).length
        · subst e; simp [List.getD]
        · have hi' : i < (reps L n).length := by omega
          rw [getD_left _ _ _ hi']
          have := h3 i hi'; omega

/-- Two bytes are in one part just if they are alike. -/
theorem cls_iff (L : List (Nat → Bool)) (a b : Nat) : cls L a = cls L b ↔ alk L a b = true := by
  obtain ⟨h1, h2, _⟩ := reps_spec L (max a b + 1)
  have ha := h1 a (by omega)
  have hb := h1 b (by omega)
  have la : cls L a < (reps L (max a b + 1)).length := by rw [← nx_cls]; exact nx_gt _ _ _ (by omega)
  have lb : cls L b < (reps L (max a b + 1)).length := by rw [← nx_cls]; exact nx_gt _ _ _ (by omega)
  constructor
  · intro e
    rw [e] at ha
    exact alk_trans (alk_symm ha) hb
  · intro e
    have hab : alk L ((reps L (max a b + 1)).getD (cls L a) 0) ((reps L (max a b + 1)).getD (cls L b) 0) = true := alk_trans ha (alk_trans e (alk_symm hb))
    rcases Nat.lt_trichotomy (cls L a) (cls L b) with h | h | h
    · rw [h2 _ _ h lb] at hab; cases hab
    · exact h
    · have := alk_symm hab
      rw [h2 _ _ h la] at this; cases this

/-- Sets of sets that tell the same apart have the same parts. -/
theorem cls_same {L M : List (Nat → Bool)} (h : ∀ a b, a < 256 → b < 256 → (alk L a b = true ↔ alk M a b = true)) (b : Nat) (hb : b < 256) : cls L b = cls M b :=
  rgs_same (cls_rgs L 256) (cls_rgs M 256) (fun a b ha hb => by rw [cls_iff, cls_iff]; exact h a b ha hb) b hb

/-- The partition that tells the sets' bytes apart. -/
def parts (L : List (Nat → Bool)) : List (Nat → Bool) := prts (cls L) 256
theorem parts_length_le (L : List (Nat → Bool)) : (parts L).length ≤ 256 := by rw [parts, prts_length]; exact nx_le _ _ (cls_rgs L 256)

/-- Which set has the byte: the first one. -/
def fi (P : List (Nat → Bool)) (b : Nat) : Nat := P.findIdx fun S => S b
/-- The sets are a partition, its classes c. -/
structure Pt (P : List (Nat → Bool)) (c : Nat → Nat) : Prop where
  rgs : rgs c 256
  len : P.length = nx c 256
  has : ∀ b, b < 256 → ∀ i, i < P.length → P.getD i no b = (c b == i)
/-- The sets are a partition. -/
def IsPart (P : List (Nat → Bool)) : Prop := Pt P (fi P)
theorem Pt.lt {P : List (Nat → Bool)} {c : Nat → Nat} (h : Pt P c) (b : Nat) (hb : b < 256) : c b < P.length := by rw [h.len]; exact nx_gt c 256 b hb
theorem getD_mem {α : Type} {P : List α} {i : Nat} {z : α} (h : i < P.length) : P.getD i z = P[i] := by simp [List.getD, h]
theorem Pt.fi {P : List (Nat → Bool)} {c : Nat → Nat} (h : Pt P c) (b : Nat) (hb : b < 256) : fi P b = c b := by
  have hl := h.lt b hb
  have h1 : (fun S : Nat → Bool => S b) P[c b] = true := by
    have := h.has b hb (c b) hl
    rw [getD_mem hl] at this
    simp [this]
  unfold Go.Proofs.YtjfjfbefhdabeaaDoor.fi
  rw [List.findIdx_eq hl]
  refine ⟨h1, fun j hj => ?_⟩
  have := h.has b hb j (by omega)
  rw [getD_mem (by omega)] at this
  simp [this]; omega
theorem Pt.ext {P : List (Nat → Bool)} {c d : Nat → Nat} (h : Pt P c) (e : ∀ b, b < 256 → c b = d b) : Pt P d :=
  ⟨rgs_ext e h.rgs, by rw [h.len, nx_ext 256 e], fun b hb i hi => by rw [← e b hb]; exact h.has b hb i hi⟩
theorem Pt.isPart {P : List (Nat → Bool)} {c : Nat → Nat} (h : Pt P c) : IsPart P := h.ext fun b hb => (h.fi b hb).symm
theorem Pt.alk {P : List (Nat → Bool)} {c : Nat → Nat} (h : Pt P c) (a b : Nat) (ha : a < 256) (hb : b < 256) : c a = c b ↔ alk P a b = true := by
  rw [alk_iff]
  constructor
  · intro e S hS
    obtain ⟨i, hi, rfl⟩ := List.mem_iff_getElem.1 hS
    have h1 := h.has a ha i hi
    have h2 := h.has b hb i hi
    rw [getD_mem hi] at h1 h2
    rw [h1, h2, e]
  · intro e
    have hl := h.lt a ha
    have := e _ (List.getElem_mem hl)
    have h1 := h.has a ha _ hl
    have h2 := h.has b hb _ hl
    rw [getD_mem hl] at h1 h2
    rw [h1, h2, beq_self_eq_true] at this
    exact (beq_iff_eq.1 this.symm).symm
/-- The classes of a partition's own parts are its own. -/
theorem Pt.cls {P : List (Nat → Bool)} {c : Nat → Nat} (h : Pt P c) (b : Nat) (hb : b < 256) : cls P b = c b :=
  rgs_same (cls_rgs P 256) h.rgs (fun a b ha hb => by rw [cls_iff]; exact (h.alk a b ha hb).symm) b hb
theorem prts_pt {c : Nat → Nat} (h : rgs c 256) : Pt (prts c 256) c :=
  ⟨h, prts_length c 256, fun b hb i hi => by rw [prts_get c 256 i (by rwa [prts_length] at hi)]; simp [hb]⟩
theorem parts_pt (L : List (Nat → Bool)) : Pt (parts L) (cls L) := prts_pt (cls_rgs L 256)
theorem parts_parts (L : List (Nat → Bool)) : parts (parts L) = parts L := prts_ext fun b hb => (parts_pt L).cls b hb
end Go.Proofs.YtjfjfbefhdabeaaDoor
