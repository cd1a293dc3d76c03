/-
  What the parser has read lies in memory, in blocks above the reader's: expressions. Conditions: none but those that each names.
-/
import Derived.Test.YtbiempopfmpohaaPwRd
namespace Go.Proofs.Ytbiempopfmpohaa
open Go.RowKit

mutual
/-- The parts of an expression lie in memory, in blocks of F; and so do theirs. -/
def ReU (W : World) (F : Nat → Prop) : Rx → Option Addr → Nat → Prop
  | .mk _ _ _ ps _ _, ao, cap => ps.length ≤ 4398046511104 ∧ ps.length ≤ cap ∧ cap ≤ maxLen ∧ (ps = [] ∨ ∃ g off, ao = some ⟨g, off, none⟩ ∧ F g ∧ RowU W F g off ps)
/-- A row of expressions, from a place of a block on. -/
def RowU (W : World) (F : Nat → Prop) (g : Nat) : Nat → List Rx → Prop
  | _, [] => True
  | off, p :: ps => (∃ ao cap, R9At W g off p ao cap ∧ ReU W F p ao cap) ∧ RowU W F g (off + 9) ps
end
theorem ReU_eq {W : World} {F : Nat → Prop} {a : Rx} {ao : Option Addr} {cap : Nat} : ReU W F a ao cap = (a.parts.length ≤ 4398046511104 ∧ a.parts.length ≤ cap ∧ cap ≤ maxLen ∧ (a.parts = [] ∨ ∃ g off, ao = some ⟨g, off, none⟩ ∧ F g ∧ RowU W F g off a.parts)) := by
  cases a with
  | mk k t S ps lo hi => rw [ReU]; rfl
theorem RowU_cons {W : World} {F : Nat → Prop} {g off : Nat} {p : Rx} {ps : List Rx} : RowU W F g off (p :: ps) = ((∃ ao cap, R9At W g off p ao cap ∧ ReU W F p ao cap) ∧ RowU W F g (off + 9) ps) := by rw [RowU]
theorem RowU_iff {W : World} {F : Nat → Prop} {g : Nat} : ∀ (ps : List Rx) (off : Nat), RowU W F g off ps ↔ ∀ i (hi : i < ps.length), ∃ ao cap, R9At W g (off + i * 9) ps[i] ao cap ∧ ReU W F ps[i] ao cap
  | [], off => ⟨fun _ i hi => absurd hi (Nat.not_lt_zero _), fun _ => by rw [RowU]; trivial⟩
  | p :: ps, off => by
    rw [RowU_cons, RowU_iff ps (off + 9)]
    constructor
    · rintro ⟨h0, h⟩ i hi
      cases i with
      | zero => simpa using h0
      | succ i =>
        have := h i (by simpa using hi)
        rw [show off + (i + 1) * 9 = off + 9 + i * 9 by omega]
        simpa using this
    · intro h
      refine ⟨by have h0 := h 0 (Nat.succ_pos _); rw [Nat.zero_mul, Nat.add_zero] at h0; exact h0, fun i hi => ?_⟩
      have := h (i + 1) (by simpa using hi)
      rw [show off + (i + 1) * 9 = off + 9 + i * 9 by omega] at this
      simpa using this
theorem R9At.lt {W : World} {g o : Nat} {a : Rx} {ao : Option Addr} {cap : Nat} (h : R9At W g o a ao cap) : g < W.heap.size := by
  have h0 := h.1
  rcases Nat.lt_or_ge g W.heap.size with h' | h'
  · exact h'
  · simp [World.cell?, Array.getElem?_eq_none h'] at h0
theorem R9At.same {W W' : World} {g o : Nat} {a : Rx} {ao : Option Addr} {cap : Nat} (h : R9At W g o a ao cap) (hb : W'.heap[g]? = W.heap[g]?) : R9At W' g o a ao cap := by
  obtain ⟨h0, h1, h2, h3, h4, h5, h6, h7, h8⟩ := h
  have e : ∀ k, W'.cell? ⟨g, k, none⟩ = W.cell? ⟨g, k, none⟩ := fun k => World.cell?_of_block (a := ⟨g, k, none⟩) hb
  exact ⟨(e _).trans h0, (e _).trans h1, (e _).trans h2, (e _).trans h3, (e _).trans h4, (e _).trans h5, (e _).trans h6, (e _).trans h7, (e _).trans h8⟩
/-- What changes none of these blocks leaves it; its blocks are what they are. -/
theorem ReU.keep : ∀ (n : Nat) {W W' : World} {F G : Nat → Prop} {a : Rx} {ao : Option Addr} {cap : Nat}, SizeOf.sizeOf a < n → ReU W F a ao cap → (∀ g, F g → g < W.heap.size → W'.heap[g]? = W.heap[g]? ∧ G g) → ReU W' G a ao cap
  | 0, _, _, _, _, _, _, _, h, _, _ => absurd h (Nat.not_lt_zero _)
  | n + 1, W, W', F, G, a, ao, cap, hn, h, hb => by
    rw [ReU_eq] at h ⊢
    obtain ⟨h1, h2, h3, h4⟩ := h
    refine ⟨h1, h2, h3, ?_⟩
    by_cases h0 : a.parts = []
    · exact .inl h0
    rcases h4 with h4 | ⟨g, off, rfl, hg, hr⟩
    · exact .inl h4
    · rw [RowU_iff] at hr
      obtain ⟨_, _, hc0, _⟩ := hr 0 (List.length_pos_iff.2 h0)
      obtain ⟨hs, hG⟩ := hb g hg hc0.lt
      refine .inr ⟨g, off, rfl, hG, ?_⟩
      rw [RowU_iff]
      intro i hi
      obtain ⟨ao', cap', hc, hp⟩ := hr i hi
      have := Rx.part_lt (List.getElem_mem hi)
      exact ⟨ao', cap', hc.same hs, ReU.keep n (by omega) hp hb⟩
theorem ReU.to {W W' : World} {F G : Nat → Prop} {a : Rx} {ao : Option Addr} {cap : Nat} (h : ReU W F a ao cap) (hb : ∀ g, F g → g < W.heap.size → W'.heap[g]? = W.heap[g]? ∧ G g) : ReU W' G a ao cap := ReU.keep _ (Nat.lt_succ_self _) h hb
theorem ReU.mono {W : World} {F G : Nat → Prop} {a : Rx} {ao : Option Addr} {cap : Nat} (h : ReU W F a ao cap) (hb : ∀ g, F g → g < W.heap.size → G g) : ReU W G a ao cap := h.to fun g hg hl => ⟨rfl, hb g hg hl⟩
theorem ReU.btt {W W' : World} {F : Nat → Prop} {B : Nat} {a : Rx} {ao : Option Addr} {cap : Nat} (h : ReU W F a ao cap) (hb : Btt B W W') (hB : ¬ F B ∨ W.heap.size ≤ B) : ReU W' F a ao cap :=
  h.to fun g hg hl => ⟨hb.block g hl (by rintro rfl; rcases hB with h | h; · exact h hg
                                         · omega), hg⟩
theorem ReU.on {W W' : World} {F : Nat → Prop} {a : Rx} {ao : Option Addr} {cap : Nat} (h : ReU W F a ao cap) (hb : Below W.heap.size W W') : ReU W' F a ao cap := h.to fun g hg hl => ⟨hb.block g hl, hg⟩
/-- As the statements' walks have it. -/
theorem ReU.at' : ∀ (n : Nat) {W : World} {F : Nat → Prop} {a : Rx} {ao : Option Addr} {cap : Nat}, SizeOf.sizeOf a < n → ReU W F a ao cap → ReAt W W.heap.size a ao cap
  | 0, _, _, _, _, _, h, _ => absurd h (Nat.not_lt_zero _)
  | n + 1, W, F, a, ao, cap, hn, h => by
    rw [ReU_eq] at h
    rw [ReAt_eq]
    obtain ⟨h1, h2, h3, h4⟩ := h
    refine ⟨h1, h2, h3, ?_⟩
    by_cases h0 : a.parts = []
    · exact .inl h0
    rcases h4 with h4 | ⟨g, off, rfl, hg, hr⟩
    · exact .inl h4
    · rw [RowU_iff] at hr
      have hpos : 0 < a.parts.length := List.length_pos_iff.2 h0
      obtain ⟨_, _, hc0, _⟩ := hr 0 hpos
      refine .inr ⟨g, off, rfl, hc0.lt, ?_⟩
      rw [RowAt_iff]
      intro i hi
      obtain ⟨ao', cap', hc, hp⟩ := hr i hi
      have := Rx.part_lt (List.getElem_mem hi)
      exact ⟨ao', cap', hc, ReU.at' n (by omega) hp⟩
theorem ReU.reAt {W : World} {F : Nat → Prop} {a : Rx} {ao : Option Addr} {cap : Nat} (h : ReU W F a ao cap) : ReAt W W.heap.size a ao cap := ReU.at' _ (Nat.lt_succ_self _) h
theorem ReU.leaf (W : World) (F : Nat → Prop) {a : Rx} (h : a.parts = []) : ReU W F a none 0 := by
  rw [ReU_eq, h]
  exact ⟨Nat.zero_le _, Nat.le_refl _, Nat.zero_le _, .inl rfl⟩
/-- An expression of one part, in a block of its own. -/
theorem ReU.one {W : World} {F : Nat → Prop} {g : Nat} {T : TypeId} (k : Int) (a : Rx) (ao : Option Addr) (cap : Nat) (lo hi : Int) (hg : Blk W g T (rxCells a ao cap)) (hF : F g) (ha : ReU W F a ao cap) : ReU W F (.mk k [] noSet [a] lo hi) (some ⟨g, 0, none⟩) 1 := by
  rw [ReU_eq]
  refine ⟨show (1 : Nat) ≤ 4398046511104 by decide, Nat.le_refl 1, by decide, .inr ⟨_, _, rfl, hF, ?_⟩⟩
  show RowU _ _ _ _ [a]
  rw [RowU_cons, RowU]
  exact ⟨⟨ao, cap, ⟨hg.cell 0, hg.cell 1, hg.cell 2, hg.cell 3, hg.cell 4, hg.cell 5, hg.cell 6, hg.cell 7, hg.cell 8⟩, ha⟩, trivial⟩

/-- A row of expressions of the call's own: each with where its parts lie. -/
abbrev RxI := Rx × Option Addr × Nat
def rxsL : List RxI → List Value
  | [] => []
  | x :: l => (rxCells x.1 x.2.1 x.2.2).toList ++ rxsL l
theorem rxsL_len : ∀ l : List RxI, (rxsL l).length = l.length * 9
  | [] => rfl
  | x :: l => by rw [rxsL, List.length_append, rxsL_len l]; simp; omega
theorem rxsL_append : ∀ l m : List RxI, rxsL (l ++ m) = rxsL l ++ rxsL m
  | [], m => rfl
  | x :: l, m => by rw [List.cons_append, rxsL, rxsL, rxsL_append l m, List.append_assoc]
theorem rxsL_one : ∀ l : List RxI, (rxsL l).all (·.oneCell') = true
  | [] => rfl
  | x :: l => by rw [rxsL, List.all_append, rxsL_one l]; simp [Value.oneCell']
theorem rxsL_get : ∀ (l : List RxI) (i : Nat) (hi : i < l.length) (k : Nat), k < 9 → (rxsL l)[i * 9 + k]? = (rxCells l[i].1 l[i].2.1 l[i].2.2)[k]?
  | x :: l, 0, _, k, hk => by
    rw [rxsL, List.getElem?_append_left (by simp; omega)]
    simp
  | x :: l, i + 1, hi, k, hk => by
    rw [rxsL, List.getElem?_append_right (by simp; omega)]
    have := rxsL_get l i (by simpa using hi) k hk
    have e : (i + 1) * 9 + k - (rxCells x.1 x.2.1 x.2.2).toList.length = i * 9 + k := by simp; omega
    rw [e]
    exact this
/-- It lies in memory as a row. -/
theorem row_of_owns {W : World} {base : Nat} {v : Value} {l : List RxI} {F : Nat → Prop} (ho : W.ownsRow base 27 9 v l.length (rxsL l)) (hl : 0 < l.length) (hF : ∀ k, base ≤ k → F k) (hp : ∀ x ∈ l, ReU W F x.1 x.2.1 x.2.2) :
    ∃ g cap, v = .slice (some ⟨g, 0, none⟩) l.length cap ∧ l.length ≤ cap ∧ cap ≤ maxLen ∧ F g ∧ RowU W F g 0 (l.map (·.1)) := by
  obtain ⟨h1, h2⟩ := ho
  rcases h2 with ⟨_, h0⟩ | ⟨g, cap, cur, rfl, hb, hg, hn, hm, hs, ht⟩
  · omega
  · refine ⟨g, cap, rfl, hn, hm, hF g hb, ?_⟩
    rw [RowU_iff]
    intro i hi
    have hi' : i < l.length := by simpa using hi
    refine ⟨l[i].2.1, l[i].2.2, ?_, by simpa using hp l[i] (List.getElem_mem hi')⟩
    have hc : ∀ k, k < 9 → W.cell? ⟨g, 0 + i * 9 + k, none⟩ = (rxCells l[i].1 l[i].2.1 l[i].2.2)[k]? := by
      intro k hk
      have e1 : W.cell? ⟨g, i * 9 + k, none⟩ = cur[i * 9 + k]? := by simp [World.cell?, hg]
      have hlt : i * 9 + k < l.length * 9 := by omega
      rw [Nat.zero_add, e1, ← rxsL_get l i hi' k hk, ← ht, List.getElem?_take_of_lt hlt]
      simp
    have e : (l.map (·.1))[i] = l[i].1 := by simp
    rw [e]
    exact ⟨hc 0 (by decide), hc 1 (by decide), hc 2 (by decide), hc 3 (by decide), hc 4 (by decide), hc 5 (by decide), hc 6 (by decide), hc 7 (by decide), hc 8 (by decide)⟩
theorem info_re9 : (Try.prog.info? 27).map (fun i => (i.zero, i.size, i.bytes)) = some (some (.agg zr9), 9, 96) := by kernel_rfl
end Go.Proofs.Ytbiempopfmpohaa
