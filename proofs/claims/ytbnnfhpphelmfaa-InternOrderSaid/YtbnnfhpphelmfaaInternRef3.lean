/-
  Layer 5's reference as a table, continued: Put. Conditions: sizes that each names.
-/
import Derived.Test.YtbnnfhpphelmfaaInternRef2
import Derived.OneCell
namespace Go.Proofs.Ytbnnfhpphelmfaa
open Go.RowKit

/-- An append to a row of the call's own, as one step of a region that draws its order; and where it lies. -/
theorem step_append_at {P : Program} {ops : Array Oper} {o : Oper} {a : Act} {w : World} {K : Act → World → Prop} {Q : Exit → Act → World → Prop} {E : Prop}
    (hg : o.guard = none) (s x : Operand) (t : TypeId) (hop : o.op = Op.call { callee := Callee.builtin Builtin.append, args := #[s, x], argTypes := #[t, t] })
    (base : Nat) (e : TypeId) (i : TypeInfo) (z : Value) (size bytes : Nat) (h1 : P.underlying t = some (.slice e)) (h2 : P.info? e = some i) (h3 : i.zero = some z) (h4 : i.size = size) (h5 : i.bytes = bytes) (h6 : z.cells.size = size) (h7 : 0 < size)
    (v : Value) (k : Nat) (xs : List Value) (hs : a.eval s = v) (hown : w.ownsRow base e size v k xs) (ad : Addr) (m c : Nat) (news : List Value) (hx : a.eval x = .slice (some ad) m c) (hn : news.length = m * size)
    (hc : ∀ j u, news[j]? = some u → w.cell? (ad.add j) = some u) (h1c : ∀ u ∈ news, u.oneCell' = true) (b1 : k + m ≤ maxLen) (b2 : (k + m) * bytes ≤ 140737488355328) (b3 : base ≤ w.heap.size)
    (hK : ∀ v' w', w'.ownsRow base e size v' (k + m) (xs ++ news) → w.grownBy w' v.ownBlock → (v'.ownBlock = v.ownBlock ∨ v'.ownBlock = some w.heap.size) → K (a.put o.dst v') w') :
    if Region.wanted o (yielded ops a.tmps) = true then Oper.wp P o a w K Q else E := by
  have hw : Region.wanted o (yielded ops a.tmps) = true := by simp [Region.wanted, hg]
  rw [if_pos hw]
  obtain ⟨v', w', hrun, r1, r2, _, r3⟩ := run_append_own_at (P := P) w base t o.type e i z size bytes h1 h2 h3 h4 h5 h6 h7 v k xs hown ad m c news hn hc h1c b1 b2 b3
  have := hK v' w' r1 r2 r3
  unfold Oper.wp
  simp [execOp, hop, resolve, invoke, builtin, hs, hx, hrun, Result.andThen]
  exact this

/-- What Put answers, and what the table is then. -/
def putN (L : List (List Int)) (s : List Int) : Int := match posTo s L with
  | some n => (n : Int)
  | none => if 4096 ≤ L.length then 0 else L.length
def putB (L : List (List Int)) (s : List Int) : Bool := match posTo s L with
  | some _ => false
  | none => if 4096 ≤ L.length then false else true
def putE (L : List (List Int)) (s : List Int) : Int := match posTo s L with
  | some _ => 0
  | none => if 4096 ≤ L.length then 2 else 0
def putL (L : List (List Int)) (s : List Int) : List (List Int) := match posTo s L with
  | some _ => L
  | none => if 4096 ≤ L.length then L else L ++ [s]
theorem putL_len (L : List (List Int)) (s : List Int) : (putL L s).length ≤ L.length + 1 := by
  unfold putL
  split
  · omega
  · split
    · omega
    · simp
theorem putL_max (L : List (List Int)) (s : List Int) (h : L.length ≤ 4096) : (putL L s).length ≤ 4096 := by
  unfold putL
  split
  · exact h
  · split
    · exact h
    · simp; omega

/-- One row more: the row lies in new memory, the slice of rows is the old one or lies in a new block. -/
theorem RT.grow {W W2 W3 : World} {a : Nat} {L : List (List Int)} {F : Nat → Prop} {v v' : Value} {rows : List Value} {s : List Int} {so : Option Addr} {sc : Nat}
    (h1 : Blk W a 33 #[v]) (h2 : W.ownsRow 0 22 1 v L.length rows) (h3 : ∀ k, v.ownBlock = some k → F k ∧ k ≠ a)
    (h4 : ∀ i, i < L.length → ∃ so sc, rows[i]? = some (.slice so (L.getD i []).length sc) ∧ (L.getD i []).length ≤ sc ∧ (L.getD i []).length ≤ 1000000 ∧ RowIn W (fun k => F k ∧ k ≠ a ∧ v.ownBlock ≠ some k) so (L.getD i []))
    (hfa : F a) (hlt : ∀ k, F k → k < W.heap.size) (hb : Below W.heap.size W W2) (o : Obj) (hg : (W2.alloc o).grownBy W3 v.ownBlock) (hown : W3.ownsRow 0 22 1 v' (L.length + 1) (rows ++ [.slice so s.length sc]))
    (hat : v'.ownBlock = v.ownBlock ∨ v'.ownBlock = some (W2.alloc o).heap.size) (hs : RowIn W2 (fun k => W.heap.size ≤ k) so s) (hsc : s.length ≤ sc) (hsm : s.length ≤ 1000000) :
    RT (W3.setCell ⟨a, 0, none⟩ v') a (L ++ [s]) (fun k => F k ∨ (W.heap.size ≤ k ∧ k < W3.heap.size)) ∧ But F W (W3.setCell ⟨a, 0, none⟩ v') := by
  have hal := h1.lt
  have hsz2 := hb.size
  have hsa : (W2.alloc o).heap.size = W2.heap.size + 1 := by simp
  have hs3 := hg.size
  have hva : v.ownBlock ≠ some a := fun e => (h3 a e).2 rfl
  have hva' : v'.ownBlock ≠ some a := by
    rcases hat with e | e
    · rw [e]; exact hva
    · rw [e, hsa]; intro h; have := Option.some.inj h; omega
  have hold : ∀ k, k < W.heap.size → v.ownBlock ≠ some k → W3.heap[k]? = W.heap[k]? := fun k hk hne =>
    (hg.block k (by omega) fun e => hne e.symm).trans ((Below.heap_alloc W2 o k (by omega)).trans (hb.block k hk))
  have hset : ∀ k, k ≠ a → (W3.setCell ⟨a, 0, none⟩ v').heap[k]? = W3.heap[k]? := fun k hk => Below.heap_setCell W3 ⟨a, 0, none⟩ v' k hk
  have hss : (W3.setCell ⟨a, 0, none⟩ v').heap.size = W3.heap.size := by simp
  have hB3 : Blk W3 a 33 #[v] := (hold a hal hva).trans h1
  refine ⟨⟨⟨v', rows ++ [.slice so s.length sc], ?_, ?_, ?_, ?_⟩, .inl hfa, fun k hk => ?_⟩, ⟨?_, ?_, ?_, ?_, ?_⟩⟩
  · have := hB3.set 0 v'
    simpa using this
  · rw [List.length_append]
    exact ownsRow_setCell_other hown (a := ⟨a, 0, none⟩) hva' v'
  · intro k hk
    rcases hat with e | e
    · rw [e] at hk
      exact ⟨.inl (h3 k hk).1, (h3 k hk).2⟩
    · rw [e, hsa] at hk
      have hk' := Option.some.inj hk
      have := hown.lt k (by rw [e, hsa, hk'])
      exact ⟨.inr ⟨by omega, this.2⟩, by omega⟩
  · intro i hi
    rw [List.length_append] at hi
    have hrl : rows.length = L.length := by have := h2.1; rwa [Nat.mul_one] at this
    rcases Nat.lt_or_ge i L.length with hi' | hi'
    · obtain ⟨so', sc', e1, e2, e3, e4⟩ := h4 i hi'
      have eg : (L ++ [s]).getD i [] = L.getD i [] := by simp [List.getD, hi', List.getElem?_append_left hi']
      rw [eg]
      refine ⟨so', sc', ?_, e2, e3, fun hp => ?_⟩
      · rw [List.getElem?_append_left (by omega)]; exact e1
      · obtain ⟨g, off, rfl, ⟨f1, f2, f3⟩, hl, hc⟩ := e4 hp
        refine ⟨g, off, rfl, ⟨.inl f1, f2, ?_⟩, by omega, fun j hj => ?_⟩
        · rcases hat with e | e
          · rw [e]; exact f3
          · rw [e, hsa]; intro h; have := Option.some.inj h; omega
        · exact (World.cell?_of_block (a := ⟨g, off + j, none⟩) ((hset g f2).trans (hold g hl f3))).trans (hc j hj)
    · obtain rfl : i = L.length := by simp at hi; omega
      have eg : (L ++ [s]).getD L.length [] = s := by simp [List.getD]
      rw [eg]
      refine ⟨so, sc, ?_, hsc, hsm, fun hp => ?_⟩
      · rw [List.getElem?_append_right (by omega), hrl]; simp
      · obtain ⟨g, off, rfl, f1, hl, hc⟩ := hs hp
        have hga : g ≠ a := by omega
        have hgv : v.ownBlock ≠ some g := fun e => by have := hlt g (h3 g e).1; omega
        refine ⟨g, off, rfl, ⟨.inr ⟨f1, by omega⟩, hga, ?_⟩, by omega, fun j hj => ?_⟩
        · rcases hat with e | e
          · rw [e]; exact hgv
          · rw [e, hsa]; intro h; have := Option.some.inj h; omega
        · exact (World.cell?_of_block (a := ⟨g, off + j, none⟩) ((hset g hga).trans ((hg.block g (by omega) fun e => hgv e.symm).trans (Below.heap_alloc W2 o g hl)))).trans (hc j hj)
  · rw [hss]
    rcases hk with hk | hk
    · have := hlt k hk; omega
    · exact hk.2
  · exact (show (W3.setCell ⟨a, 0, none⟩ v').os = W3.os from rfl).trans (hg.os.trans (hb.os))
  · exact (show (W3.setCell ⟨a, 0, none⟩ v').tape = W3.tape from rfl).trans (hg.tape.trans (hb.tape))
  · exact (show (W3.setCell ⟨a, 0, none⟩ v').output = W3.output from rfl).trans (hg.output.trans (hb.output))
  · rw [hss]; omega
  · intro k hk hF
    have hka : k ≠ a := fun e => hF (e ▸ hfa)
    exact (hset k hka).trans (hold k hk fun e => hF (h3 k e).1)
end Go.Proofs.Ytbnnfhpphelmfaa
