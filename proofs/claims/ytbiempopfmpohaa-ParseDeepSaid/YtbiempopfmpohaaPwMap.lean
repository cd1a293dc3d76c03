/-
  A map whose keys are fronts: what is found in it, what a new entry makes of it; a region that draws its order, by what holds whichever operations have come up. Conditions: none but those that each names.
-/
import Derived.Test.YtbiempopfmpohaaPwRd
import Derived.Orders
namespace Go.Proofs.Ytbiempopfmpohaa
open Go.RowKit

/-- An entry: its key, its value, when it was laid. -/
abbrev Ent := (Nat × List UInt8) × Value × Nat
abbrev entE (x : Ent) : MapEntry := { key := frV x.1, val := x.2.1, born := x.2.2 }
/-- The first entry with this key, and its place. -/
def findF (f : Nat × List UInt8) : List Ent → Nat → Option (Nat × Value)
  | [], _ => none
  | x :: l, i => if f = x.1 then some (i, x.2.1) else findF f l (i + 1)
theorem findF_none {f : Nat × List UInt8} : ∀ {l : List Ent} {i : Nat}, (∀ x ∈ l, x.1 ≠ f) → findF f l i = none
  | [], _, _ => rfl
  | x :: l, i, h => by
    rw [findF, if_neg fun e => h x (by simp) e.symm]
    exact findF_none fun y hy => h y (List.mem_cons_of_mem _ hy)
theorem findF_some {f : Nat × List UInt8} {v : Value} : ∀ {l : List Ent} {i : Nat}, (∃ x ∈ l, x.1 = f) → (∀ x ∈ l, x.1 = f → x.2.1 = v) → ∃ j, findF f l i = some (j, v)
  | [], _, h, _ => by obtain ⟨x, hx, _⟩ := h; cases hx
  | x :: l, i, h, hv => by
    by_cases e : f = x.1
    · exact ⟨i, by rw [findF, if_pos e, hv x (by simp) e.symm]⟩
    · obtain ⟨y, hy, hye⟩ := h
      have hy' : y ∈ l := by
        rcases List.mem_cons.1 hy with rfl | h
        · exact absurd hye.symm e
        · exact h
      obtain ⟨j, hj⟩ := findF_some (l := l) (i := i + 1) ⟨y, hy', hye⟩ fun z hz => hv z (List.mem_cons_of_mem _ hz)
      exact ⟨j, by rw [findF, if_neg e, hj]⟩
theorem run_equal_front (f g : Nat × List UInt8) (w : World) : (Op.equal 72 (frV f) (frV g)).run Try.prog w = .ok (decide (f = g)) w := by
  have h := eq_front ((f.1 : Nat) : Int) ((g.1 : Nat) : Int) (mkS f.2) (mkS g.2) w
  rw [bl_mkS, bl_mkS] at h
  have e : (decide (((f.1 : Nat) : Int) = ((g.1 : Nat) : Int)) && decide (f.2 = g.2)) = decide (f = g) := by
    cases f; cases g
    rw [Bool.eq_iff_iff]
    simp only [Bool.and_eq_true, decide_eq_true_eq, Prod.mk.injEq]
    constructor <;> rintro ⟨h1, h2⟩ <;> exact ⟨by omega, h2⟩
  rw [e] at h
  exact h
theorem run_asking (f : Nat × List UInt8) (w : World) : ∀ (l : List Ent) (i : Nat), (Instr.findAsking 72 (frV f) (l.map entE) i).run Try.prog w = .ok (findF f l i) w
  | [], i => rfl
  | x :: l, i => by
    have h := run_equal_front f x.1 w
    rw [List.map_cons, Instr.findAsking, Sem.run_bind]
    show ((Sem.run Try.prog (Op.equal 72 (frV f) (frV x.1)) w).andThen _) = _
    rw [h]
    simp only [Result.andThen_ok]
    rw [findF]
    by_cases e : f = x.1
    · simp [e]
    · simp only [decide_eq_false e, if_neg e, Bool.false_eq_true, if_false]
      exact run_asking f w l (i + 1)
theorem run_findFront (f : Nat × List UInt8) (w : World) (l : List Ent) : (Instr.findKey 72 (frV f) (l.map entE)).run Try.prog w = .ok (findF f l 0) w := by
  unfold Instr.findKey
  rw [Sem.run_bind, run_underlying front_under w, Result.andThen_ok]
  cases l with
  | nil => rfl
  | cons x l =>
    have h := run_asking f w (x :: l) 0
    exact h
theorem run_keyFront (b : Bool) (f : Nat × List UInt8) (w : World) : (Instr.checkKey b 10000 72 (frV f)).run Try.prog w = .ok () w := by
  cases b <;> kernel_rfl
theorem run_lookFront {mt et : TypeId} (hmt : Try.prog.underlying mt = some (.map 72 et)) (m : Nat) (l : List Ent) (es : Array MapEntry) (clk : Nat) (f : Nat × List UInt8) (w : World) (hz : (zeroValue et).run Try.prog w = .ok .nilFunc w) (hb : w.heap[m]? = some (.map es clk)) (hes : es.toList = l.map entE) :
    (Instr.lookup mt (.map (some m)) (frV f) false).run Try.prog w = .ok (match findF f l 0 with | some x => x.2 | none => .nilFunc) w := by
  have h1 := run_findFront f w l
  rw [← hes] at h1
  have h2 := run_keyFront es.isEmpty f w
  cases hf : findF f l 0 with
  | none =>
    rw [hf] at h1
    simp [Instr.lookup, run_underlying hmt, MapKept.run_getObj_map hb, h2, h1, hz, Result.andThen]
  | some x =>
    obtain ⟨j, v⟩ := x
    rw [hf] at h1
    simp [Instr.lookup, run_underlying hmt, MapKept.run_getObj_map hb, h2, h1, Result.andThen]
theorem run_updFront {mt et : TypeId} (hmt : Try.prog.underlying mt = some (.map 72 et)) (m : Nat) (l : List Ent) (es : Array MapEntry) (clk : Nat) (f : Nat × List UInt8) (v : Value) (w : World) (hb : w.heap[m]? = some (.map es clk)) (hes : es.toList = l.map entE) (hn : findF f l 0 = none) :
    ∃ w', (Instr.mapUpdate mt (.map (some m)) (frV f) v).run Try.prog w = .ok () w' ∧ w'.heap[m]? = some (.map (es.push (entE (f, v, clk))) (clk + 1)) ∧ Btt m w w' := by
  have h1 := run_findFront f w l
  rw [← hes, hn] at h1
  have h2 := run_keyFront false f w
  refine ⟨{ w with heap := w.heap.setIfInBounds m (.map (es.push (entE (f, v, clk))) (clk + 1)) }, by simp [Instr.mapUpdate, run_underlying hmt, MapKept.run_getObj_map hb, h2, h1, MapKept.run_setObj_map _ hb, Result.andThen], (MapKept.heap_set hb).1, ⟨rfl, rfl, rfl, by simp, fun k _ hk => (MapKept.heap_set hb).2 k hk⟩⟩

/-- A region that draws its order: what holds whichever operations have come up, and holds on behind each that may come up next. -/
theorem wpAny_inv {P : Program} {ops : Array Oper} {Q : Exit → Act → World → Prop} {md : Region.Mode} (I : Array Bool → Act → World → Prop)
    (hstep : ∀ listed a w, listed.size = ops.size → I listed a w → ∀ i ∈ Region.ready md ops listed, wpOp P ops Q i (fun a' w' => I (listed.setIfInBounds i true) a' w') a w)
    (hend : ∀ listed a w, listed.size = ops.size → I listed a w → Region.ready md ops listed = [] → Q .normal a w) :
    ∀ (fuel : Nat) (listed : Array Bool) (a : Act) (w : World), listed.size = ops.size → listed.count false ≤ fuel → I listed a w → wpAny P md ops Q fuel listed a w
  | 0, listed, a, w, hs, hc, hI => by
    have hr : Region.ready md ops listed = [] := by
      refine List.eq_nil_iff_forall_not_mem.2 fun i hi => ?_
      obtain ⟨h1, _⟩ := mem_ready.1 hi
      have h0 : listed.count false = 0 := by omega
      rw [Array.count_eq_zero] at h0
      rcases Nat.lt_or_ge i listed.size with hl | hl
      · refine h0 ?_
        have : listed[i] = false := by simpa [Array.getD, hl] using h1
        rw [← this]
        exact Array.getElem_mem hl
      · simp [Array.getD, show ¬ i < listed.size by omega] at h1
    exact ⟨hr, hend listed a w hs hI hr⟩
  | fuel + 1, listed, a, w, hs, hc, hI => by
    refine ⟨fun hr => hend listed a w hs hI hr, fun i hi => ?_⟩
    obtain ⟨h1, _⟩ := mem_ready.1 hi
    have hl : i < listed.size := by
      rcases Nat.lt_or_ge i listed.size with hl | hl
      · exact hl
      · simp [Array.getD, show ¬ i < listed.size by omega] at h1
    have h2 : listed[i] = false := by simpa [Array.getD, hl] using h1
    refine wpOp_mono (fun a' w' h => wpAny_inv I hstep hend fuel _ a' w' (by simpa using hs) ?_ h) (hstep listed a w hs hI i hi)
    have hp : 0 < listed.count false := Array.count_pos_iff.2 (by rw [← h2]; exact Array.getElem_mem hl)
    have h3 : (listed.setIfInBounds i true).count false = listed.count false - 1 := by
      rw [Array.setIfInBounds, dif_pos hl, Array.count_set]
      simp [h2]
    omega
end Go.Proofs.Ytbiempopfmpohaa
