/-
The parser's maps of method expressions: laid in whatever order, they say the same. Conditions: none.
The parser's map of how an atom without parts is read: whatever order it is laid in, it says the same. Conditions: none.
-/
import Derived.Test.YtbiempopfmpohaaPwMap
namespace Go.Proofs.Ytbiempopfmpohaa
open Go.RowKit

/-- What stands in the map: the key, the value, and the number of the operation that lays it. -/
abbrev KV := (Nat × List UInt8) × Value × Nat
/-- The entries are just those whose operations have come up. -/
structure Laid (L : Array Bool) (kv : List KV) (E : List Ent) : Prop where
  from' : ∀ x ∈ E, ∃ q ∈ kv, q.1 = x.1 ∧ q.2.1 = x.2.1 ∧ L.getD q.2.2 true = true
  to' : ∀ q ∈ kv, L.getD q.2.2 true = true → ∃ x ∈ E, x.1 = q.1 ∧ x.2.1 = q.2.1
/-- No key twice, no operation twice. -/
def Sep (kv : List KV) : Prop := kv.Pairwise fun a b => a.1 ≠ b.1 ∧ a.2.2 ≠ b.2.2
theorem Sep.key {kv : List KV} (h : Sep kv) {a b : KV} (ha : a ∈ kv) (hb : b ∈ kv) (e : a.1 = b.1) : a = b := by
  induction kv with
  | nil => cases ha
  | cons x kv ih =>
    obtain ⟨h1, h2⟩ := List.pairwise_cons.1 h
    rcases List.mem_cons.1 ha with rfl | ha'
    · rcases List.mem_cons.1 hb with rfl | hb'
      · rfl
      · exact absurd e (h1 b hb').1
    · rcases List.mem_cons.1 hb with rfl | hb'
      · exact absurd e.symm (h1 a ha').1
      · exact ih h2 ha' hb'
theorem Sep.op {kv : List KV} (h : Sep kv) {a b : KV} (ha : a ∈ kv) (hb : b ∈ kv) (e : a.2.2 = b.2.2) : a = b := by
  induction kv with
  | nil => cases ha
  | cons x kv ih =>
    obtain ⟨h1, h2⟩ := List.pairwise_cons.1 h
    rcases List.mem_cons.1 ha with rfl | ha'
    · rcases List.mem_cons.1 hb with rfl | hb'
      · rfl
      · exact absurd e (h1 b hb').2
    · rcases List.mem_cons.1 hb with rfl | hb'
      · exact absurd e.symm (h1 a ha').2
      · exact ih h2 ha' hb'
theorem getD_set (L : Array Bool) (i j : Nat) : (L.setIfInBounds i true).getD j true = if i = j then true else L.getD j true := by
  rcases Nat.lt_or_ge j L.size with hj | hj
  · by_cases e : i = j
    · subst e; simp [Array.getD, hj]
    · simp [Array.getD, hj, e]
  · simp [Array.getD, show ¬ j < L.size by omega]
/-- An operation that lays nothing. -/
theorem Laid.other {L : Array Bool} {kv : List KV} {E : List Ent} (h : Laid L kv E) {i : Nat} (hi : ∀ q ∈ kv, q.2.2 ≠ i) : Laid (L.setIfInBounds i true) kv E := by
  constructor
  · intro x hx
    obtain ⟨q, hq, h1, h2, h3⟩ := h.from' x hx
    exact ⟨q, hq, h1, h2, by rw [getD_set]; split <;> first | rfl | exact h3⟩
  · intro q hq hl
    rw [getD_set, if_neg fun e => hi q hq e.symm] at hl
    exact h.to' q hq hl
/-- The operation that lays q. -/
theorem Laid.lay {L : Array Bool} {kv : List KV} {E : List Ent} (h : Laid L kv E) (hs : Sep kv) {q : KV} (hq : q ∈ kv) (hl : L.getD q.2.2 true = false) (b : Nat) : findF q.1 E 0 = none ∧ Laid (L.setIfInBounds q.2.2 true) kv (E ++ [(q.1, q.2.1, b)]) := by
  refine ⟨findF_none fun x hx e => ?_, ?_, ?_⟩
  · obtain ⟨q', hq', h1, _, h3⟩ := h.from' x hx
    obtain rfl := hs.key hq' hq (h1.trans e)
    rw [hl] at h3; cases h3
  · intro x hx
    rcases List.mem_append.1 hx with hx | hx
    · obtain ⟨q', hq', h1, h2, h3⟩ := h.from' x hx
      exact ⟨q', hq', h1, h2, by rw [getD_set]; split <;> first | rfl | exact h3⟩
    · obtain rfl := List.mem_singleton.1 hx
      exact ⟨q, hq, rfl, rfl, by rw [getD_set, if_pos rfl]⟩
  · intro q' hq' hl'
    by_cases e : q.2.2 = q'.2.2
    · obtain rfl := hs.op hq hq' e
      exact ⟨_, List.mem_append_right _ (List.mem_singleton.2 rfl), rfl, rfl⟩
    · rw [getD_set, if_neg e] at hl'
      obtain ⟨x, hx, h1, h2⟩ := h.to' q' hq' hl'
      exact ⟨x, List.mem_append_left _ hx, h1, h2⟩
/-- All have come up: what is found. -/
theorem Laid.found {L : Array Bool} {kv : List KV} {E : List Ent} (h : Laid L kv E) (hs : Sep kv) (hL : ∀ q ∈ kv, L.getD q.2.2 true = true) {f : Nat × List UInt8} : (∀ q ∈ kv, q.1 = f → ∃ j, findF f E 0 = some (j, q.2.1)) ∧ ((∀ q ∈ kv, q.1 ≠ f) → findF f E 0 = none) := by
  constructor
  · rintro q hq rfl
    obtain ⟨x, hx, h1, h2⟩ := h.to' q hq (hL q hq)
    refine findF_some ⟨x, hx, h1⟩ fun y hy e => ?_
    obtain ⟨q', hq', k1, k2, _⟩ := h.from' y hy
    obtain rfl := hs.key hq' hq (k1.trans e)
    exact k2.symm
  · intro hn
    refine findF_none fun x hx e => ?_
    obtain ⟨q, hq, h1, _, _⟩ := h.from' x hx
    exact hn q hq (h1.trans e)

/-- The eleven operations of such a literal. -/
abbrev litOps (mt ft : TypeId) (g : Fin 4 → FuncId) (c : Fin 4 → Value) (at' : Fin 4 → TypeId) (v : Fin 4 → FuncId) (ps : Fin 11 → String) : Array Oper :=
  #[{ dst := some 1, op := .makeMap mt none, type := mt, pos := ps 0, after := #[], guard := none },
    { dst := some 2, op := .call { callee := .value (.func (g 0)), args := #[.const (c 0)], argTypes := #[at' 0] }, type := ft, pos := ps 1, after := #[], guard := none },
    { dst := none, op := .insert mt (.tmp 1) (.tmp 2) (.func (v 0)), type := 0, pos := ps 2, after := #[{ on := 0, ground := .data }, { on := 1, ground := .data }], guard := none },
    { dst := some 3, op := .call { callee := .value (.func (g 1)), args := #[.const (c 1)], argTypes := #[at' 1] }, type := ft, pos := ps 3, after := #[{ on := 1, ground := .chain }], guard := none },
    { dst := none, op := .insert mt (.tmp 1) (.tmp 3) (.func (v 1)), type := 0, pos := ps 4, after := #[{ on := 0, ground := .data }, { on := 3, ground := .data }], guard := none },
    { dst := some 4, op := .call { callee := .value (.func (g 2)), args := #[.const (c 2)], argTypes := #[at' 2] }, type := ft, pos := ps 5, after := #[{ on := 3, ground := .chain }], guard := none },
    { dst := none, op := .insert mt (.tmp 1) (.tmp 4) (.func (v 2)), type := 0, pos := ps 6, after := #[{ on := 0, ground := .data }, { on := 5, ground := .data }], guard := none },
    { dst := some 5, op := .call { callee := .value (.func (g 3)), args := #[.const (c 3)], argTypes := #[at' 3] }, type := ft, pos := ps 7, after := #[{ on := 5, ground := .chain }], guard := none },
    { dst := none, op := .insert mt (.tmp 1) (.tmp 5) (.func (v 3)), type := 0, pos := ps 8, after := #[{ on := 0, ground := .data }, { on := 7, ground := .data }], guard := none },
    { dst := some 6, op := .move (.tmp 1), type := mt, pos := ps 9, after := #[{ on := 0, ground := .data }, { on := 1, ground := .data }, { on := 2, ground := .data }, { on := 3, ground := .data }, { on := 4, ground := .data }, { on := 5, ground := .data }, { on := 6, ground := .data }, { on := 7, ground := .data }, { on := 8, ground := .data }], guard := none },
    { dst := some 0, op := .assign (.tmp 6), type := mt, pos := ps 10, after := #[{ on := 9, ground := .data }, { on := 7, ground := .chain }, { on := 0, ground := .phase }, { on := 1, ground := .phase }, { on := 2, ground := .phase }, { on := 3, ground := .phase }, { on := 4, ground := .phase }, { on := 5, ground := .phase }, { on := 6, ground := .phase }, { on := 7, ground := .phase }, { on := 8, ground := .phase }, { on := 9, ground := .phase }], guard := none }]
theorem lt_of_map {W : World} {m : Nat} {es : Array MapEntry} {clk : Nat} (h : W.heap[m]? = some (.map es clk)) : m < W.heap.size := (Array.getElem?_eq_some_iff.1 h).1
/-- What is laid: the keys, the values, the operations. -/
abbrev litKV (key : Fin 4 → Nat × List UInt8) (v : Fin 4 → FuncId) : List KV := [(key 0, .func (.func (v 0)) #[] #[], 2), (key 1, .func (.func (v 1)) #[] #[], 4), (key 2, .func (.func (v 2)) #[] #[], 6), (key 3, .func (.func (v 3)) #[] #[], 8)]
/-- What holds whichever operations have come up. -/
def LitI (w0 : World) (key : Fin 4 → Nat × List UInt8) (v : Fin 4 → FuncId) (L : Array Bool) (a : Act) (w : World) : Prop :=
  ∃ t0 t1 t2 t3 t4 t5 t6 : Value, a = { tmps := #[t0, t1, t2, t3, t4, t5, t6], defers := [] } ∧ Below w0.heap.size w0 w ∧
    (L.getD 1 true = true → t2 = frV (key 0)) ∧ (L.getD 3 true = true → t3 = frV (key 1)) ∧ (L.getD 5 true = true → t4 = frV (key 2)) ∧ (L.getD 7 true = true → t5 = frV (key 3)) ∧
    (L.getD 0 true = true → ∃ m es clk E, t1 = .map (some m) ∧ w0.heap.size ≤ m ∧ w.heap[m]? = some (.map es clk) ∧ es.toList = E.map entE ∧ Laid L (litKV key v) E) ∧
    (L.getD 0 true = false → (∀ q ∈ litKV key v, L.getD q.2.2 true = false) ∧ L.getD 9 true = false) ∧ (L.getD 9 true = false → L.getD 10 true = false) ∧
    (L.getD 9 true = true → t6 = t1) ∧ (L.getD 10 true = true → t0 = t6)
theorem wpOp_of {P : Program} {ops : Array Oper} {Q : Exit → Act → World → Prop} {i : Nat} {K : Act → World → Prop} {a : Act} {w : World} {o : Oper} (ho : ops[i]? = some o) (hg : o.guard = none) (h : o.wp P a w K Q) : wpOp P ops Q i K a w := by
  unfold wpOp
  rw [ho]
  simp only [Region.wanted, hg, if_true]
  exact .inl h
set_option maxRecDepth 100000 in
theorem lit_step {mt et ft : TypeId} {g : Fin 4 → FuncId} {c : Fin 4 → Value} {at' : Fin 4 → TypeId} {v : Fin 4 → FuncId} {ps : Fin 11 → String} (key : Fin 4 → Nat × List UInt8) (hmt : Try.prog.underlying mt = some (.map 72 et))
    (hcall : ∀ k W, Calls Try.prog (g k) #[c k] W fun e w' => e = .returned (frV (key k)) ∧ Below W.heap.size W w') (hent : ∀ k W, (callFunc (g k) #[c k]).run Try.prog W = .ok (.enter (g k) #[c k]) W) (hsep : Sep (litKV key v)) (w0 : World) {Q : Exit → Act → World → Prop}
    (L : Array Bool) (a : Act) (w : World) (hL : L.size = 11) (hI : LitI w0 key v L a w) (i : Nat) (hi : i ∈ Region.ready .any (litOps mt ft g c at' v ps) L) :
    wpOp Try.prog (litOps mt ft g c at' v ps) Q i (fun a' w' => LitI w0 key v (L.setIfInBounds i true) a' w') a w := by
  obtain ⟨hun, o, ho, hall⟩ := mem_ready.1 hi
  obtain ⟨t0, t1, t2, t3, t4, t5, t6, rfl, hB, h2, h3, h4, h5, hm, h0, h910, h9, h10⟩ := hI
  have hlt : i < 11 := by
    have := (Array.getElem?_eq_some_iff.1 ho).1
    simpa using this
  match i, hlt with
  | 0, _ =>
    obtain ⟨hA, hA9⟩ := h0 hun
    refine wpOp_of rfl rfl ?_
    have hr : (Instr.makeMap mt none).run Try.prog w = .ok (.map (some w.heap.size)) (w.alloc (.map #[] 0)) := run_makeMap mt w
    unfold Oper.wp
    simp only [execOp, Oper.upon]
    refine ⟨t0, .map (some w.heap.size), t2, t3, t4, t5, t6, rfl, bal hB _, ?_, ?_, ?_, ?_, fun _ => ⟨w.heap.size, #[], 0, [], rfl, hB.size, by show (w.heap.push _)[w.heap.size]? = _; simp, rfl, ⟨fun x hx => (by cases hx), fun q hq h => ?_⟩⟩, ?_, ?_, ?_, ?_⟩
    · simpa only [getD_set, show ¬ (0 : Nat) = 1 by decide, if_false] using h2
    · simpa only [getD_set, show ¬ (0 : Nat) = 3 by decide, if_false] using h3
    · simpa only [getD_set, show ¬ (0 : Nat) = 5 by decide, if_false] using h4
    · simpa only [getD_set, show ¬ (0 : Nat) = 7 by decide, if_false] using h5
    · have hq0 : ¬ 0 = q.2.2 := by
        intro e
        have := hA q hq
        simp only [List.mem_cons, List.not_mem_nil, or_false] at hq
        rcases hq with rfl | rfl | rfl | rfl <;> cases e
      rw [getD_set, if_neg hq0, hA q hq] at h
      cases h
    · intro h; rw [getD_set, if_pos rfl] at h; cases h
    · simpa only [getD_set, show ¬ (0 : Nat) = 9 by decide, show ¬ (0 : Nat) = 10 by decide, if_false] using h910
    · intro h; rw [getD_set, if_neg (by decide), hA9] at h; cases h
    · simpa only [getD_set, show ¬ (0 : Nat) = 10 by decide, if_false] using h10
  | 1, _ =>
    refine wpOp_of rfl rfl ?_
    unfold Oper.wp
    simp [execOp, resolve, invoke, Act.eval, Oper.upon, Deferred.ofValue, hent]
    refine (hcall 0 w).mono ?_
    rintro e w' ⟨rfl, hb⟩
    refine ⟨t0, t1, (frV (key 0)), t3, t4, t5, t6, rfl, btr hB hb, ?_, ?_, ?_, ?_, ?_, ?_, ?_, ?_, ?_⟩
    · intro _; rfl
    · simpa only [getD_set, show ¬ (1 : Nat) = 3 by decide, if_false] using h3
    · simpa only [getD_set, show ¬ (1 : Nat) = 5 by decide, if_false] using h4
    · simpa only [getD_set, show ¬ (1 : Nat) = 7 by decide, if_false] using h5
    · intro h
      rw [getD_set, if_neg (by decide)] at h
      obtain ⟨m, es, clk, E, e1, e2, e3, e4, e5⟩ := hm h
      exact ⟨m, es, clk, E, e1, e2, (hb.block m (lt_of_map e3)).trans e3, e4, e5.other (i := 1) (by intro q hq; simp only [List.mem_cons, List.not_mem_nil, or_false] at hq; rcases hq with rfl | rfl | rfl | rfl <;> simp)⟩
    · intro h
      rw [getD_set, if_neg (by decide)] at h
      obtain ⟨k1, k2⟩ := h0 h
      refine ⟨fun q hq => ?_, by rw [getD_set, if_neg (by decide)]; exact k2⟩
      rw [getD_set, if_neg (by simp only [List.mem_cons, List.not_mem_nil, or_false] at hq; rcases hq with rfl | rfl | rfl | rfl <;> simp)]
      exact k1 q hq
    · simpa only [getD_set, show ¬ (1 : Nat) = 9 by decide, show ¬ (1 : Nat) = 10 by decide, if_false] using h910
    · simpa only [getD_set, show ¬ (1 : Nat) = 9 by decide, if_false] using h9
    · simpa only [getD_set, show ¬ (1 : Nat) = 10 by decide, if_false] using h10
  | 2, _ =>
    obtain rfl := Option.some.inj (show some _ = some o from ho)
    have a0 : L.getD 0 true = true := by have := hall { on := 0, ground := .data } (by simp) rfl; simpa [Array.getD, hL] using this
    have a1 : L.getD 1 true = true := by have := hall { on := 1, ground := .data } (by simp) rfl; simpa [Array.getD, hL] using this
    obtain ⟨m, es, clk, E, rfl, e2, e3, e4, e5⟩ := hm a0
    obtain rfl := h2 a1
    obtain ⟨f1, f2⟩ := e5.lay hsep (q := (key 0, .func (.func (v 0)) #[] #[], 2)) (by simp) hun clk
    obtain ⟨w', r1, r2, r3⟩ := run_updFront hmt m E es clk (key 0) (.func (.func (v 0)) #[] #[]) w e3 e4 f1
    refine wpOp_of rfl rfl ?_
    unfold Oper.wp
    have r1' : (Instr.mapUpdate mt (.map (some m)) (frV (key 0)) (.func (.func (v 0)) #[] #[])).run Try.prog w = .ok () w' := r1
    simp [execOp, Act.eval, r1', Oper.upon]
    refine ⟨t0, _, _, t3, t4, t5, t6, rfl, hB.trans (r3.low (n := w0.heap.size) e2 hB.size), ?_, ?_, ?_, ?_, fun _ => ⟨m, _, clk + 1, E ++ [(key 0, .func (.func (v 0)) #[] #[], clk)], rfl, e2, r2, by simp [e4], f2⟩, ?_, ?_, ?_, ?_⟩
    · intro _; rfl
    · simpa only [getD_set, show ¬ (2 : Nat) = 3 by decide, if_false] using h3
    · simpa only [getD_set, show ¬ (2 : Nat) = 5 by decide, if_false] using h4
    · simpa only [getD_set, show ¬ (2 : Nat) = 7 by decide, if_false] using h5
    · intro h; rw [getD_set, if_neg (by decide), a0] at h; cases h
    · simpa only [getD_set, show ¬ (2 : Nat) = 9 by decide, show ¬ (2 : Nat) = 10 by decide, if_false] using h910
    · simpa only [getD_set, show ¬ (2 : Nat) = 9 by decide, if_false] using h9
    · simpa only [getD_set, show ¬ (2 : Nat) = 10 by decide, if_false] using h10
  | 3, _ =>
    refine wpOp_of rfl rfl ?_
    unfold Oper.wp
    simp [execOp, resolve, invoke, Act.eval, Oper.upon, Deferred.ofValue, hent]
    refine (hcall 1 w).mono ?_
    rintro e w' ⟨rfl, hb⟩
    refine ⟨t0, t1, t2, (frV (key 1)), t4, t5, t6, rfl, btr hB hb, ?_, ?_, ?_, ?_, ?_, ?_, ?_, ?_, ?_⟩
    · simpa only [getD_set, show ¬ (3 : Nat) = 1 by decide, if_false] using h2
    · intro _; rfl
    · simpa only [getD_set, show ¬ (3 : Nat) = 5 by decide, if_false] using h4
    · simpa only [getD_set, show ¬ (3 : Nat) = 7 by decide, if_false] using h5
    · intro h
      rw [getD_set, if_neg (by decide)] at h
      obtain ⟨m, es, clk, E, e1, e2, e3, e4, e5⟩ := hm h
      exact ⟨m, es, clk, E, e1, e2, (hb.block m (lt_of_map e3)).trans e3, e4, e5.other (i := 3) (by intro q hq; simp only [List.mem_cons, List.not_mem_nil, or_false] at hq; rcases hq with rfl | rfl | rfl | rfl <;> simp)⟩
    · intro h
      rw [getD_set, if_neg (by decide)] at h
      obtain ⟨k1, k2⟩ := h0 h
      refine ⟨fun q hq => ?_, by rw [getD_set, if_neg (by decide)]; exact k2⟩
      rw [getD_set, if_neg (by simp only [List.mem_cons, List.not_mem_nil, or_false] at hq; rcases hq with rfl | rfl | rfl | rfl <;> simp)]
      exact k1 q hq
    · simpa only [getD_set, show ¬ (3 : Nat) = 9 by decide, show ¬ (3 : Nat) = 10 by decide, if_false] using h910
    · simpa only [getD_set, show ¬ (3 : Nat) = 9 by decide, if_false] using h9
    · simpa only [getD_set, show ¬ (3 : Nat) = 10 by decide, if_false] using h10
  | 4, _ =>
    obtain rfl := Option.some.inj (show some _ = some o from ho)
    have a0 : L.getD 0 true = true := by have := hall { on := 0, ground := .data } (by simp) rfl; simpa [Array.getD, hL] using this
    have a1 : L.getD 3 true = true := by have := hall { on := 3, ground := .data } (by simp) rfl; simpa [Array.getD, hL] using this
    obtain ⟨m, es, clk, E, rfl, e2, e3, e4, e5⟩ := hm a0
    obtain rfl := h3 a1
    obtain ⟨f1, f2⟩ := e5.lay hsep (q := (key 1, .func (.func (v 1)) #[] #[], 4)) (by simp) hun clk
    obtain ⟨w', r1, r2, r3⟩ := run_updFront hmt m E es clk (key 1) (.func (.func (v 1)) #[] #[]) w e3 e4 f1
    refine wpOp_of rfl rfl ?_
    unfold Oper.wp
    have r1' : (Instr.mapUpdate mt (.map (some m)) (frV (key 1)) (.func (.func (v 1)) #[] #[])).run Try.prog w = .ok () w' := r1
    simp [execOp, Act.eval, r1', Oper.upon]
    refine ⟨t0, _, t2, _, t4, t5, t6, rfl, hB.trans (r3.low (n := w0.heap.size) e2 hB.size), ?_, ?_, ?_, ?_, fun _ => ⟨m, _, clk + 1, E ++ [(key 1, .func (.func (v 1)) #[] #[], clk)], rfl, e2, r2, by simp [e4], f2⟩, ?_, ?_, ?_, ?_⟩
    · simpa only [getD_set, show ¬ (4 : Nat) = 1 by decide, if_false] using h2
    · intro _; rfl
    · simpa only [getD_set, show ¬ (4 : Nat) = 5 by decide, if_false] using h4
    · simpa only [getD_set, show ¬ (4 : Nat) = 7 by decide, if_false] using h5
    · intro h; rw [getD_set, if_neg (by decide), a0] at h; cases h
    · simpa only [getD_set, show ¬ (4 : Nat) = 9 by decide, show ¬ (4 : Nat) = 10 by decide, if_false] using h910
    · simpa only [getD_set, show ¬ (4 : Nat) = 9 by decide, if_false] using h9
    · simpa only [getD_set, show ¬ (4 : Nat) = 10 by decide, if_false] using h10
  | 5, _ =>
    refine wpOp_of rfl rfl ?_
    unfold Oper.wp
    simp [execOp, resolve, invoke, Act.eval, Oper.upon, Deferred.ofValue, hent]
    refine (hcall 2 w).mono ?_
    rintro e w' ⟨rfl, hb⟩
    refine ⟨t0, t1, t2, t3, (frV (key 2)), t5, t6, rfl, btr hB hb, ?_, ?_, ?_, ?_, ?_, ?_, ?_, ?_, ?_⟩
    · simpa only [getD_set, show ¬ (5 : Nat) = 1 by decide, if_false] using h2
    · simpa only [getD_set, show ¬ (5 : Nat) = 3 by decide, if_false] using h3
    · intro _; rfl
    · simpa only [getD_set, show ¬ (5 : Nat) = 7 by decide, if_false] using h5
    · intro h
      rw [getD_set, if_neg (by decide)] at h
      obtain ⟨m, es, clk, E, e1, e2, e3, e4, e5⟩ := hm h
      exact ⟨m, es, clk, E, e1, e2, (hb.block m (lt_of_map e3)).trans e3, e4, e5.other (i := 5) (by intro q hq; simp only [List.mem_cons, List.not_mem_nil, or_false] at hq; rcases hq with rfl | rfl | rfl | rfl <;> simp)⟩
    · intro h
      rw [getD_set, if_neg (by decide)] at h
      obtain ⟨k1, k2⟩ := h0 h
      refine ⟨fun q hq => ?_, by rw [getD_set, if_neg (by decide)]; exact k2⟩
      rw [getD_set, if_neg (by simp only [List.mem_cons, List.not_mem_nil, or_false] at hq; rcases hq with rfl | rfl | rfl | rfl <;> simp)]
      exact k1 q hq
    · simpa only [getD_set, show ¬ (5 : Nat) = 9 by decide, show ¬ (5 : Nat) = 10 by decide, if_false] using h910
    · simpa only [getD_set, show ¬ (5 : Nat) = 9 by decide, if_false] using h9
    · simpa only [getD_set, show ¬ (5 : Nat) = 10 by decide, if_false] using h10
  | 6, _ =>
    obtain rfl := Option.some.inj (show some _ = some o from ho)
    have a0 : L.getD 0 true = true := by have := hall { on := 0, ground := .data } (by simp) rfl; simpa [Array.getD, hL] using this
    have a1 : L.getD 5 true = true := by have := hall { on := 5, ground := .data } (by simp) rfl; simpa [Array.getD, hL] using this
    obtain ⟨m, es, clk, E, rfl, e2, e3, e4, e5⟩ := hm a0
    obtain rfl := h4 a1
    obtain ⟨f1, f2⟩ := e5.lay hsep (q := (key 2, .func (.func (v 2)) #[] #[], 6)) (by simp) hun clk
    obtain ⟨w', r1, r2, r3⟩ := run_updFront hmt m E es clk (key 2) (.func (.func (v 2)) #[] #[]) w e3 e4 f1
    refine wpOp_of rfl rfl ?_
    unfold Oper.wp
    have r1' : (Instr.mapUpdate mt (.map (some m)) (frV (key 2)) (.func (.func (v 2)) #[] #[])).run Try.prog w = .ok () w' := r1
    simp [execOp, Act.eval, r1', Oper.upon]
    refine ⟨t0, _, t2, t3, _, t5, t6, rfl, hB.trans (r3.low (n := w0.heap.size) e2 hB.size), ?_, ?_, ?_, ?_, fun _ => ⟨m, _, clk + 1, E ++ [(key 2, .func (.func (v 2)) #[] #[], clk)], rfl, e2, r2, by simp [e4], f2⟩, ?_, ?_, ?_, ?_⟩
    · simpa only [getD_set, show ¬ (6 : Nat) = 1 by decide, if_false] using h2
    · simpa only [getD_set, show ¬ (6 : Nat) = 3 by decide, if_false] using h3
    · intro _; rfl
    · simpa only [getD_set, show ¬ (6 : Nat) = 7 by decide, if_false] using h5
    · intro h; rw [getD_set, if_neg (by decide), a0] at h; cases h
    · simpa only [getD_set, show ¬ (6 : Nat) = 9 by decide, show ¬ (6 : Nat) = 10 by decide, if_false] using h910
    · simpa only [getD_set, show ¬ (6 : Nat) = 9 by decide, if_false] using h9
    · simpa only [getD_set, show ¬ (6 : Nat) = 10 by decide, if_false] using h10
  | 7, _ =>
    refine wpOp_of rfl rfl ?_
    unfold Oper.wp
    simp [execOp, resolve, invoke, Act.eval, Oper.upon, Deferred.ofValue, hent]
    refine (hcall 3 w).mono ?_
    rintro e w' ⟨rfl, hb⟩
    refine ⟨t0, t1, t2, t3, t4, (frV (key 3)), t6, rfl, btr hB hb, ?_, ?_, ?_, ?_, ?_, ?_, ?_, ?_, ?_⟩
    · simpa only [getD_set, show ¬ (7 : Nat) = 1 by decide, if_false] using h2
    · simpa only [getD_set, show ¬ (7 : Nat) = 3 by decide, if_false] using h3
    · simpa only [getD_set, show ¬ (7 : Nat) = 5 by decide, if_false] using h4
    · intro _; rfl
    · intro h
      rw [getD_set, if_neg (by decide)] at h
      obtain ⟨m, es, clk, E, e1, e2, e3, e4, e5⟩ := hm h
      exact ⟨m, es, clk, E, e1, e2, (hb.block m (lt_of_map e3)).trans e3, e4, e5.other (i := 7) (by intro q hq; simp only [List.mem_cons, List.not_mem_nil, or_false] at hq; rcases hq with rfl | rfl | rfl | rfl <;> simp)⟩
    · intro h
      rw [getD_set, if_neg (by decide)] at h
      obtain ⟨k1, k2⟩ := h0 h
      refine ⟨fun q hq => ?_, by rw [getD_set, if_neg (by decide)]; exact k2⟩
      rw [getD_set, if_neg (by simp only [List.mem_cons, List.not_mem_nil, or_false] at hq; rcases hq with rfl | rfl | rfl | rfl <;> simp)]
      exact k1 q hq
    · simpa only [getD_set, show ¬ (7 : Nat) = 9 by decide, show ¬ (7 : Nat) = 10 by decide, if_false] using h910
    · simpa only [getD_set, show ¬ (7 : Nat) = 9 by decide, if_false] using h9
    · simpa only [getD_set, show ¬ (7 : Nat) = 10 by decide, if_false] using h10
  | 8, _ =>
    obtain rfl := Option.some.inj (show some _ = some o from ho)
    have a0 : L.getD 0 true = true := by have := hall { on := 0, ground := .data } (by simp) rfl; simpa [Array.getD, hL] using this
    have a1 : L.getD 7 true = true := by have := hall { on := 7, ground := .data } (by simp) rfl; simpa [Array.getD, hL] using this
    obtain ⟨m, es, clk, E, rfl, e2, e3, e4, e5⟩ := hm a0
    obtain rfl := h5 a1
    obtain ⟨f1, f2⟩ := e5.lay hsep (q := (key 3, .func (.func (v 3)) #[] #[], 8)) (by simp) hun clk
    obtain ⟨w', r1, r2, r3⟩ := run_updFront hmt m E es clk (key 3) (.func (.func (v 3)) #[] #[]) w e3 e4 f1
    refine wpOp_of rfl rfl ?_
    unfold Oper.wp
    have r1' : (Instr.mapUpdate mt (.map (some m)) (frV (key 3)) (.func (.func (v 3)) #[] #[])).run Try.prog w = .ok () w' := r1
    simp [execOp, Act.eval, r1', Oper.upon]
    refine ⟨t0, _, t2, t3, t4, _, t6, rfl, hB.trans (r3.low (n := w0.heap.size) e2 hB.size), ?_, ?_, ?_, ?_, fun _ => ⟨m, _, clk + 1, E ++ [(key 3, .func (.func (v 3)) #[] #[], clk)], rfl, e2, r2, by simp [e4], f2⟩, ?_, ?_, ?_, ?_⟩
    · simpa only [getD_set, show ¬ (8 : Nat) = 1 by decide, if_false] using h2
    · simpa only [getD_set, show ¬ (8 : Nat) = 3 by decide, if_false] using h3
    · simpa only [getD_set, show ¬ (8 : Nat) = 5 by decide, if_false] using h4
    · intro _; rfl
    · intro h; rw [getD_set, if_neg (by decide), a0] at h; cases h
    · simpa only [getD_set, show ¬ (8 : Nat) = 9 by decide, show ¬ (8 : Nat) = 10 by decide, if_false] using h910
    · simpa only [getD_set, show ¬ (8 : Nat) = 9 by decide, if_false] using h9
    · simpa only [getD_set, show ¬ (8 : Nat) = 10 by decide, if_false] using h10
  | 9, _ =>
    obtain rfl := Option.some.inj (show some _ = some o from ho)
    refine wpOp_of rfl rfl ?_
    unfold Oper.wp
    simp only [execOp, Act.eval, Oper.upon]
    refine ⟨t0, t1, t2, t3, t4, t5, t1, rfl, hB, ?_, ?_, ?_, ?_, ?_, ?_, ?_, ?_, ?_⟩
    · simpa only [getD_set, show ¬ (9 : Nat) = 1 by decide, if_false] using h2
    · simpa only [getD_set, show ¬ (9 : Nat) = 3 by decide, if_false] using h3
    · simpa only [getD_set, show ¬ (9 : Nat) = 5 by decide, if_false] using h4
    · simpa only [getD_set, show ¬ (9 : Nat) = 7 by decide, if_false] using h5
    · intro h
      rw [getD_set, if_neg (by decide)] at h
      obtain ⟨m, es, clk, E, e1, e2, e3, e4, e5⟩ := hm h
      exact ⟨m, es, clk, E, e1, e2, e3, e4, e5.other (i := 9) (by intro q hq; simp only [List.mem_cons, List.not_mem_nil, or_false] at hq; rcases hq with rfl | rfl | rfl | rfl <;> simp)⟩
    · intro h
      rw [getD_set, if_neg (by decide)] at h
      obtain ⟨k1, k2⟩ := h0 h
      have a0 : L.getD 0 true = true := by have := hall { on := 0, ground := .data } (by simp) rfl; simpa [Array.getD, hL] using this
      rw [a0] at h; cases h
    · intro h; rw [getD_set, if_pos rfl] at h; cases h
    · intro _; rfl
    · intro h
      rw [getD_set, if_neg (by decide), h910 hun] at h
      cases h
  | 10, _ =>
    obtain rfl := Option.some.inj (show some _ = some o from ho)
    refine wpOp_of rfl rfl ?_
    unfold Oper.wp
    simp only [execOp, Act.eval, Oper.upon]
    refine ⟨t6, t1, t2, t3, t4, t5, t6, rfl, hB, ?_, ?_, ?_, ?_, ?_, ?_, ?_, ?_, ?_⟩
    · simpa only [getD_set, show ¬ (10 : Nat) = 1 by decide, if_false] using h2
    · simpa only [getD_set, show ¬ (10 : Nat) = 3 by decide, if_false] using h3
    · simpa only [getD_set, show ¬ (10 : Nat) = 5 by decide, if_false] using h4
    · simpa only [getD_set, show ¬ (10 : Nat) = 7 by decide, if_false] using h5
    · intro h
      rw [getD_set, if_neg (by decide)] at h
      obtain ⟨m, es, clk, E, e1, e2, e3, e4, e5⟩ := hm h
      exact ⟨m, es, clk, E, e1, e2, e3, e4, e5.other (i := 10) (by intro q hq; simp only [List.mem_cons, List.not_mem_nil, or_false] at hq; rcases hq with rfl | rfl | rfl | rfl <;> simp)⟩
    · intro h
      rw [getD_set, if_neg (by decide)] at h
      obtain ⟨k1, k2⟩ := h0 h
      have a0 : L.getD 0 true = true := by have := hall { on := 0, ground := .phase } (by simp) rfl; simpa [Array.getD, hL] using this
      rw [a0] at h; cases h
    · intro h
      have a9 : L.getD 9 true = true := by have := hall { on := 9, ground := .data } (by simp) rfl; simpa [Array.getD, hL] using this
      rw [getD_set, if_neg (by decide), a9] at h; cases h
    · simpa only [getD_set, show ¬ (10 : Nat) = 9 by decide, if_false] using h9
    · intro _; rfl
/-- What is found, by the key. -/
def litF (key : Fin 4 → Nat × List UInt8) (v : Fin 4 → FuncId) (f : Nat × List UInt8) : Value :=
  if f = key 0 then .func (.func (v 0)) #[] #[] else if f = key 1 then .func (.func (v 1)) #[] #[] else if f = key 2 then .func (.func (v 2)) #[] #[] else if f = key 3 then .func (.func (v 3)) #[] #[] else .nilFunc
/-- The map in block m says so. -/
def Says (W : World) (m : Nat) (mt : TypeId) (F : Nat × List UInt8 → Value) : Prop := ∃ es clk, W.heap[m]? = some (.map es clk) ∧ ∀ W' : World, W'.heap[m]? = some (.map es clk) → ∀ f, (Instr.lookup mt (.map (some m)) (frV f) false).run Try.prog W' = .ok (F f) W'
set_option maxRecDepth 100000 in
theorem lit_says {mt et : TypeId} (hmt : Try.prog.underlying mt = some (.map 72 et)) (hz : ∀ W, (zeroValue et).run Try.prog W = .ok .nilFunc W) {key : Fin 4 → Nat × List UInt8} {v : Fin 4 → FuncId} (hsep : Sep (litKV key v)) {L : Array Bool} (hL : ∀ q ∈ litKV key v, L.getD q.2.2 true = true)
    {W : World} {m : Nat} {es : Array MapEntry} {clk : Nat} {E : List Ent} (hb : W.heap[m]? = some (.map es clk)) (hes : es.toList = E.map entE) (hl : Laid L (litKV key v) E) : Says W m mt (litF key v) := by
  refine ⟨es, clk, hb, fun W' hb' f => ?_⟩
  rw [run_lookFront hmt m E es clk f W' (hz W') hb' hes]
  congr 1
  obtain ⟨h1, h2⟩ := hl.found (f := f) hsep hL
  unfold litF
  by_cases e0 : f = key 0
  · obtain ⟨j, hj⟩ := h1 (key 0, .func (.func (v 0)) #[] #[], 2) (by simp) e0.symm
    rw [hj, if_pos e0]
  by_cases e1 : f = key 1
  · obtain ⟨j, hj⟩ := h1 (key 1, .func (.func (v 1)) #[] #[], 4) (by simp) e1.symm
    rw [hj, if_neg e0, if_pos e1]
  by_cases e2 : f = key 2
  · obtain ⟨j, hj⟩ := h1 (key 2, .func (.func (v 2)) #[] #[], 6) (by simp) e2.symm
    rw [hj, if_neg e0, if_neg e1, if_pos e2]
  by_cases e3 : f = key 3
  · obtain ⟨j, hj⟩ := h1 (key 3, .func (.func (v 3)) #[] #[], 8) (by simp) e3.symm
    rw [hj, if_neg e0, if_neg e1, if_neg e2, if_pos e3]
  · rw [h2 (by
      intro q hq e
      simp only [List.mem_cons, List.not_mem_nil, or_false] at hq
      rcases hq with rfl | rfl | rfl | rfl
      · exact e0 e.symm
      · exact e1 e.symm
      · exact e2 e.symm
      · exact e3 e.symm), if_neg e0, if_neg e1, if_neg e2, if_neg e3]
def f4 {α : Type} (a b c d : α) (k : Fin 4) : α := match k with
  | 0 => a
  | 1 => b
  | 2 => c
  | 3 => d
def f11 (p0 p1 p2 p3 p4 p5 p6 p7 p8 p9 p10 : String) (k : Fin 11) : String := match k with
  | 0 => p0
  | 1 => p1
  | 2 => p2
  | 3 => p3
  | 4 => p4
  | 5 => p5
  | 6 => p6
  | 7 => p7
  | 8 => p8
  | 9 => p9
  | 10 => p10
set_option maxRecDepth 100000 in
/-- The region of such a literal. -/
theorem lit_region {id : Nat} {mt et ft : TypeId} {g : Fin 4 → FuncId} {c : Fin 4 → Value} {at' : Fin 4 → TypeId} {v : Fin 4 → FuncId} {ps : Fin 11 → String} (key : Fin 4 → Nat × List UInt8) (hmo : Try.prog.follows .mixedOrders = true) (hmt : Try.prog.underlying mt = some (.map 72 et)) (hz : ∀ W, (zeroValue et).run Try.prog W = .ok .nilFunc W)
    (hcall : ∀ k W, Calls Try.prog (g k) #[c k] W fun e w' => e = .returned (frV (key k)) ∧ Below W.heap.size W w') (hent : ∀ k W, (callFunc (g k) #[c k]).run Try.prog W = .ok (.enter (g k) #[c k]) W) (hsep : Sep (litKV key v)) {Q : Exit → Act → World → Prop}
    (s0 s1 s2 s3 s4 s5 s6 : Value) (w : World) (hQ : ∀ w' m t1 t2 t3 t4 t5 t6, w.heap.size ≤ m → Below w.heap.size w w' → Says w' m mt (litF key v) → Q .normal { tmps := #[.map (some m), t1, t2, t3, t4, t5, t6], defers := [] } w') :
    (Code.region id (litOps mt ft g c at' v ps) true).wp Try.prog Q { tmps := #[s0, s1, s2, s3, s4, s5, s6], defers := [] } w := by
  refine wp_region_any hmo ?_
  refine wpAny_inv (ops := litOps mt ft g c at' v ps) (fun L a w' => LitI w key v L a w') (fun L a w' hL hI i hi => lit_step key hmt hcall hent hsep w L a w' hL hI i hi) ?_ _ _ _ _ (by simp) (by simp) ?_
  · intro L a w' hL hI hr
    obtain ⟨t0, t1, t2, t3, t4, t5, t6, rfl, hB, h2, h3, h4, h5, hm, h0, h910, h9, h10⟩ := hI
    have hL' : L.size = 11 := hL
    have hTF : ∀ i, L.getD i false = true → L.getD i true = true := by
      intro i h
      rcases Nat.lt_or_ge i L.size with hl | hl
      · simpa [Array.getD, hl] using h
      · simp [Array.getD, show ¬ i < L.size by omega]
    have key' : ∀ i o, (litOps mt ft g c at' v ps)[i]? = some o → o.after.toList.all (fun e => L.getD e.on false) = true → L.getD i false = true := by
      intro i o ho hall
      have hi : i < 11 := by simpa using (Array.getElem?_eq_some_iff.1 ho).1
      cases hb : L.getD i true with
      | true => simpa [Array.getD, hL', hi] using hb
      | false =>
        have : i ∈ Region.ready .any (litOps mt ft g c at' v ps) L := mem_ready.2 ⟨hb, o, ho, fun e he _ => List.all_eq_true.1 hall e (by simpa using he)⟩
        rw [hr] at this
        cases this
    have a0 := key' 0 _ rfl (by show true = true; rfl)
    have a1 := key' 1 _ rfl (by show true = true; rfl)
    have a3 := key' 3 _ rfl (by show (L.getD 1 false && true) = true; rw [a1]; rfl)
    have a5 := key' 5 _ rfl (by show (L.getD 3 false && true) = true; rw [a3]; rfl)
    have a7 := key' 7 _ rfl (by show (L.getD 5 false && true) = true; rw [a5]; rfl)
    have a2 := key' 2 _ rfl (by show (L.getD 0 false && (L.getD 1 false && true)) = true; rw [a0, a1]; rfl)
    have a4 := key' 4 _ rfl (by show (L.getD 0 false && (L.getD 3 false && true)) = true; rw [a0, a3]; rfl)
    have a6 := key' 6 _ rfl (by show (L.getD 0 false && (L.getD 5 false && true)) = true; rw [a0, a5]; rfl)
    have a8 := key' 8 _ rfl (by show (L.getD 0 false && (L.getD 7 false && true)) = true; rw [a0, a7]; rfl)
    have a9 := key' 9 _ rfl (by show (L.getD 0 false && (L.getD 1 false && (L.getD 2 false && (L.getD 3 false && (L.getD 4 false && (L.getD 5 false && (L.getD 6 false && (L.getD 7 false && (L.getD 8 false && true))))))))) = true; rw [a0, a1, a2, a3, a4, a5, a6, a7, a8]; rfl)
    have a10 := key' 10 _ rfl (by show (L.getD 9 false && (L.getD 7 false && (L.getD 0 false && (L.getD 1 false && (L.getD 2 false && (L.getD 3 false && (L.getD 4 false && (L.getD 5 false && (L.getD 6 false && (L.getD 7 false && (L.getD 8 false && (L.getD 9 false && true)))))))))))) = true; rw [a9, a7, a0, a1, a2, a3, a4, a5, a6, a8]; rfl)
    obtain ⟨m, es, clk, E, rfl, e2, e3, e4, e5⟩ := hm (hTF 0 a0)
    obtain rfl := h9 (hTF 9 a9)
    obtain rfl := h10 (hTF 10 a10)
    refine hQ w' m _ _ _ _ _ _ e2 hB (lit_says hmt hz hsep ?_ e3 e4 e5)
    intro q hq
    simp only [List.mem_cons, List.not_mem_nil, or_false] at hq
    rcases hq with rfl | rfl | rfl | rfl
    · exact hTF 2 a2
    · exact hTF 4 a4
    · exact hTF 6 a6
    · exact hTF 8 a8
  · refine ⟨s0, s1, s2, s3, s4, s5, s6, rfl, (Below.refl _ _).drew, ?_, ?_, ?_, ?_, ?_, ?_, ?_, ?_, ?_⟩ <;> simp
end Go.Proofs.Ytbiempopfmpohaa
namespace Go.Proofs.Ytbiempopfmpohaa
open Go.RowKit

theorem pkind_key (k : Nat) (w : World) : Calls Try.prog 24 #[.int .i64 ((k : Nat) : Int)] w fun e w' => e = .returned (frV (k, [])) ∧ Below w.heap.size w w' := pkind_any _ w
theorem psign_key (s : List UInt8) (b : ByteArray) (hb : mkS s = b) (w : World) : Calls Try.prog 30 #[.string b] w fun e w' => e = .returned (frV (4, s)) ∧ Below w.heap.size w w' := by
  subst hb; exact psign_any _ w
theorem pword_key (s : List UInt8) (b : ByteArray) (hb : mkS s = b) (w : World) : Calls Try.prog 49 #[.string b] w fun e w' => e = .returned (frV (1, s)) ∧ Below w.heap.size w w' := by
  subst hb; exact pword_any _ w

set_option maxRecDepth 100000 in
set_option maxHeartbeats 1000000 in
theorem pplains_any (w : World) :
    Calls Try.prog 22 #[] w fun e w' => ∃ m, e = .returned (.map (some m)) ∧ w.heap.size ≤ m ∧ m < w'.heap.size ∧ Below w.heap.size w w' ∧ PM w' m := by
  go_enter Try.func22, Try.ntmps22
  go_wp2_with fail
  refine lit_region (g := f4 24 24 24 30) (c := f4 (.int .i64 2) (.int .i64 3) (.int .i64 1) (.string { data := #[46] })) (at' := f4 3 3 3 9)
    (v := f4 41 42 43 44) (ps := f11 "parse.go:216" "parse.go:217" "parse.go:216" "parse.go:218" "parse.go:216" "parse.go:219" "parse.go:216" "parse.go:220" "parse.go:216" "parse.go:216" "parse.go:216")
    (f4 (2, []) (3, []) (1, []) (4, [46])) (by kernel_rfl) Try.underlying66 (fun _ => by kernel_rfl) ?_ ?_ ?_ _ _ _ _ _ _ _ _ ?_
  · intro k W
    match k with
    | 0 => exact pkind_key 2 W
    | 1 => exact pkind_key 3 W
    | 2 => exact pkind_key 1 W
    | 3 => exact psign_key [46] _ rfl W
  · intro k W
    have h1 : ∀ v : Value, (callFunc 24 #[v]).run Try.prog W = .ok (.enter 24 #[v]) W := fun _ => by kernel_rfl
    have h2 : ∀ v : Value, (callFunc 30 #[v]).run Try.prog W = .ok (.enter 30 #[v]) W := fun _ => by kernel_rfl
    match k with
    | 0 => exact h1 _
    | 1 => exact h1 _
    | 2 => exact h1 _
    | 3 => exact h2 _
  · simp [Sep, litKV, f4]
  · intro w' m t1 t2 t3 t4 t5 t6 hm hb hs
    go_wp2
    go_ret
    obtain ⟨es, clk, h1, h2⟩ := hs
    exact ⟨m, rfl, hm, lt_of_map h1, hb, es, clk, h1, h2⟩
end Go.Proofs.Ytbiempopfmpohaa
