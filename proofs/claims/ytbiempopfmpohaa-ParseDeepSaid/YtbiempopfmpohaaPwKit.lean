/-
  What the parser's walks share: a struct stored into and loaded from a block of its own, what a call that changes one old block leaves, a token's front, rows of tokens in memory. Conditions: none but those that each names.
-/
import Derived.Test.YtbiempopfmpohaaParseKit
import Derived.Test.YtbiempopfmpohaaMems
import Derived.Test.YtbiempopfmpohaaLexRs
import Derived.Defers
import Derived.Recover
namespace Go.Proofs.Ytbiempopfmpohaa
open Go.RowKit

/-- Of what was there only block B has changed. -/
abbrev Btt (B : Nat) (w w' : World) : Prop := But (fun k => k = B) w w'
theorem Btt.refl (B : Nat) (w : World) : Btt B w w := But.of_below (Below.refl _ _)
theorem Btt.ofB {B : Nat} {w w' : World} (h : Below w.heap.size w w') : Btt B w w' := But.of_below h
theorem Btt.alloc {B : Nat} {w w1 : World} (h : Btt B w w1) (o : Obj) : Btt B w (w1.alloc o) := h.trans (G := fun k => k = B) (But.of_below (bal0 w1 o)) fun _ hk => .inl hk
theorem Btt.drew {B : Nat} {w w1 : World} (h : Btt B w w1) : Btt B w w1.drew := h.trans (G := fun k => k = B) (But.of_below (Below.refl _ _).drew) fun _ hk => .inl hk
theorem Btt.next {B : Nat} {w w1 w2 : World} (h : Btt B w w1) (k : Btt B w1 w2) : Btt B w w2 := h.trans k fun _ hk => .inl hk
theorem Btt.on {B : Nat} {w w1 w2 : World} (h : Btt B w w1) (k : Below w1.heap.size w1 w2) : Btt B w w2 := h.next (But.of_below k)
/-- A block of the call's own has changed. -/
theorem Btt.own {B B' : Nat} {w w1 w2 : World} (h : Btt B w w1) (k : Btt B' w1 w2) (hB : w.heap.size ≤ B') : Btt B w w2 := h.trans k fun i hi => .inr (by subst hi; exact hB)
theorem Btt.set {B B' : Nat} {w w1 : World} (h : Btt B w w1) (k : Nat) (v : Value) (hB : B' = B ∨ w.heap.size ≤ B') : Btt B w (w1.setCell ⟨B', k, none⟩ v) := by
  refine h.trans (G := fun i => i = B') ⟨rfl, rfl, rfl, by rw [World.size_setCell]; exact Nat.le_refl _, fun i _ hne => Below.heap_setCell w1 ⟨B', k, none⟩ v i hne⟩ fun i hi => ?_
  rcases hB with e | e
  · exact .inl (hi.trans e)
  · exact .inr (by subst hi; exact e)
theorem Btt.low {B n : Nat} {w w1 : World} (h : Btt B w w1) (hn : n ≤ B) (hs : n ≤ w.heap.size) : Below n w w1 := h.below hs fun k hk => by omega
theorem Btt.at {B R : Nat} {w w1 : World} {t : TypeId} {vs : Array Value} (h : Btt B w w1) (hR : Blk w R t vs) (hne : R ≠ B) : Blk w1 R t vs := h.blk hR hne

/-- A struct stored into a block of its own. -/
theorem wp_put {ops : Array Oper} {rest : List Oper} {op : Oper} {a : Act} {w : World} {Q : Exit → Act → World → Prop} (hg : op.guard = none) (T : TypeId) (x y : Operand) (ho : op.op = .store T x y) (B : Nat) (cs vs : Array Value)
    (hx : a.eval x = .pointer (some ⟨B, 0, none⟩)) (hy : a.eval y = .agg vs) (hK : Blk w B T cs) (hi : (Try.prog.info? T).map (·.size) = some vs.size) (hc : cs.size = vs.size) (h1 : vs.all (·.oneCell') = true)
    (h : ∀ w', Blk w' B T vs → Btt B w w' → wpList Try.prog ops Q rest (a.put op.dst undef) w') : wpList Try.prog ops Q (op :: rest) a w := by
  refine wpList_store_row hg T x y ho B vs hx hy T cs hK hi hc h1 (h _ (setRow_heap _ _ _ _ _ _ hK) ⟨rfl, rfl, rfl, by simp [World.setRow], fun k _ hne => ?_⟩)
  simp [World.setRow, Array.getElem?_modify, show B ≠ k from fun e => hne e.symm]
/-- A struct loaded from a block of its own. -/
theorem wp_get {ops : Array Oper} {rest : List Oper} {op : Oper} {a : Act} {w : World} {Q : Exit → Act → World → Prop} (hg : op.guard = none) (T : TypeId) (x : Operand) (ho : op.op = .load T x) (B : Nat) (vs : Array Value) (d : TypeDesc)
    (hx : a.eval x = .pointer (some ⟨B, 0, none⟩)) (hK : Blk w B T vs) (hu : Try.prog.underlying T = some d) (hd : d.isRow = true) (hi : (Try.prog.info? T).map (·.size) = some vs.size)
    (h : wpList Try.prog ops Q rest (a.put op.dst (.agg vs)) w) : wpList Try.prog ops Q (op :: rest) a w := by
  refine wpList_load_mid hg T x ho B 0 hx vs.toList d (fun j v hv => ?_) hu hd (by simpa using hi) (by simpa using h)
  rw [Nat.zero_add, hK.cell]
  simpa using hv
/-- The result lies in a block of its own. -/
theorem ret_blk {fn : Func} {R : Ending → World → Prop} {a : Act} {w : World} (s : Tmp) (T : TypeId) (B : Nat) (vs : Array Value) (d : TypeDesc) (hr : fn.results = #[.cell s T]) (hs : a.tmps.getD s undef = .pointer (some ⟨B, 0, none⟩)) (hd : a.defers = [])
    (hK : Blk w B T vs) (hu : Try.prog.underlying T = some d) (hrow : d.isRow = true) (hi : (Try.prog.info? T).map (·.size) = some vs.size) (h : R (.returned (.agg vs)) w) : bodyPost Try.prog fn R .ret a w := by
  have hl := run_loadVar_mid (P := Try.prog) w B 0 T vs.toList d (fun j v hv => by rw [Nat.zero_add, hK.cell]; simpa using hv) hu hrow (by simpa using hi)
  refine bodyPost_ret (v := .agg vs) ?_ hd h
  have hs' : a.tmps[s]?.getD undef = .pointer (some ⟨B, 0, none⟩) := by simpa using hs
  simp [results, hr, asAddr, hs', hl]
theorem size_re : (Try.prog.info? 27).map (·.size) = some 9 := by kernel_rfl
theorem size_map14 : (Try.prog.info? 43).map (·.size) = some 14 := by kernel_rfl
theorem size_item46 : (Try.prog.info? 45).map (·.size) = some 46 := by kernel_rfl
theorem size_front : (Try.prog.info? 72).map (·.size) = some 2 := by kernel_rfl
theorem size_reader : (Try.prog.info? 69).map (·.size) = some 3 := by kernel_rfl
abbrev zr9 : Array Value := #[.int .i64 0, .string { data := #[] }, .int .u64 0, .int .u64 0, .int .u64 0, .int .u64 0, .slice none 0 0, .int .i64 0, .int .i64 0]
abbrev zr8 : Array Value := #[.int .i64 0, .string { data := #[] }, .int .u64 0, .int .u64 0, .int .u64 0, .int .u64 0, .int .i64 0, .int .i64 0]
abbrev zr14 : Array Value := #[.int .i64 0, .int .i64 0, .string { data := #[] }, .int .u64 0, .int .u64 0, .int .u64 0, .int .u64 0, .slice none 0 0, .int .i64 0, .int .i64 0, .string { data := #[] }, .slice none 0 0, .int .i64 0, .int .i64 0]

/-- What tells of a token what it may begin. -/
def frF (t : Tk) : Nat × List UInt8 := if t.kind = 4 ∨ (t.kind = 1 ∧ keyB t.text = true) then (t.kind, t.text) else (t.kind, [])
abbrev frCells (f : Nat × List UInt8) : Array Value := #[.int .i64 ((f.1 : Nat) : Int), .string (mkS f.2)]
abbrev frV (f : Nat × List UInt8) : Value := .agg (frCells f)

/-- All tokens up to the end, and the end. -/
def Row : List (Tk × Nat) → Prop
  | [] => False
  | [x] => x.1 = Tk.none
  | x :: y :: L => x.1.kind ≠ 0 ∧ Row (y :: L)
/-- The tokens ahead of the end. -/
def pl : List (Tk × Nat) → List Tk
  | [] => []
  | [_] => []
  | x :: y :: L => x.1 :: pl (y :: L)
theorem Row.parts {L : List (Tk × Nat)} (h : Row L) : (∃ p, L = [(Tk.none, p)]) ∨ (∃ t p L', L = (t, p) :: L' ∧ t.kind ≠ 0 ∧ Row L' ∧ pl L = t :: pl L') := by
  match L, h with
  | [(t, p)], h => exact .inl ⟨p, by rw [show t = Tk.none from h]⟩
  | (t, p) :: y :: L, h => exact .inr ⟨t, p, y :: L, rfl, h.1, h.2, rfl⟩
theorem Row.cons {L : List (Tk × Nat)} (h : Row L) : ∃ t p L', L = (t, p) :: L' := by
  match L, h with
  | [(t, p)], _ => exact ⟨t, p, [], rfl⟩
  | (t, p) :: y :: L, _ => exact ⟨t, p, y :: L, rfl⟩
theorem row_end (A : List (Tk × Nat)) (hA : ∀ x ∈ A, x.1.kind ≠ 0) (z : Nat) : Row (A ++ [(Tk.none, z)]) ∧ pl (A ++ [(Tk.none, z)]) = A.map (·.1) := by
  induction A with
  | nil => exact ⟨rfl, rfl⟩
  | cons x A ih =>
    obtain ⟨h1, h2⟩ := ih fun y hy => hA y (List.mem_cons_of_mem _ hy)
    cases A with
    | nil => exact ⟨⟨hA x (by simp), h1⟩, rfl⟩
    | cons y A => exact ⟨⟨hA x (by simp), h1⟩, by rw [List.map_cons, ← h2]; rfl⟩
/-- The place of the first token. -/
def hdP : List (Tk × Nat) → Nat
  | [] => 0
  | x :: _ => x.2
theorem fr_sign {t : Tk} {s : List UInt8} : decide (frF t = (4, s)) = (t.kind == 4 && t.text == s) := by
  unfold frF
  rw [Bool.eq_iff_iff]
  simp only [decide_eq_true_eq, Bool.and_eq_true, beq_iff_eq]
  split
  · rw [Prod.mk.injEq]
  · rename_i h
    constructor
    · intro e; exact absurd (.inl (Prod.mk.inj e).1) h
    · intro e; exact absurd (.inl e.1) h
theorem fr_none (s : List UInt8) : decide (frF Tk.none = (4, s)) = false := by
  rw [fr_sign]; rfl
/-- Does this sign come next, as the grammar sees it? -/
theorem Row.sign {t : Tk} {p : Nat} {L : List (Tk × Nat)} (h : Row ((t, p) :: L)) (s : List UInt8) : decide (frF t = (4, s)) = sgn s (pl ((t, p) :: L)) := by
  rcases h.parts with ⟨q, e⟩ | ⟨u, q, L', e, _, _, e2⟩
  · cases e; rw [fr_none]; rfl
  · cases e; rw [e2, fr_sign]; rfl
theorem Row.tail {t : Tk} {p : Nat} {L : List (Tk × Nat)} (h : Row ((t, p) :: L)) (hk : t.kind ≠ 0) : Row L ∧ pl ((t, p) :: L) = t :: pl L := by
  rcases h.parts with ⟨q, e⟩ | ⟨u, q, L', e, _, h2, e2⟩
  · cases e; exact absurd rfl hk
  · cases e; exact ⟨h2, e2⟩
/-- From a place of a block on lie these tokens. -/
def KRow (W : World) (g : Nat) : Nat → List (Tk × Nat) → Prop
  | _, [] => True
  | o, x :: L => K8At W g o x.1 ((x.2 : Nat) : Int) ∧ KRow W g (o + 8) L
theorem KRow.below {W W' : World} {g n : Nat} (hb : Below n W W') (hg : g < n) : ∀ {o : Nat} {L : List (Tk × Nat)}, KRow W g o L → KRow W' g o L
  | _, [], _ => trivial
  | _, _ :: _, h => ⟨h.1.below hb hg, KRow.below hb hg h.2⟩
theorem KRow.of {W : World} {g : Nat} : ∀ {o : Nat} {L : List (Tk × Nat)}, (∀ i, i < L.length → K8At W g (o + i * 8) (L.getD i (Tk.none, 0)).1 (((L.getD i (Tk.none, 0)).2 : Nat) : Int)) → KRow W g o L
  | _, [], _ => trivial
  | o, x :: L, h => ⟨by simpa using h 0 (Nat.succ_pos _), KRow.of fun i hi => by
      have := h (i + 1) (by simpa using hi)
      rw [show o + (i + 1) * 8 = o + 8 + i * 8 by omega] at this
      simpa using this⟩
end Go.Proofs.Ytbiempopfmpohaa
