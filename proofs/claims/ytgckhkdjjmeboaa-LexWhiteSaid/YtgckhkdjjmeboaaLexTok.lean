/-
  Tokens as values: their cells, when two are equal by Go's ==, a slice of them in memory. Conditions: none but those that each names.
-/
import Derived.Test.YtgckhkdjjmeboaaLexBackM
import Derived.Test.YtgckhkdjjmeboaaLexFacts2
import Derived.Test.YtgckhkdjjmeboaaTextPlain
import Derived.Test.YtgckhkdjjmeboaaSetEqs
import Derived.Lib.Hide
import Derived.Laws.MakeOwn
import Derived.Laws.StructEq
import Derived.Deep.QuietTactic
import Derived.BigQuiet
namespace Go.Proofs.Ytgckhkdjjmeboaa
open Go.RowKit

/-- A token's cells. -/
abbrev tokCells (t : Tk) (a : Int) : Array Value := #[.int .i64 ((t.kind : Nat) : Int), .string (mkS t.text), .int .u64 ((wd t.set 0 : Nat) : Int), .int .u64 ((wd t.set 1 : Nat) : Int), .int .u64 ((wd t.set 2 : Nat) : Int), .int .u64 ((wd t.set 3 : Nat) : Int), .int .i64 ((t.num : Nat) : Int), .int .i64 a]
abbrev tokV (t : Tk) (a : Int) : Value := .agg (tokCells t a)
/-- Are two tokens the same? -/
def tkEq (t : Tk) (a : Int) (u : Tk) (b : Int) : Bool := decide (t.kind = u.kind) && (decide (t.text = u.text) && (eqs t.set u.set && (decide (t.num = u.num) && decide (a = b))))
theorem tkEq_of {t u : Tk} {a b : Int} (h1 : t.kind = u.kind) (h2 : t.text = u.text) (h3 : ∀ i, i < 256 → t.set i = u.set i) (h4 : t.num = u.num) (h5 : a = b) : tkEq t a u b = true := by
  unfold tkEq
  rw [decide_eq_true h1, decide_eq_true h2, (eqs_iff _ _).2 h3, decide_eq_true h4, decide_eq_true h5]
  rfl
theorem tkEq_self (t : Tk) (a : Int) : tkEq t a t a = true := tkEq_of rfl rfl (fun _ _ => rfl) rfl rfl

theorem tok_fields : (Try.prog.fieldsOf 30).toList = [{ name := "Kind", type := 3, offset := 0, embedded := false, tag := "", pkgPath := "", byteOffset := 0 }, { name := "Text", type := 9, offset := 1, embedded := false, tag := "", pkgPath := "", byteOffset := 8 }, { name := "Set", type := 28, offset := 2, embedded := false, tag := "", pkgPath := "", byteOffset := 24 }, { name := "Number", type := 3, offset := 6, embedded := false, tag := "", pkgPath := "", byteOffset := 56 }, { name := "At", type := 3, offset := 7, embedded := false, tag := "", pkgPath := "", byteOffset := 64 }] := by kernel_rfl
theorem tok_under : Try.prog.underlying 30 = some (.struct (Try.prog.fieldsOf 30)) := by kernel_rfl
theorem tok_stood : Try.prog.stoodInHeld 30 = false := by kernel_rfl
theorem eq_num_at (d : Nat) (x y : Nat) (w : World) : (Op.equalIn (d + 1) 3 (.int .i64 ((x : Nat) : Int)) (.int .i64 ((y : Nat) : Int))).run Try.prog w = .ok (decide (x = y)) w := by
  rw [run_equalIn_int w d 3 .i64 .i64 _ _ Try.underlying3]
  congr 1
  rw [Bool.eq_iff_iff, beq_iff_eq, decide_eq_true_iff]; omega
theorem eq_int_at (d : Nat) (x y : Int) (w : World) : (Op.equalIn (d + 1) 3 (.int .i64 x) (.int .i64 y)).run Try.prog w = .ok (decide (x = y)) w := by
  rw [run_equalIn_int w d 3 .i64 .i64 _ _ Try.underlying3]
  congr 1
theorem eq_text_at (d : Nat) (x y : List UInt8) (w : World) : (Op.equalIn (d + 1) 9 (.string (mkS x)) (.string (mkS y))).run Try.prog w = .ok (decide (x = y)) w := by
  rw [run_equalIn_string w d 9 _ _ Try.underlying9, eq_bl, bl_mkS, bl_mkS]
theorem eqf_cons {P : Program} {d : Nat} {xs ys : Array Value} {f : Field} {fs : List Field} {va vb : Value} {r : Bool} {w : World} (hn : f.name ≠ "_") (hp : (part f.type xs f.offset).run P w = .ok va w) (hq : (part f.type ys f.offset).run P w = .ok vb w) (he : (Op.equalIn d f.type va vb).run P w = .ok r w) :
    (Op.eqFields d xs ys (f :: fs)).run P w = if r then (Op.eqFields d xs ys fs).run P w else .ok false w := by
  rw [Op.eqFields, if_pos hn]
  simp only [Sem.run_bind, hp, hq, he, Result.andThen_ok]
  cases r <;> rfl
set_option maxRecDepth 100000 in
set_option maxHeartbeats 2000000 in
theorem eq_tok (t u : Tk) (a b : Int) (w : World) : (Op.equalIn 10000 30 (tokV t a) (tokV u b)).run Try.prog w = .ok (tkEq t a u b) w := by
  have p0 : ∀ (t : Tk) (a : Int), (part 3 (tokCells t a) 0).run Try.prog w = .ok (.int .i64 ((t.kind : Nat) : Int)) w := fun t a => by kernel_rfl
  have p1 : ∀ (t : Tk) (a : Int), (part 9 (tokCells t a) 1).run Try.prog w = .ok (.string (mkS t.text)) w := fun t a => by kernel_rfl
  have p2 : ∀ (t : Tk) (a : Int), (part 28 (tokCells t a) 2).run Try.prog w = .ok (sv t.set) w := fun t a => by kernel_rfl
  have p3 : ∀ (t : Tk) (a : Int), (part 3 (tokCells t a) 6).run Try.prog w = .ok (.int .i64 ((t.num : Nat) : Int)) w := fun t a => by kernel_rfl
  have p4 : ∀ (t : Tk) (a : Int), (part 3 (tokCells t a) 7).run Try.prog w = .ok (.int .i64 a) w := fun t a => by kernel_rfl
  rw [show (10000 : Nat) = 9999 + 1 from rfl, run_equalIn_struct w 9999 30 _ _ tok_under tok_stood, tok_fields]
  have e0 : (Op.equalIn 9999 3 (.int .i64 ((t.kind : Nat) : Int)) (.int .i64 ((u.kind : Nat) : Int))).run Try.prog w = .ok (decide (t.kind = u.kind)) w := eq_num_at 9998 t.kind u.kind w
  have e1 : (Op.equalIn 9999 9 (.string (mkS t.text)) (.string (mkS u.text))).run Try.prog w = .ok (decide (t.text = u.text)) w := eq_text_at 9998 t.text u.text w
  have e2 : (Op.equalIn 9999 28 (sv t.set) (sv u.set)).run Try.prog w = .ok (eqs t.set u.set) w := eq_sets_at 9997 t.set u.set w
  have e3 : (Op.equalIn 9999 3 (.int .i64 ((t.num : Nat) : Int)) (.int .i64 ((u.num : Nat) : Int))).run Try.prog w = .ok (decide (t.num = u.num)) w := eq_num_at 9998 t.num u.num w
  have e4 : (Op.equalIn 9999 3 (.int .i64 a) (.int .i64 b)).run Try.prog w = .ok (decide (a = b)) w := eq_int_at 9998 a b w
  have s0 := eqf_cons (P := Try.prog) (d := 9999) (xs := tokCells t a) (ys := tokCells u b) (f := { name := "Kind", type := 3, offset := 0, embedded := false, tag := "", pkgPath := "", byteOffset := 0 }) (fs := [{ name := "Text", type := 9, offset := 1, embedded := false, tag := "", pkgPath := "", byteOffset := 8 }, { name := "Set", type := 28, offset := 2, embedded := false, tag := "", pkgPath := "", byteOffset := 24 }, { name := "Number", type := 3, offset := 6, embedded := false, tag := "", pkgPath := "", byteOffset := 56 }, { name := "At", type := 3, offset := 7, embedded := false, tag := "", pkgPath := "", byteOffset := 64 }]) (va := .int .i64 ((t.kind : Nat) : Int)) (vb := .int .i64 ((u.kind : Nat) : Int)) (r := decide (t.kind = u.kind)) (w := w) (by decide) (p0 t a) (p0 u b) e0
  have s1 := eqf_cons (P := Try.prog) (d := 9999) (xs := tokCells t a) (ys := tokCells u b) (f := { name := "Text", type := 9, offset := 1, embedded := false, tag := "", pkgPath := "", byteOffset := 8 }) (fs := [{ name := "Set", type := 28, offset := 2, embedded := false, tag := "", pkgPath := "", byteOffset := 24 }, { name := "Number", type := 3, offset := 6, embedded := false, tag := "", pkgPath := "", byteOffset := 56 }, { name := "At", type := 3, offset := 7, embedded := false, tag := "", pkgPath := "", byteOffset := 64 }]) (va := .string (mkS t.text)) (vb := .string (mkS u.text)) (r := decide (t.text = u.text)) (w := w) (by decide) (p1 t a) (p1 u b) e1
  have s2 := eqf_cons (P := Try.prog) (d := 9999) (xs := tokCells t a) (ys := tokCells u b) (f := { name := "Set", type := 28, offset := 2, embedded := false, tag := "", pkgPath := "", byteOffset := 24 }) (fs := [{ name := "Number", type := 3, offset := 6, embedded := false, tag := "", pkgPath := "", byteOffset := 56 }, { name := "At", type := 3, offset := 7, embedded := false, tag := "", pkgPath := "", byteOffset := 64 }]) (va := sv t.set) (vb := sv u.set) (r := eqs t.set u.set) (w := w) (by decide) (p2 t a) (p2 u b) e2
  have s3 := eqf_cons (P := Try.prog) (d := 9999) (xs := tokCells t a) (ys := tokCells u b) (f := { name := "Number", type := 3, offset := 6, embedded := false, tag := "", pkgPath := "", byteOffset := 56 }) (fs := [{ name := "At", type := 3, offset := 7, embedded := false, tag := "", pkgPath := "", byteOffset := 64 }]) (va := .int .i64 ((t.num : Nat) : Int)) (vb := .int .i64 ((u.num : Nat) : Int)) (r := decide (t.num = u.num)) (w := w) (by decide) (p3 t a) (p3 u b) e3
  have s4 := eqf_cons (P := Try.prog) (d := 9999) (xs := tokCells t a) (ys := tokCells u b) (f := { name := "At", type := 3, offset := 7, embedded := false, tag := "", pkgPath := "", byteOffset := 64 }) (fs := []) (va := .int .i64 a) (vb := .int .i64 b) (r := decide (a = b)) (w := w) (by decide) (p4 t a) (p4 u b) e4
  rw [s0, s1, s2, s3, s4]
  unfold tkEq
  cases decide (t.kind = u.kind) <;> cases decide (t.text = u.text) <;> cases eqs t.set u.set <;> cases decide (t.num = u.num) <;> cases decide (a = b) <;> rfl

/-- Eight cells of a token that lies in a slice. -/
def K8At (W : World) (g o : Nat) (t : Tk) (a : Int) : Prop :=
  W.cell? ⟨g, o, none⟩ = some (.int .i64 ((t.kind : Nat) : Int)) ∧ W.cell? ⟨g, o + 1, none⟩ = some (.string (mkS t.text)) ∧ W.cell? ⟨g, o + 2, none⟩ = some (.int .u64 ((wd t.set 0 : Nat) : Int)) ∧ W.cell? ⟨g, o + 3, none⟩ = some (.int .u64 ((wd t.set 1 : Nat) : Int)) ∧ W.cell? ⟨g, o + 4, none⟩ = some (.int .u64 ((wd t.set 2 : Nat) : Int)) ∧ W.cell? ⟨g, o + 5, none⟩ = some (.int .u64 ((wd t.set 3 : Nat) : Int)) ∧ W.cell? ⟨g, o + 6, none⟩ = some (.int .i64 ((t.num : Nat) : Int)) ∧ W.cell? ⟨g, o + 7, none⟩ = some (.int .i64 a)
theorem K8At.below {W W' : World} {g o n : Nat} {t : Tk} {a : Int} (h : K8At W g o t a) (hb : Below n W W') (hg : g < n) : K8At W' g o t a := by
  obtain ⟨h0, h1, h2, h3, h4, h5, h6, h7⟩ := h
  exact ⟨(hb.cell (p := ⟨g, _, none⟩) hg).trans h0, (hb.cell (p := ⟨g, _, none⟩) hg).trans h1, (hb.cell (p := ⟨g, _, none⟩) hg).trans h2, (hb.cell (p := ⟨g, _, none⟩) hg).trans h3, (hb.cell (p := ⟨g, _, none⟩) hg).trans h4, (hb.cell (p := ⟨g, _, none⟩) hg).trans h5, (hb.cell (p := ⟨g, _, none⟩) hg).trans h6, (hb.cell (p := ⟨g, _, none⟩) hg).trans h7⟩
/-- From the address on lie these tokens, in a block below the bound. -/
def KAt (W : World) (ao : Option Addr) (L : List (Tk × Nat)) (bd : Nat) : Prop :=
  0 < L.length → ∃ g off, ao = some ⟨g, off, none⟩ ∧ g < bd ∧ ∀ i, i < L.length → K8At W g (off + i * 8) (L.getD i (Tk.none, 0)).1 (((L.getD i (Tk.none, 0)).2 : Nat) : Int)
theorem KAt.below {W W' : World} {ao : Option Addr} {L : List (Tk × Nat)} {bd n : Nat} (h : KAt W ao L bd) (hb : Below n W W') (hn : bd ≤ n) : KAt W' ao L bd := by
  intro hp
  obtain ⟨g, off, hg, hlt, hc⟩ := h hp
  exact ⟨g, off, hg, hlt, fun i hi => (hc i hi).below hb (by omega)⟩
theorem KAt.mono {W : World} {ao : Option Addr} {L : List (Tk × Nat)} {bd n : Nat} (h : KAt W ao L bd) (hn : bd ≤ n) : KAt W ao L n := by
  intro hp
  obtain ⟨g, off, hg, hlt, hc⟩ := h hp
  exact ⟨g, off, hg, by omega, hc⟩
theorem KAt.hid {w : World} {ao : Option Addr} {L : List (Tk × Nat)} {len : Nat} (hl : L.length = len) (h : KAt w ao L w.heap.size) :
    Hid (0 < len → ∃ g off, ao = some ⟨g, off, none⟩ ∧ g < w.heap.size ∧ ∀ i, i < len → ∀ W : World, Below w.heap.size w W → K8At W g (off + i * 8) (L.getD i (Tk.none, 0)).1 (((L.getD i (Tk.none, 0)).2 : Nat) : Int)) :=
  Lib.hid fun hp => by
    obtain ⟨g, off, rfl, hg, hc⟩ := h (by omega)
    exact ⟨g, off, rfl, hg, fun i hi W hb => (hc i (by omega)).below hb hg⟩
/-- What Next answers. -/
def nextV (l : List UInt8) (p : Nat) : Value := match tokL (l.drop (p + skipN (l.drop p))) with
  | .error e => .tuple #[tokV Tk.none 0, .int .i64 ((p + skipN (l.drop p) : Nat) : Int), .int .i64 ((e : Nat) : Int)]
  | .ok (t, n) => .tuple #[tokV t ((p + skipN (l.drop p) : Nat) : Int), .int .i64 ((p + skipN (l.drop p) + n : Nat) : Int), .int .i64 0]
/-- What All answers. -/
def AllA (l : List UInt8) (w : World) (e : Ending) (w' : World) : Prop := match allL l 0 with
  | .error x => (∃ so sc, e = .returned (.tuple #[.slice so 0 sc, .int .i64 ((x.2 : Nat) : Int), .int .i64 ((x.1 : Nat) : Int)])) ∧ Below w.heap.size w w'
  | .ok A => ∃ ao cap, e = .returned (.tuple #[.slice ao A.length cap, .int .i64 ((l.length : Nat) : Int), .int .i64 0]) ∧ A.length ≤ cap ∧ KAt w' ao A w'.heap.size ∧ Below w.heap.size w w'
theorem AllA.ok {l : List UInt8} {A : List (Tk × Nat)} (h : allL l 0 = .ok A) {w w' : World} {e : Ending} (ha : AllA l w e w') : ∃ ao cap, e = .returned (.tuple #[.slice ao A.length cap, .int .i64 ((l.length : Nat) : Int), .int .i64 0]) ∧ A.length ≤ cap ∧ KAt w' ao A w'.heap.size ∧ Below w.heap.size w w' := by
  unfold AllA at ha
  rw [h] at ha
  exact ha
theorem AllA.err {l : List UInt8} {er q : Nat} (h : allL l 0 = .error (er, q)) {w w' : World} {e : Ending} (ha : AllA l w e w') : (∃ so sc, e = .returned (.tuple #[.slice so 0 sc, .int .i64 ((q : Nat) : Int), .int .i64 ((er : Nat) : Int)])) ∧ Below w.heap.size w w' := by
  unfold AllA at ha
  rw [h] at ha
  exact ha
end Go.Proofs.Ytgckhkdjjmeboaa
