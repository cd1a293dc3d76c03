/-
What is wrong is told by a number that is not 0. Conditions: none but those that each names.
Layer 6's reference, the lexer: digits, letters, digits in sixteens, white. Conditions: those that each names.
Layer 6's reference, the lexer: white passed over; a byte within a text or a set. Conditions: those that each names.
Layer 6's reference, the lexer: a byte within a text or a set. Conditions: those that each names.
Tokens as values: their cells, when two are equal by Go's ==, a slice of them in memory. Conditions: none but those that each names.
Layer 6's reference, the lexer: a name or a number. Conditions: those that each names.
-/
import Derived.Test.YtbiempopfmpohaaLexFacts2
import Derived.Test.YtbiempopfmpohaaLexRef
import Derived.Test.YtbiempopfmpohaaMems
import Derived.Test.YtbiempopfmpohaaLexBackM
import Derived.Test.YtbiempopfmpohaaTextPlain
import Derived.Test.YtbiempopfmpohaaSetKs
import Derived.Lib.Hide
import Derived.Laws.MakeOwn
import Derived.Laws.StructEq
import Derived.Deep.QuietTactic
import Derived.BigQuiet
import Derived.Deep.WholeRow
import Derived.Deep.MidRow
namespace Go.Proofs.Ytbiempopfmpohaa

theorem oneL_err {l : List UInt8} {e : Nat} (h : oneL l = .error e) : e ≠ 0 := by
  unfold oneL at h
  repeat' split at h
  all_goals first | (cases h; done) | (cases h; decide)
theorem textF_err : ∀ f l {e : Nat}, textF f l = .error e → e ≠ 0
  | 0, l, e, h => by cases h; decide
  | f + 1, [], e, h => by cases h; decide
  | f + 1, c :: l, e, h => by
    rw [textF_cons] at h
    split at h
    · cases h
    · cases ho : oneL (c :: l) with
      | error x => rw [ho] at h; cases h; exact oneL_err ho
      | ok y =>
        obtain ⟨b, n⟩ := y
        rw [ho] at h
        simp only at h
        cases ht : textF f ((c :: l).drop n) with
        | error x => rw [ht] at h; cases h; exact textF_err f _ ht
        | ok z => rw [ht] at h; cases h
theorem setF_err : ∀ f l {e : Nat}, setF f l = .error e → e ≠ 0
  | 0, l, e, h => by cases h; decide
  | f + 1, [], e, h => by cases h; decide
  | f + 1, c :: l, e, h => by
    rw [setF_cons] at h
    split at h
    · cases h
    · cases ho : oneL (c :: l) with
      | error x => rw [ho] at h; cases h; exact oneL_err ho
      | ok y =>
        obtain ⟨a, n⟩ := y
        rw [ho] at h
        simp only at h
        split at h
        · cases ho3 : oneL ((c :: l).drop (n + 1)) with
          | error x => rw [ho3] at h; cases h; exact oneL_err ho3
          | ok z =>
            obtain ⟨b, m⟩ := z
            rw [ho3] at h
            simp only at h
            split at h
            · cases h; decide
            · cases ht : setF f ((c :: l).drop (n + 1 + m)) with
              | error x => rw [ht] at h; cases h; exact setF_err f _ ht
              | ok q => rw [ht] at h; cases h
        · cases ht : setF f ((c :: l).drop n) with
          | error x => rw [ht] at h; cases h; exact setF_err f _ ht
          | ok q => rw [ht] at h; cases h
theorem tokL_err {l : List UInt8} {e : Nat} (h : tokL l = .error e) : e ≠ 0 := by
  cases l with
  | nil => cases h
  | cons c q =>
    unfold tokL at h
    simp only at h
    split at h
    · cases ht : textF (q.length + 1) q with
      | error x => rw [ht] at h; cases h; exact textF_err _ _ ht
      | ok y =>
        rw [ht] at h
        simp only at h
        split at h
        · cases h; decide
        · cases h
    · split at h
      · split at h
        · cases ht : setF (q.length + 1) (q.drop 1) with
          | error x => rw [ht] at h; cases h; exact setF_err _ _ ht
          | ok y => rw [ht] at h; cases h
        · cases ht : setF (q.length + 1) q with
          | error x => rw [ht] at h; cases h; exact setF_err _ _ ht
          | ok y => rw [ht] at h; cases h
      · split at h
        · split at h
          · cases h; decide
          · cases h
        · split at h
          · split at h
            · cases h; decide
            · cases h
          · split at h
            · cases h
            · split at h
              · cases h
              · cases h; decide
theorem allL_err : ∀ n (l : List UInt8) (p : Nat) {e q : Nat}, l.length ≤ n → allL l p = .error (e, q) → e ≠ 0
  | n, l, p, e, q, hn, h => by
    rw [allL_eq] at h
    cases ht : tokL (l.drop (skipN l)) with
    | error x => rw [ht] at h; cases h; exact tokL_err ht
    | ok y =>
      obtain ⟨t, m⟩ := y
      rw [ht] at h
      simp only at h
      by_cases hk : t.kind = 0
      · rw [if_pos hk] at h; cases h
      · rw [if_neg hk] at h
        have hne : l.drop (skipN l) ≠ [] := by
          intro e
          rw [e, tokL_end] at ht
          cases ht
          exact hk rfl
        have hp := tokL_pos hne ht
        have hs := skipN_le l
        rw [List.length_drop] at hp
        cases hr : allL (l.drop (skipN l + m)) (p + skipN l + m) with
        | error x =>
          rw [hr] at h
          cases h
          match n, hn with
          | 0, hn => omega
          | n + 1, hn => exact allL_err n _ _ (by rw [List.length_drop]; omega) hr
        | ok r => rw [hr] at h; cases h
/-- How many tokens, and where. -/
theorem allL_len : ∀ n (l : List UInt8) (p : Nat) {A : List (Tk × Nat)}, l.length ≤ n → allL l p = .ok A → A.length ≤ l.length
  | n, l, p, A, hn, h => by
    rw [allL_eq] at h
    cases ht : tokL (l.drop (skipN l)) with
    | error x => rw [ht] at h; cases h
    | ok y =>
      obtain ⟨t, m⟩ := y
      rw [ht] at h
      simp only at h
      by_cases hk : t.kind = 0
      · rw [if_pos hk] at h; cases h; exact Nat.zero_le _
      · rw [if_neg hk] at h
        have hne : l.drop (skipN l) ≠ [] := by
          intro e
          rw [e, tokL_end] at ht
          cases ht
          exact hk rfl
        have hp := tokL_pos hne ht
        have hs := skipN_le l
        rw [List.length_drop] at hp
        cases hr : allL (l.drop (skipN l + m)) (p + skipN l + m) with
        | error x => rw [hr] at h; cases h
        | ok r =>
          rw [hr] at h
          cases h
          match n, hn with
          | 0, hn => omega
          | n + 1, hn =>
            have := allL_len n _ _ (by rw [List.length_drop]; omega) hr
            rw [List.length_drop] at this
            rw [List.length_cons]
            omega
/-- Where it is told that something is wrong. -/
theorem allL_place : ∀ n (l : List UInt8) (p : Nat) {e q : Nat}, l.length ≤ n → allL l p = .error (e, q) → q ≤ p + l.length
  | n, l, p, e, q, hn, h => by
    rw [allL_eq] at h
    have hs := skipN_le l
    cases ht : tokL (l.drop (skipN l)) with
    | error x => rw [ht] at h; cases h; omega
    | ok y =>
      obtain ⟨t, m⟩ := y
      rw [ht] at h
      simp only at h
      by_cases hk : t.kind = 0
      · rw [if_pos hk] at h; cases h
      · rw [if_neg hk] at h
        have hne : l.drop (skipN l) ≠ [] := by
          intro e
          rw [e, tokL_end] at ht
          cases ht
          exact hk rfl
        have hp := tokL_pos hne ht
        rw [List.length_drop] at hp
        cases hr : allL (l.drop (skipN l + m)) (p + skipN l + m) with
        | error x =>
          rw [hr] at h
          cases h
          match n, hn with
          | 0, hn => omega
          | n + 1, hn =>
            have := allL_place n _ _ (by rw [List.length_drop]; omega) hr
            rw [List.length_drop] at this
            omega
        | ok r => rw [hr] at h; cases h
end Go.Proofs.Ytbiempopfmpohaa
namespace Go.Proofs.Ytbiempopfmpohaa
open Go.RowKit

theorem drop_byte (s : ByteArray) (p : Nat) (h : p < s.size) : (bl s).drop p = s[p] :: (bl s).drop (p + 1) := by
  rw [List.drop_eq_getElem_cons (by rw [bl_length]; exact h)]
  rfl
theorem drop_end (s : ByteArray) (p : Nat) (h : s.size ≤ p) : (bl s).drop p = [] := List.drop_of_length_le (by rw [bl_length]; exact h)
/-- A byte is a number, or another one. -/
theorem byte_is {c : UInt8} {n : Nat} (h : c = UInt8.ofNat n) (hn : n < 256) : (((c.toNat : Nat) : Int) == (n : Int)) = true ∧ (((c.toNat : Nat) : Int) != (n : Int)) = false := by
  subst h
  rw [UInt8.toNat_ofNat', Nat.mod_eq_of_lt hn]
  simp
theorem byte_no {c : UInt8} {n : Nat} (h : c ≠ UInt8.ofNat n) (_hn : n < 256) : (((c.toNat : Nat) : Int) == (n : Int)) = false ∧ (((c.toNat : Nat) : Int) != (n : Int)) = true := by
  have : c.toNat ≠ n := fun e => h (by rw [← e]; simp)
  constructor
  · simp; omega
  · simp; omega

/-- Of all bytes by trial. -/
theorem all_bytes {p : UInt8 → Prop} (h : ∀ n : Fin 256, p (UInt8.ofNat n.val)) (c : UInt8) : p c := by
  have := h ⟨c.toNat, UInt8.toNat_lt c⟩
  simpa using this
theorem letter_is (c : UInt8) : letterB c = ((decide (97 ≤ c.toNat) && decide (c.toNat ≤ 122)) || ((decide (65 ≤ c.toNat) && decide (c.toNat ≤ 90)) || decide (c.toNat = 95))) := by
  refine all_bytes (p := fun c => letterB c = ((decide (97 ≤ c.toNat) && decide (c.toNat ≤ 122)) || ((decide (65 ≤ c.toNat) && decide (c.toNat ≤ 90)) || decide (c.toNat = 95)))) ?_ c
  decide +kernel
/-- A digit in sixteens, below 0: none. -/
def hexI (c : UInt8) : Int := match hexN c with
  | some n => (n : Int)
  | none => -1
theorem hex_is (c : UInt8) : hexI c = if digitB c then (c.toNat : Int) - 48 else if 97 ≤ c.toNat ∧ c.toNat ≤ 102 then (c.toNat : Int) - 97 + 10 else -1 := by
  refine all_bytes (p := fun c => hexI c = if digitB c then (c.toNat : Int) - 48 else if 97 ≤ c.toNat ∧ c.toNat ≤ 102 then (c.toNat : Int) - 97 + 10 else -1) ?_ c
  decide +kernel
theorem digit_range {c : UInt8} (h : digitB c = true) : 48 ≤ c.toNat ∧ c.toNat ≤ 57 := by
  unfold digitB at h
  simp only [UInt8.le_iff_toNat_le, Bool.and_eq_true, decide_eq_true_eq] at h
  exact h
end Go.Proofs.Ytbiempopfmpohaa
namespace Go.Proofs.Ytbiempopfmpohaa
open Go.RowKit

theorem white_is (c : UInt8) : (bl { data := #[32, 10, 13, 9] }).contains c = whiteB c := by
  refine all_bytes (p := fun c => (bl { data := #[32, 10, 13, 9] }).contains c = whiteB c) ?_ c
  decide +kernel
theorem lineN_cons (c : UInt8) (r : List UInt8) : lineN (c :: r) = if c = 10 then 0 else lineN r + 1 := rfl

end Go.Proofs.Ytbiempopfmpohaa
namespace Go.Proofs.Ytbiempopfmpohaa
open Go.RowKit

/-- What one answers. -/
def oneV (l : List UInt8) (p : Nat) : Value := match oneL l with
  | .ok (b, n) => .tuple #[.int .u8 ((b.toNat : Nat) : Int), .int .i64 ((p + n : Nat) : Int), .int .i64 0]
  | .error e => .tuple #[.int .u8 0, .int .i64 ((p : Nat) : Int), .int .i64 ((e : Nat) : Int)]
theorem hexI_none {c : UInt8} (h : hexN c = none) : hexI c = -1 := by unfold hexI; rw [h]
theorem hexI_some {c : UInt8} {n : Nat} (h : hexN c = some n) : hexI c = (n : Int) := by unfold hexI; rw [h]
theorem hexN_lt (c : UInt8) : ∀ n, hexN c = some n → n < 16 := by
  refine all_bytes (p := fun c => ∀ n, hexN c = some n → n < 16) ?_ c
  intro k n h
  unfold hexN at h
  split at h
  · rename_i h1
    have := digit_range h1
    cases h
    omega
  · split at h
    · rename_i h1
      simp only [UInt8.le_iff_toNat_le, Bool.and_eq_true, decide_eq_true_eq] at h1
      have h2 : (UInt8.ofNat k.val).toNat ≤ 102 := h1.2
      cases h
      omega
    · cases h

end Go.Proofs.Ytbiempopfmpohaa
namespace Go.Proofs.Ytbiempopfmpohaa
open Go.RowKit

/-- A token's cells. -/
abbrev tokCells (t : Tk) (a : Int) : Array Value := #[.int .i64 ((t.kind : Nat) : Int), .string (mkS t.text), .int .u64 ((wd t.set 0 : Nat) : Int), .int .u64 ((wd t.set 1 : Nat) : Int), .int .u64 ((wd t.set 2 : Nat) : Int), .int .u64 ((wd t.set 3 : Nat) : Int), .int .i64 ((t.num : Nat) : Int), .int .i64 a]
abbrev tokV (t : Tk) (a : Int) : Value := .agg (tokCells t a)
/-- Are two tokens the same? -/
def tkEq (t : Tk) (a : Int) (u : Tk) (b : Int) : Bool := decide (t.kind = u.kind) && (decide (t.text = u.text) && (eqs t.set u.set && (decide (t.num = u.num) && decide (a = b))))
theorem tkEq_of {t u : Tk} {a b : Int} (h1 : t.kind = u.kind) (h2 : t.text = u.text) (h3 : ∀ i, i < 256 → t.set i = u.set i) (h4 : t.num = u.num) (h5 : a = b) : tkEq t a u b = true := by
  unfold tkEq
  rw [decide_eq_true h1, decide_eq_true h2, (eqs_iff _ _).2 h3, decide_eq_true h4, decide_eq_true h5]
  rfl
theorem tkEq_self (t : Tk) (a : Int) : tkEq t a t a = true := tkEq_of rfl rfl (fun _ _ => rfl) rfl rfl

theorem tok_fields : (Try.prog.fieldsOf 65).toList = [{ name := "Kind", type := 3, offset := 0, embedded := false, tag := "", pkgPath := "", byteOffset := 0 }, { name := "Text", type := 9, offset := 1, embedded := false, tag := "", pkgPath := "", byteOffset := 8 }, { name := "Set", type := 24, offset := 2, embedded := false, tag := "", pkgPath := "", byteOffset := 24 }, { name := "Number", type := 3, offset := 6, embedded := false, tag := "", pkgPath := "", byteOffset := 56 }, { name := "At", type := 3, offset := 7, embedded := false, tag := "", pkgPath := "", byteOffset := 64 }] := by kernel_rfl
theorem tok_under : Try.prog.underlying 65 = some (.struct (Try.prog.fieldsOf 65)) := by kernel_rfl
theorem tok_stood : Try.prog.stoodInHeld 65 = false := by kernel_rfl
theorem eq_num_at (d : Nat) (x y : Nat) (w : World) : (Op.equalIn (d + 1) 3 (.int .i64 ((x : Nat) : Int)) (.int .i64 ((y : Nat) : Int))).run Try.prog w = .ok (decide (x = y)) w := by
  rw [run_equalIn_int w d 3 .i64 .i64 _ _ Try.underlying3]
  congr 1
  rw [Bool.eq_iff_iff, beq_iff_eq, decide_eq_true_iff]; omega
theorem eq_int_at (d : Nat) (x y : Int) (w : World) : (Op.equalIn (d + 1) 3 (.int .i64 x) (.int .i64 y)).run Try.prog w = .ok (decide (x = y)) w := by
  rw [run_equalIn_int w d 3 .i64 .i64 _ _ Try.underlying3]
  congr 1
theorem eq_text_at (d : Nat) (x y : List UInt8) (w : World) : (Op.equalIn (d + 1) 9 (.string (mkS x)) (.string (mkS y))).run Try.prog w = .ok (decide (x = y)) w := by
  rw [run_equalIn_string w d 9 _ _ Try.underlying9, eq_bl, bl_mkS, bl_mkS]
theorem eqf_cons {P : Program} {d : Nat} {xs ys : Array Value} {f : Field} {fs : List Field} {va vb : Value} {r : Bool} {w : World} (hn : f.name ≠ "_") (hp : (part f.type xs f.offset).run P w = .ok va w) (hq : (part f.type ys f.offset).run P w = .ok vb w) (he : (Op.equalIn d f.type va vb).run P w = .ok r w) :
    (Op.eqFields d xs ys (f :: fs)).run P w = if r then (Op.eqFields d xs ys fs).run P w else .ok false w := by
  rw [Op.eqFields, if_pos hn]
  simp only [Sem.run_bind, hp, hq, he, Result.andThen_ok]
  cases r <;> rfl
set_option maxRecDepth 100000 in
set_option maxHeartbeats 2000000 in
theorem eq_tok (t u : Tk) (a b : Int) (w : World) : (Op.equalIn 10000 65 (tokV t a) (tokV u b)).run Try.prog w = .ok (tkEq t a u b) w := by
  have p0 : ∀ (t : Tk) (a : Int), (part 3 (tokCells t a) 0).run Try.prog w = .ok (.int .i64 ((t.kind : Nat) : Int)) w := fun t a => by kernel_rfl
  have p1 : ∀ (t : Tk) (a : Int), (part 9 (tokCells t a) 1).run Try.prog w = .ok (.string (mkS t.text)) w := fun t a => by kernel_rfl
  have p2 : ∀ (t : Tk) (a : Int), (part 24 (tokCells t a) 2).run Try.prog w = .ok (sv t.set) w := fun t a => by kernel_rfl
  have p3 : ∀ (t : Tk) (a : Int), (part 3 (tokCells t a) 6).run Try.prog w = .ok (.int .i64 ((t.num : Nat) : Int)) w := fun t a => by kernel_rfl
  have p4 : ∀ (t : Tk) (a : Int), (part 3 (tokCells t a) 7).run Try.prog w = .ok (.int .i64 a) w := fun t a => by kernel_rfl
  rw [show (10000 : Nat) = 9999 + 1 from rfl, run_equalIn_struct w 9999 65 _ _ tok_under tok_stood, tok_fields]
  have e0 : (Op.equalIn 9999 3 (.int .i64 ((t.kind : Nat) : Int)) (.int .i64 ((u.kind : Nat) : Int))).run Try.prog w = .ok (decide (t.kind = u.kind)) w := eq_num_at 9998 t.kind u.kind w
  have e1 : (Op.equalIn 9999 9 (.string (mkS t.text)) (.string (mkS u.text))).run Try.prog w = .ok (decide (t.text = u.text)) w := eq_text_at 9998 t.text u.text w
  have e2 : (Op.equalIn 9999 24 (sv t.set) (sv u.set)).run Try.prog w = .ok (eqs t.set u.set) w := eq_sets_at 9997 t.set u.set w
  have e3 : (Op.equalIn 9999 3 (.int .i64 ((t.num : Nat) : Int)) (.int .i64 ((u.num : Nat) : Int))).run Try.prog w = .ok (decide (t.num = u.num)) w := eq_num_at 9998 t.num u.num w
  have e4 : (Op.equalIn 9999 3 (.int .i64 a) (.int .i64 b)).run Try.prog w = .ok (decide (a = b)) w := eq_int_at 9998 a b w
  have s0 := eqf_cons (P := Try.prog) (d := 9999) (xs := tokCells t a) (ys := tokCells u b) (f := { name := "Kind", type := 3, offset := 0, embedded := false, tag := "", pkgPath := "", byteOffset := 0 }) (fs := [{ name := "Text", type := 9, offset := 1, embedded := false, tag := "", pkgPath := "", byteOffset := 8 }, { name := "Set", type := 24, offset := 2, embedded := false, tag := "", pkgPath := "", byteOffset := 24 }, { name := "Number", type := 3, offset := 6, embedded := false, tag := "", pkgPath := "", byteOffset := 56 }, { name := "At", type := 3, offset := 7, embedded := false, tag := "", pkgPath := "", byteOffset := 64 }]) (va := .int .i64 ((t.kind : Nat) : Int)) (vb := .int .i64 ((u.kind : Nat) : Int)) (r := decide (t.kind = u.kind)) (w := w) (by decide) (p0 t a) (p0 u b) e0
  have s1 := eqf_cons (P := Try.prog) (d := 9999) (xs := tokCells t a) (ys := tokCells u b) (f := { name := "Text", type := 9, offset := 1, embedded := false, tag := "", pkgPath := "", byteOffset := 8 }) (fs := [{ name := "Set", type := 24, offset := 2, embedded := false, tag := "", pkgPath := "", byteOffset := 24 }, { name := "Number", type := 3, offset := 6, embedded := false, tag := "", pkgPath := "", byteOffset := 56 }, { name := "At", type := 3, offset := 7, embedded := false, tag := "", pkgPath := "", byteOffset := 64 }]) (va := .string (mkS t.text)) (vb := .string (mkS u.text)) (r := decide (t.text = u.text)) (w := w) (by decide) (p1 t a) (p1 u b) e1
  have s2 := eqf_cons (P := Try.prog) (d := 9999) (xs := tokCells t a) (ys := tokCells u b) (f := { name := "Set", type := 24, offset := 2, embedded := false, tag := "", pkgPath := "", byteOffset := 24 }) (fs := [{ name := "Number", type := 3, offset := 6, embedded := false, tag := "", pkgPath := "", byteOffset := 56 }, { name := "At", type := 3, offset := 7, embedded := false, tag := "", pkgPath := "", byteOffset := 64 }]) (va := sv t.set) (vb := sv u.set) (r := eqs t.set u.set) (w := w) (by decide) (p2 t a) (p2 u b) e2
  have s3 := eqf_cons (P := Try.prog) (d := 9999) (xs := tokCells t a) (ys := tokCells u b) (f := { name := "Number", type := 3, offset := 6, embedded := false, tag := "", pkgPath := "", byteOffset := 56 }) (fs := [{ name := "At", type := 3, offset := 7, embedded := false, tag := "", pkgPath := "", byteOffset := 64 }]) (va := .int .i64 ((t.num : Nat) : Int)) (vb := .int .i64 ((u.num : Nat) : Int)) (r := decide (t.num = u.num)) (w := w) (by decide) (p3 t a) (p3 u b) e3
  have s4 := eqf_cons (P := Try.prog) (d := 9999) (xs := tokCells t a) (ys := tokCells u b) (f := { name := "At", type := 3, offset := 7, embedded := false, tag := "", pkgPath := "", byteOffset := 64 }) (fs := []) (va := .int .i64 a) (vb := .int .i64 b) (r := decide (a = b)) (w := w) (by decide) (p4 t a) (p4 u b) e4
  rw [s0, s1, s2, s3, s4]
  unfold tkEq
  cases decide (t.kind = u.kind) <;> cases decide (t.text = u.text) <;> cases eqs t.set u.set <;> cases decide (t.num = u.num) <;> cases decide (a = b) <;> rfl

/-- Eight cells of a token that lies in a slice. -/
def K8At (W : World) (g o : Nat) (t : Tk) (a : Int) : Prop :=
  W.cell? ⟨g, o, none⟩ = some (.int .i64 ((t.kind : Nat) : Int)) ∧ W.cell? ⟨g, o + 1, none⟩ = some (.string (mkS t.text)) ∧ W.cell? ⟨g, o + 2, none⟩ = some (.int .u64 ((wd t.set 0 : Nat) : Int)) ∧ W.cell? ⟨g, o + 3, none⟩ = some (.int .u64 ((wd t.set 1 : Nat) : Int)) ∧ W.cell? ⟨g, o + 4, none⟩ = some (.int .u64 ((wd t.set 2 : Nat) : Int)) ∧ W.cell? ⟨g, o + 5, none⟩ = some (.int .u64 ((wd t.set 3 : Nat) : Int)) ∧ W.cell? ⟨g, o + 6, none⟩ = some (.int .i64 ((t.num : Nat) : Int)) ∧ W.cell? ⟨g, o + 7, none⟩ = some (.int .i64 a)
theorem K8At.below {W W' : World} {g o n : Nat} {t : Tk} {a : Int} (h : K8At W g o t a) (hb : Below n W W') (hg : g < n) : K8At W' g o t a := by
  obtain ⟨h0, h1, h2, h3, h4, h5, h6, h7⟩ := h
  exact ⟨(hb.cell (p := ⟨g, _, none⟩) hg).trans h0, (hb.cell (p := ⟨g, _, none⟩) hg).trans h1, (hb.cell (p := ⟨g, _, none⟩) hg).trans h2, (hb.cell (p := ⟨g, _, none⟩) hg).trans h3, (hb.cell (p := ⟨g, _, none⟩) hg).trans h4, (hb.cell (p := ⟨g, _, none⟩) hg).trans h5, (hb.cell (p := ⟨g, _, none⟩) hg).trans h6, (hb.cell (p := ⟨g, _, none⟩) hg).trans h7⟩
/-- From the address on lie these tokens, in a block below the bound. -/
def KAt (W : World) (ao : Option Addr) (L : List (Tk × Nat)) (bd : Nat) : Prop :=
  0 < L.length → ∃ g off, ao = some ⟨g, off, none⟩ ∧ g < bd ∧ ∀ i, i < L.length → K8At W g (off + i * 8) (L.getD i (Tk.none, 0)).1 (((L.getD i (Tk.none, 0)).2 : Nat) : Int)
theorem KAt.below {W W' : World} {ao : Option Addr} {L : List (Tk × Nat)} {bd n : Nat} (h : KAt W ao L bd) (hb : Below n W W') (hn : bd ≤ n) : KAt W' ao L bd := by
  intro hp
  obtain ⟨g, off, hg, hlt, hc⟩ := h hp
  exact ⟨g, off, hg, hlt, fun i hi => (hc i hi).below hb (by omega)⟩
theorem KAt.mono {W : World} {ao : Option Addr} {L : List (Tk × Nat)} {bd n : Nat} (h : KAt W ao L bd) (hn : bd ≤ n) : KAt W ao L n := by
  intro hp
  obtain ⟨g, off, hg, hlt, hc⟩ := h hp
  exact ⟨g, off, hg, by omega, hc⟩
theorem KAt.hid {w : World} {ao : Option Addr} {L : List (Tk × Nat)} {len : Nat} (hl : L.length = len) (h : KAt w ao L w.heap.size) :
    Hid (0 < len → ∃ g off, ao = some ⟨g, off, none⟩ ∧ g < w.heap.size ∧ ∀ i, i < len → ∀ W : World, Below w.heap.size w W → K8At W g (off + i * 8) (L.getD i (Tk.none, 0)).1 (((L.getD i (Tk.none, 0)).2 : Nat) : Int)) :=
  Lib.hid fun hp => by
    obtain ⟨g, off, rfl, hg, hc⟩ := h (by omega)
    exact ⟨g, off, rfl, hg, fun i hi W hb => (hc i (by omega)).below hb hg⟩
/-- What Next answers. -/
def nextV (l : List UInt8) (p : Nat) : Value := match tokL (l.drop (p + skipN (l.drop p))) with
  | .error e => .tuple #[tokV Tk.none 0, .int .i64 ((p + skipN (l.drop p) : Nat) : Int), .int .i64 ((e : Nat) : Int)]
  | .ok (t, n) => .tuple #[tokV t ((p + skipN (l.drop p) : Nat) : Int), .int .i64 ((p + skipN (l.drop p) + n : Nat) : Int), .int .i64 0]
/-- What All answers. -/
def AllA (l : List UInt8) (w : World) (e : Ending) (w' : World) : Prop := match allL l 0 with
  | .error x => (∃ so sc, e = .returned (.tuple #[.slice so 0 sc, .int .i64 ((x.2 : Nat) : Int), .int .i64 ((x.1 : Nat) : Int)])) ∧ Below w.heap.size w w'
  | .ok A => ∃ ao cap, e = .returned (.tuple #[.slice ao A.length cap, .int .i64 ((l.length : Nat) : Int), .int .i64 0]) ∧ A.length ≤ cap ∧ KAt w' ao A w'.heap.size ∧ Below w.heap.size w w'
theorem AllA.ok {l : List UInt8} {A : List (Tk × Nat)} (h : allL l 0 = .ok A) {w w' : World} {e : Ending} (ha : AllA l w e w') : ∃ ao cap, e = .returned (.tuple #[.slice ao A.length cap, .int .i64 ((l.length : Nat) : Int), .int .i64 0]) ∧ A.length ≤ cap ∧ KAt w' ao A w'.heap.size ∧ Below w.heap.size w w' := by
  unfold AllA at ha
  rw [h] at ha
  exact ha
theorem AllA.err {l : List UInt8} {er q : Nat} (h : allL l 0 = .error (er, q)) {w w' : World} {e : Ending} (ha : AllA l w e w') : (∃ so sc, e = .returned (.tuple #[.slice so 0 sc, .int .i64 ((q : Nat) : Int), .int .i64 ((er : Nat) : Int)])) ∧ Below w.heap.size w w' := by
  unfold AllA at ha
  rw [h] at ha
  exact ha
end Go.Proofs.Ytbiempopfmpohaa
namespace Go.Proofs.Ytbiempopfmpohaa
open Go.RowKit

theorem size_tok : (Try.prog.info? 65).map (·.size) = some 8 := by kernel_rfl
/-- A token stored into a block of its own: what has become of the world. -/
theorem wp_tok {ops : Array Oper} {rest : List Oper} {op : Oper} {a : Act} {w : World} {Q : Exit → Act → World → Prop} (hg : op.guard = none) (x y : Operand) (ho : op.op = .store 65 x y) (B : Nat) (t : Tk) (v : Int) (cs : Array Value)
    (hx : a.eval x = .pointer (some ⟨B, 0, none⟩)) (hy : a.eval y = .agg (tokCells t v)) (hK : Blk w B 65 cs) (h8 : cs.size = 8)
    (h : ∀ w', Blk w' B 65 (tokCells t v) → (∀ (W0 : World) (n : Nat), n ≤ B → Below n W0 w → Below n W0 w') → wpList Try.prog ops Q rest (a.put op.dst undef) w') : wpList Try.prog ops Q (op :: rest) a w := by
  refine wpList_store_row hg 65 x y ho B (tokCells t v) hx hy 65 cs hK (by rw [size_tok]; rfl) (by rw [h8]; rfl) (by simp [Value.oneCell']) (h _ (setRow_heap _ _ _ _ _ _ hK) fun W0 n hn hb => ?_)
  refine ⟨hb.os, hb.tape, hb.output, by simpa [World.setRow] using hb.size, fun k hk => ?_⟩
  rw [← hb.block k hk]
  simp [World.setRow, Array.getElem?_modify, show B ≠ k by omega]
theorem tok8 {W : World} {B : Nat} {t : Tk} {a : Int} (h : Blk W B 65 (tokCells t a)) : W.cell? ⟨B, 0, none⟩ = some (.int .i64 ((t.kind : Nat) : Int)) ∧ W.cell? ⟨B, 1, none⟩ = some (.string (mkS t.text)) ∧ W.cell? ⟨B, 2, none⟩ = some (.int .u64 ((wd t.set 0 : Nat) : Int)) ∧ W.cell? ⟨B, 3, none⟩ = some (.int .u64 ((wd t.set 1 : Nat) : Int)) ∧ W.cell? ⟨B, 4, none⟩ = some (.int .u64 ((wd t.set 2 : Nat) : Int)) ∧ W.cell? ⟨B, 5, none⟩ = some (.int .u64 ((wd t.set 3 : Nat) : Int)) ∧ W.cell? ⟨B, 6, none⟩ = some (.int .i64 ((t.num : Nat) : Int)) ∧ W.cell? ⟨B, 7, none⟩ = some (.int .i64 a) :=
  ⟨h.cell 0, h.cell 1, h.cell 2, h.cell 3, h.cell 4, h.cell 5, h.cell 6, h.cell 7⟩
theorem none_cells : tokCells Tk.none 0 = #[.int .i64 0, .string { data := #[] }, .int .u64 0, .int .u64 0, .int .u64 0, .int .u64 0, .int .i64 0, .int .i64 0] := by
  have e : ∀ k, wd (fun _ : Nat => false) k = 0 := fun k => Nat.eq_of_testBit_eq fun j => by rw [wd_testBit]; simp
  simp [tokCells, Tk.none, e, mkS]
/-- How many stand ahead of the first one that is none. -/
theorem take_step (f : UInt8 → Bool) (s : ByteArray) (q : Nat) (h : q < s.size) : (((bl s).drop q).takeWhile f).length = if f (s[q]'h) then (((bl s).drop (q + 1)).takeWhile f).length + 1 else 0 := by
  rw [drop_byte s q h, List.takeWhile_cons]
  split <;> rfl
theorem take_is (f : UInt8 → Bool) (s : ByteArray) (p n : Nat) (h : (((bl s).drop p).takeWhile f).length = n) : ((bl s).drop p).takeWhile f = ((bl s).drop p).take n := by
  rw [← h]
  exact (List.prefix_iff_eq_take.1 (List.takeWhile_prefix f))
theorem extract_is (s : ByteArray) (p n : Nat) : s.extract p (p + n) = mkS (((bl s).drop p).take n) := by
  apply bl_inj
  rw [bl_mkS]
  show (s.extract p (p + n)).data.toList = _
  rw [ByteArray.data_extract]
  simp [bl]
theorem zero_set (k : Nat) : wd (fun _ : Nat => false) k = 0 := Nat.eq_of_testBit_eq fun j => by rw [wd_testBit]; simp
theorem name_cells (T : List UInt8) (a : Int) : tokCells { Tk.none with kind := 1, text := T } a = #[.int .i64 1, .string (mkS T), .int .u64 0, .int .u64 0, .int .u64 0, .int .u64 0, .int .i64 0, .int .i64 a] := by
  simp [tokCells, Tk.none, zero_set]
theorem number_cells (m : Nat) (a : Int) : tokCells { Tk.none with kind := 5, num := m } a = #[.int .i64 5, .string { data := #[] }, .int .u64 0, .int .u64 0, .int .u64 0, .int .u64 0, .int .i64 ((m : Nat) : Int), .int .i64 a] := by
  simp [tokCells, Tk.none, zero_set, mkS]
/-- What word answers. -/
def wordV (l : List UInt8) (p : Nat) : Value := match tokL l with
  | .error e => .tuple #[tokV Tk.none 0, .int .i64 ((p : Nat) : Int), .int .i64 ((e : Nat) : Int)]
  | .ok (t, n) => .tuple #[tokV t ((p : Nat) : Int), .int .i64 ((p + n : Nat) : Int), .int .i64 0]

theorem letter_nots {c : UInt8} (h : letterB c = true) : c ≠ 34 ∧ c ≠ 91 := by
  constructor
  · rintro rfl; exact absurd h (by decide)
  · rintro rfl; exact absurd h (by decide)
theorem word_name (s : ByteArray) (p : Nat) (hp : p < s.size) (hc : letterB (s[p]'hp) = true) (n : Nat) (hn : (((bl s).drop p).takeWhile fun x => digitB x || letterB x).length = n) :
    wordV ((bl s).drop p) p = if 31 < n then .tuple #[tokV Tk.none 0, .int .i64 ((p : Nat) : Int), .int .i64 2] else .tuple #[tokV { Tk.none with kind := 1, text := ((bl s).drop p).take n } ((p : Nat) : Int), .int .i64 ((p + n : Nat) : Int), .int .i64 0] := by
  have h1 : tokL ((bl s).drop p) = if 31 < n then .error 2 else .ok ({ Tk.none with kind := 1, text := ((bl s).drop p).take n }, n) := by
    have ht := take_is _ s p n hn
    have hn2 : (((bl s).drop p).take n).length = n := by rw [← ht]; exact hn
    rw [drop_byte s p hp] at ht hn2 ⊢
    obtain ⟨n1, n2⟩ := letter_nots hc
    unfold tokL
    simp only [if_neg n1, if_neg n2, hc, if_true, ht, hn2]
  unfold wordV
  rw [h1]
  split <;> rename_i h <;> split at h <;> cases h <;> rename_i h2
  · rw [if_pos h2]; rfl
  · rw [if_neg h2]

end Go.Proofs.Ytbiempopfmpohaa
