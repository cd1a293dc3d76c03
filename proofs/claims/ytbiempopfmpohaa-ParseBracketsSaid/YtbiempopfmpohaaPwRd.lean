/-
The reader: what it holds, and how it looks at the first token. Conditions: none but those that each names.
The reader takes tokens: take, takes, must, number; what is wrong ends it. Conditions: none but those that each names.
The reader takes tokens if they are what they should be: takes, must, number; what is wrong ends it. Conditions: none but those that each names.
-/
import Derived.Test.YtbiempopfmpohaaPwFront
namespace Go.Proofs.Ytbiempopfmpohaa
open Go.RowKit

/-- How an atom without parts is read, by its front. -/
def plainF (f : Nat × List UInt8) : Value :=
  if f = (2, []) then .func (.func 41) #[] #[]
  else if f = (3, []) then .func (.func 42) #[] #[]
  else if f = (1, []) then .func (.func 43) #[] #[]
  else if f = (4, [46]) then .func (.func 44) #[] #[]
  else .nilFunc
/-- The map of these lies in block m. -/
def PM (W : World) (m : Nat) : Prop := ∃ es clk, W.heap[m]? = some (.map es clk) ∧ ∀ W' : World, W'.heap[m]? = some (.map es clk) → ∀ f, (Instr.lookup 66 (.map (some m)) (frV f) false).run Try.prog W' = .ok (plainF f) W'
theorem PM.below {W W' : World} {m n : Nat} (h : PM W m) (hb : Below n W W') (hm : m < n) : PM W' m := by
  obtain ⟨es, clk, h1, h2⟩ := h
  exact ⟨es, clk, (hb.block m hm).trans h1, h2⟩
theorem PM.run {W : World} {m : Nat} (h : PM W m) (f : Nat × List UInt8) : (Instr.lookup 66 (.map (some m)) (frV f) false).run Try.prog W = .ok (plainF f) W := by
  obtain ⟨es, clk, h1, h2⟩ := h
  exact h2 W h1 f
abbrev rdC (g o n c d m : Nat) : Array Value := #[.slice (some ⟨g, o, none⟩) n c, .int .i64 ((d : Nat) : Int), .map (some m)]
/-- The reader in block B: these tokens are still to be taken, so deep it stands. -/
def Rd (W : World) (B : Nat) (L : List (Tk × Nat)) (d : Nat) : Prop :=
  ∃ g o c m, Blk W B 69 (rdC g o L.length c d m) ∧ g < B ∧ m < B ∧ L.length ≤ c ∧ c ≤ maxLen ∧ KRow W g o L ∧ PM W m
theorem Rd.lt {W : World} {B d : Nat} {L : List (Tk × Nat)} (h : Rd W B L d) : B < W.heap.size := by
  obtain ⟨g, o, c, m, h1, _⟩ := h
  exact h1.lt
theorem Rd.below {W W' : World} {B d n : Nat} {L : List (Tk × Nat)} (h : Rd W B L d) (hb : Below n W W') (hn : B < n) : Rd W' B L d := by
  obtain ⟨g, o, c, m, h1, h2, h3, h4, h5, h6, h7⟩ := h
  exact ⟨g, o, c, m, h1.below hb hn, h2, h3, h4, h5, h6.below hb (by omega), h7.below hb (by omega)⟩
theorem Rd.alloc {W : World} {B d : Nat} {L : List (Tk × Nat)} (h : Rd W B L d) (ob : Obj) : Rd (W.alloc ob) B L d := h.below (bal0 W ob) h.lt
theorem Rd.own {W W' : World} {B B' d : Nat} {L : List (Tk × Nat)} (h : Rd W B L d) (hb : Btt B' W W') (hB : B < B') : Rd W' B L d := h.below (n := B + 1) (hb.low (by omega) (Nat.succ_le_of_lt h.lt)) (Nat.lt_succ_self _)

set_option maxRecDepth 100000 in
set_option maxHeartbeats 1000000 in
theorem pfront_any (B d : Nat) (t : Tk) (p : Nat) (L : List (Tk × Nat)) (w : World) (hR : Rd w B ((t, p) :: L) d) :
    Calls Try.prog 39 #[.pointer (some ⟨B, 0, none⟩)] w fun e w' => e = .returned (frV (frF t)) ∧ Below w.heap.size w w' := by
  have hlt := hR.lt
  have hA := hR.alloc (.cells #[.int .i64 0, .string { data := #[] }] 72)
  have hF := Blk.new w 72 #[.int .i64 0, .string { data := #[] }]
  have hB0 := bal0 w (.cells #[.int .i64 0, .string { data := #[] }] 72)
  obtain ⟨g, o, c, m, h1, h2, h3, h4, h5, h6, h7⟩ := hA
  obtain ⟨⟨k0, k1, k2, k3, k4, k5, k6, k7⟩, -⟩ := h6
  have r0 := h1.cell 0
  simp only [List.getElem?_toArray, List.getElem?_cons_zero, List.length_cons] at r0
  have hl0 : (0 : Int) < ((L.length + 1 : Nat) : Int) := by omega
  generalize L.length + 1 = n at *
  have HF := Lib.hid (fun W => pfrontof_any t ((p : Nat) : Int) W)
  obtain ⟨w1, hw1⟩ : ∃ w1, w.alloc (.cells #[.int .i64 0, .string { data := #[] }] 72) = w1 := ⟨_, rfl⟩
  rw [hw1] at hF hB0 k0 k1 k2 k3 k4 k5 k6 k7 r0
  clear h1 h7 hR
  go_enter Try.func39, Try.ntmps39
  go_wp2_with fail
  refine (HF.out _).mono ?_
  rintro e w2 ⟨rfl, hb2⟩
  have hF2 := hF.below hb2 hF.lt
  have hB2 := btr hB0 hb2
  go_wp2_with (first | (refine wp_put rfl _ _ _ rfl w.heap.size _ (frCells (frF t)) rfl rfl hF2 (by rw [size_front]; rfl) rfl (by simp [Value.oneCell']) ?_; intro w3 hF3 hb3) | fail)
  refine ret_blk _ _ _ _ _ rfl rfl rfl hF3 Try.underlying72 rfl (by rw [size_front]; rfl) ?_
  exact ⟨rfl, hB2.trans (hb3.low (Nat.le_refl _) hB2.size)⟩

/-- Two fronts by Go's ==. -/
theorem front_fields : (Try.prog.fieldsOf 72).toList = [{ name := "kind", type := 3, offset := 0, embedded := false, tag := "", pkgPath := "whittle/parse", byteOffset := 0 }, { name := "text", type := 9, offset := 1, embedded := false, tag := "", pkgPath := "whittle/parse", byteOffset := 8 }] := by kernel_rfl
theorem front_under : Try.prog.underlying 72 = some (.struct (Try.prog.fieldsOf 72)) := by kernel_rfl
theorem front_stood : Try.prog.stoodInHeld 72 = false := by kernel_rfl
theorem eq_front (k l : Int) (x y : ByteArray) (w : World) : (Op.equalIn 10000 72 (.agg #[.int .i64 k, .string x]) (.agg #[.int .i64 l, .string y])).run Try.prog w = .ok (decide (k = l) && decide (bl x = bl y)) w := by
  have p0 : ∀ (k : Int) (x : ByteArray), (part 3 #[.int .i64 k, .string x] 0).run Try.prog w = .ok (.int .i64 k) w := fun _ _ => by kernel_rfl
  have p1 : ∀ (k : Int) (x : ByteArray), (part 9 #[.int .i64 k, .string x] 1).run Try.prog w = .ok (.string x) w := fun _ _ => by kernel_rfl
  rw [show (10000 : Nat) = 9999 + 1 from rfl, run_equalIn_struct w 9999 72 _ _ front_under front_stood, front_fields]
  have e0 : (Op.equalIn 9999 3 (.int .i64 k) (.int .i64 l)).run Try.prog w = .ok (decide (k = l)) w := eq_int_at 9998 k l w
  have e1 : (Op.equalIn 9999 9 (.string x) (.string y)).run Try.prog w = .ok (decide (bl x = bl y)) w := by
    have := eq_text_at 9998 (bl x) (bl y) w
    rwa [show mkS (bl x) = x from bl_inj (bl_mkS _), show mkS (bl y) = y from bl_inj (bl_mkS _)] at this
  have s0 := eqf_cons (P := Try.prog) (d := 9999) (xs := #[.int .i64 k, .string x]) (ys := #[.int .i64 l, .string y]) (f := { name := "kind", type := 3, offset := 0, embedded := false, tag := "", pkgPath := "whittle/parse", byteOffset := 0 }) (fs := [{ name := "text", type := 9, offset := 1, embedded := false, tag := "", pkgPath := "whittle/parse", byteOffset := 8 }]) (va := .int .i64 k) (vb := .int .i64 l) (r := decide (k = l)) (w := w) (by decide) (p0 k x) (p0 l y) e0
  have s1 := eqf_cons (P := Try.prog) (d := 9999) (xs := #[.int .i64 k, .string x]) (ys := #[.int .i64 l, .string y]) (f := { name := "text", type := 9, offset := 1, embedded := false, tag := "", pkgPath := "whittle/parse", byteOffset := 8 }) (fs := []) (va := .string x) (vb := .string y) (r := decide (bl x = bl y)) (w := w) (by decide) (p1 k x) (p1 l y) e1
  rw [s0, s1]
  cases decide (k = l) <;> cases decide (bl x = bl y) <;> rfl
set_option maxRecDepth 100000 in
set_option maxHeartbeats 1000000 in
theorem pat_any (B d : Nat) (t : Tk) (p : Nat) (L : List (Tk × Nat)) (k : Nat) (s : ByteArray) (w : World) (hR : Rd w B ((t, p) :: L) d) :
    Calls Try.prog 37 #[.pointer (some ⟨B, 0, none⟩), .agg #[.int .i64 ((k : Nat) : Int), .string s]] w fun e w' => e = .returned (.bool (decide (frF t = (k, bl s)))) ∧ Below w.heap.size w w' := by
  have hlt := hR.lt
  have hA := hR.alloc (.cells #[.int .i64 ((k : Nat) : Int), .string s] 72)
  have hF := Blk.new w 72 #[.int .i64 ((k : Nat) : Int), .string s]
  have hB0 := bal0 w (.cells #[.int .i64 ((k : Nat) : Int), .string s] 72)
  obtain ⟨w1, hw1⟩ : ∃ w1, w.alloc (.cells #[.int .i64 ((k : Nat) : Int), .string s] 72) = w1 := ⟨_, rfl⟩
  rw [hw1] at hF hB0 hA
  have HF := Lib.hid (fun W h => pfront_any B d t p L W h)
  have q0 : ∀ q : Past w1, q.w.cell? ⟨w.heap.size, 0, none⟩ = some (.int .i64 ((k : Nat) : Int)) := fun q => (hF.below q.h hF.lt).cell 0
  have q1 : ∀ q : Past w1, q.w.cell? ⟨w.heap.size, 1, none⟩ = some (.string s) := fun q => (hF.below q.h hF.lt).cell 1
  have hq : ∀ q : Past w1, Rd q.w B ((t, p) :: L) d := fun q => hA.below q.h hA.lt
  have HV := Lib.hid (show (decide (((frF t).1 : Int) = ((k : Nat) : Int)) && decide (bl (mkS (frF t).2) = bl s)) = decide (frF t = (k, bl s)) by
    rw [bl_mkS, Bool.eq_iff_iff]
    cases frF t
    simp only [Bool.and_eq_true, decide_eq_true_eq, Prod.mk.injEq]
    constructor <;> rintro ⟨h1, h2⟩ <;> exact ⟨by omega, h2⟩)
  have he : ∀ W : World, (Op.equalIn 10000 72 (frV (frF t)) (.agg #[.int .i64 ((k : Nat) : Int), .string s])).run Try.prog W = .ok (decide (frF t = (k, bl s))) W := fun W => by
    rw [← HV.out]
    exact eq_front _ _ _ _ W
  generalize decide (frF t = (k, bl s)) = v at *
  generalize frF t = f at *
  clear hF hA hR HV
  go_enter Try.func37, Try.ntmps37
  go_wp2_with fail
  refine wp_region_past (w0 := w1) (by kernel_rfl) (by kernel_rfl) (Below.refl _ _) ?_
  repeat (go_big_quiet_step (first | exact Calls.past (HF.out _ (hq _))))
  refine wpQuiet_nil ?_
  intro q
  have hb := btr hB0 q.h
  go_wp2
  go_ret
  exact ⟨rfl, hb⟩
end Go.Proofs.Ytbiempopfmpohaa
namespace Go.Proofs.Ytbiempopfmpohaa
open Go.RowKit

theorem Rd.set {W : World} {B d g o n c m : Nat} {t : Tk} {p : Nat} {L : List (Tk × Nat)} (hb : Blk W B 69 (rdC g o n c d m)) (hg : g < B) (hm : m < B) (hn : L.length + 1 = n) (hc : n ≤ c) (hcm : c ≤ maxLen) (hK : KRow W g o ((t, p) :: L)) (hP : PM W m)
    (o' : Nat) (ho : o' = o + 8 ∨ L = []) (v : Value) (hv : v = .slice (some ⟨g, o', none⟩) (n - 1) (c - 1)) : Rd (W.setCell ⟨B, 0, none⟩ v) B L d := by
  subst hv
  have hB : Below B W (W.setCell ⟨B, 0, none⟩ (.slice (some ⟨g, o', none⟩) (n - 1) (c - 1))) := (Below.refl _ _).setCell (p := ⟨B, 0, none⟩) (Nat.le_refl _) _
  have h1 := hb.set 0 (.slice (some ⟨g, o', none⟩) (n - 1) (c - 1))
  have hL : L.length = n - 1 := by omega
  refine ⟨g, o', c - 1, m, ?_, hg, hm, by omega, by omega, ?_, hP.below hB hm⟩
  · rw [hL]; exact h1
  · rcases ho with rfl | rfl
    · exact KRow.below hB hg hK.2
    · exact trivial

set_option maxRecDepth 100000 in
set_option maxHeartbeats 1000000 in
theorem ptake_any (B d : Nat) (t : Tk) (p : Nat) (L : List (Tk × Nat)) (w : World) (hR : Rd w B ((t, p) :: L) d) :
    Calls Try.prog 45 #[.pointer (some ⟨B, 0, none⟩)] w fun e w' => e = .returned (tokV t ((p : Nat) : Int)) ∧ Btt B w w' ∧ Rd w' B L d := by
  have hlt := hR.lt
  have hA := hR.alloc (.cells zr8 65)
  have hF := Blk.new w 65 zr8
  have hB0 := bal0 w (.cells zr8 65)
  obtain ⟨g, o, c, m, h1, h2, h3, h4, h5, h6, h7⟩ := hA
  have hK := h6
  obtain ⟨⟨k0, k1, k2, k3, k4, k5, k6, k7⟩, -⟩ := h6
  have r0 := h1.cell 0
  simp only [List.getElem?_toArray, List.getElem?_cons_zero, List.length_cons] at r0
  rw [List.length_cons] at h1 h4
  have hl0 : (0 : Int) < ((L.length + 1 : Nat) : Int) := by omega
  obtain ⟨n, hn⟩ : ∃ n, L.length + 1 = n := ⟨_, rfl⟩
  rw [hn] at r0 hl0 h1 h4
  have HN := Lib.hid hn
  clear hn
  obtain ⟨w1, hw1⟩ : ∃ w1, w.alloc (.cells zr8 65) = w1 := ⟨_, rfl⟩
  have hs1 : w1.heap.size = w.heap.size + 1 := by rw [← hw1, World.size_alloc]
  rw [hw1] at hF hB0 k0 k1 k2 k3 k4 k5 k6 k7 r0 h1 h7 hK
  have HB0 := Lib.hid hB0
  clear hR hB0
  have hE := Blk.new w1 65 zr8
  have hF1 := hF.alloc (.cells zr8 65)
  have hB1 := h1.alloc (.cells zr8 65)
  have HB1 := Lib.hid (bal HB0.out (.cells zr8 65))
  have HKP := Lib.hid (show ∀ W, Below w1.heap.size w1 W → KRow W g o ((t, p) :: L) ∧ PM W m from fun W hb => ⟨hK.below hb (by omega), h7.below hb (by omega)⟩)
  have hne1 : w.heap.size ≠ w.heap.size + 1 := by omega
  have hneB : B ≠ w.heap.size + 1 := by omega
  have hneF : B ≠ w.heap.size := by omega
  rw [hs1] at hE
  clear hF h1 hK h7
  by_cases hcp : c = 1
  · subst hcp
    obtain rfl : n = 1 := by omega
    obtain rfl : L = [] := List.eq_nil_of_length_eq_zero (by have := HN.out; omega)
    go_enter Try.func45, Try.ntmps45
    go_wp2_with (first | (refine wp_put rfl _ _ _ rfl (w.heap.size + 1) _ (tokCells t ((p : Nat) : Int)) rfl rfl hE (by rw [size_tok]; rfl) rfl (by simp [Value.oneCell']) ?_; intro w3 hE3 hb3; have hB3 := hb3.at hB1 hneB; have hF3 := hb3.at hF1 hne1; have r3 := hB3.cell 0; have f3 := hB3.frozen 0; simp only [List.getElem?_toArray, List.getElem?_cons_zero] at r3; clear hE) | (refine wp_get rfl _ _ rfl (w.heap.size + 1) (tokCells t ((p : Nat) : Int)) _ rfl (hE3.other ⟨B, 0, none⟩ _ (Ne.symm hneB)) Try.underlying65 rfl (by rw [size_tok]; rfl) ?_) | (refine wp_put rfl _ _ _ rfl w.heap.size _ (tokCells t ((p : Nat) : Int)) rfl rfl (hF3.other ⟨B, 0, none⟩ _ (Ne.symm hneF)) (by rw [size_tok]; rfl) rfl (by simp [Value.oneCell']) ?_; intro w5 hF5 hb5) | fail)
    have HB3 := HB1.out.trans (hb3.low (n := w.heap.size) (by omega) (by rw [World.size_alloc]; omega))
    have hBt : Btt B w (w3.setCell ⟨B, 0, none⟩ (.slice (some ⟨g, o, none⟩) (1 - 1) (1 - 1))) := Btt.set (B := B) (But.of_below HB3) 0 _ (.inl rfl)
    have hRd := Rd.set (W := w3) hB3 h2 h3 HN.out h4 h5 (HKP.out w3 (bal0 w1 _ |>.trans (hb3.low (n := w1.heap.size) (by omega) (by rw [World.size_alloc]; omega)))).1 (HKP.out w3 (bal0 w1 _ |>.trans (hb3.low (n := w1.heap.size) (by omega) (by rw [World.size_alloc]; omega)))).2 (o) (.inr rfl) _ rfl
    refine ret_blk _ _ _ _ _ rfl rfl rfl hF5 Try.underlying65 rfl (by rw [size_tok]; rfl) ?_
    exact ⟨rfl, hBt.own hb5 (Nat.le_refl _), hRd.own hb5 hlt⟩
  · go_enter Try.func45, Try.ntmps45
    go_wp2_with (first | (refine wp_put rfl _ _ _ rfl (w.heap.size + 1) _ (tokCells t ((p : Nat) : Int)) rfl rfl hE (by rw [size_tok]; rfl) rfl (by simp [Value.oneCell']) ?_; intro w3 hE3 hb3; have hB3 := hb3.at hB1 hneB; have hF3 := hb3.at hF1 hne1; have r3 := hB3.cell 0; have f3 := hB3.frozen 0; simp only [List.getElem?_toArray, List.getElem?_cons_zero] at r3; clear hE) | (refine wp_get rfl _ _ rfl (w.heap.size + 1) (tokCells t ((p : Nat) : Int)) _ rfl (hE3.other ⟨B, 0, none⟩ _ (Ne.symm hneB)) Try.underlying65 rfl (by rw [size_tok]; rfl) ?_) | (refine wp_put rfl _ _ _ rfl w.heap.size _ (tokCells t ((p : Nat) : Int)) rfl rfl (hF3.other ⟨B, 0, none⟩ _ (Ne.symm hneF)) (by rw [size_tok]; rfl) rfl (by simp [Value.oneCell']) ?_; intro w5 hF5 hb5) | fail)
    have HB3 := HB1.out.trans (hb3.low (n := w.heap.size) (by omega) (by rw [World.size_alloc]; omega))
    have hBt : Btt B w (w3.setCell ⟨B, 0, none⟩ (.slice (some ⟨g, o + 8, none⟩) (n - 1) (c - 1))) := Btt.set (B := B) (But.of_below HB3) 0 _ (.inl rfl)
    have hRd := Rd.set (W := w3) hB3 h2 h3 HN.out h4 h5 (HKP.out w3 (bal0 w1 _ |>.trans (hb3.low (n := w1.heap.size) (by omega) (by rw [World.size_alloc]; omega)))).1 (HKP.out w3 (bal0 w1 _ |>.trans (hb3.low (n := w1.heap.size) (by omega) (by rw [World.size_alloc]; omega)))).2 (o + 8) (.inl rfl) _ rfl
    refine ret_blk _ _ _ _ _ rfl rfl rfl hF5 Try.underlying65 rfl (by rw [size_tok]; rfl) ?_
    exact ⟨rfl, hBt.own hb5 (Nat.le_refl _), hRd.own hb5 hlt⟩
end Go.Proofs.Ytbiempopfmpohaa
namespace Go.Proofs.Ytbiempopfmpohaa
open Go.RowKit

/-- What is wrong ends it, with the place. -/
abbrev Flt (p c : Nat) : Ending := .panicked [{ v := .iface 63 (.agg #[.int .i64 ((p : Nat) : Int), .int .i64 ((c : Nat) : Int)]), recovered := false }]

theorem ptok_text (t : Tk) (a : Int) (W : World) : (Instr.field 65 (tokV t a) 1).run Try.prog W = .ok (.string (mkS t.text)) W := by kernel_rfl
theorem ptok_set (t : Tk) (a : Int) (W : World) : (Instr.field 65 (tokV t a) 2).run Try.prog W = .ok (sv t.set) W := by kernel_rfl
theorem ptok_num (t : Tk) (a : Int) (W : World) : (Instr.field 65 (tokV t a) 3).run Try.prog W = .ok (.int .i64 ((t.num : Nat) : Int)) W := by kernel_rfl
set_option maxRecDepth 100000 in
set_option maxHeartbeats 1000000 in
theorem pwrong_any (B d : Nat) (t : Tk) (p : Nat) (L : List (Tk × Nat)) (c : Nat) (w : World) (hR : Rd w B ((t, p) :: L) d) :
    Calls Try.prog 38 #[.pointer (some ⟨B, 0, none⟩), .int .i64 ((c : Nat) : Int)] w fun e w' => e = Flt p c ∧ Below w.heap.size w w' := by
  obtain ⟨g, o, cap, m, h1, h2, h3, h4, h5, h6, h7⟩ := hR
  obtain ⟨⟨k0, k1, k2, k3, k4, k5, k6, k7⟩, -⟩ := h6
  have r0 := h1.cell 0
  simp only [List.getElem?_toArray, List.getElem?_cons_zero, List.length_cons] at r0
  have hl0 : (0 : Int) < ((L.length + 1 : Nat) : Int) := by omega
  generalize L.length + 1 = n at *
  clear h1 h7
  go_enter Try.func38, Try.ntmps38
  go_wp2
  exact ⟨rfl, rfl, Below.refl _ _⟩

set_option maxRecDepth 100000 in
set_option maxHeartbeats 1000000 in
theorem ptakes_any (B d : Nat) (t : Tk) (p : Nat) (L : List (Tk × Nat)) (k : Nat) (s : ByteArray) (w : World) (hR : Rd w B ((t, p) :: L) d) :
    Calls Try.prog 29 #[.pointer (some ⟨B, 0, none⟩), .agg #[.int .i64 ((k : Nat) : Int), .string s]] w fun e w' => e = .returned (.bool (decide (frF t = (k, bl s)))) ∧ Btt B w w' ∧ Rd w' B (if decide (frF t = (k, bl s)) = true then L else (t, p) :: L) d := by
  have hlt := hR.lt
  have hA := hR.alloc (.cells #[.int .i64 ((k : Nat) : Int), .string s] 72)
  have hF := Blk.new w 72 #[.int .i64 ((k : Nat) : Int), .string s]
  have hB0 := bal0 w (.cells #[.int .i64 ((k : Nat) : Int), .string s] 72)
  obtain ⟨w1, hw1⟩ : ∃ w1, w.alloc (.cells #[.int .i64 ((k : Nat) : Int), .string s] 72) = w1 := ⟨_, rfl⟩
  rw [hw1] at hF hB0 hA
  have f0 := hF.cell 0
  have f1 := hF.cell 1
  simp only [List.getElem?_toArray, List.getElem?_cons_zero, List.getElem?_cons_succ] at f0 f1
  have HA := Lib.hid (pat_any B d t p L k s w1 hA)
  have HT := Lib.hid (fun W h => ptake_any B d t p L W h)
  clear hF hR
  generalize decide (frF t = (k, bl s)) = v at *
  cases v with
  | true =>
    go_enter Try.func29, Try.ntmps29
    go_wp2_with fail
    refine HA.out.mono ?_
    rintro e w2 ⟨rfl, hb2⟩
    go_wp2_with fail
    refine (HT.out _ (hA.below hb2 hA.lt)).mono ?_
    rintro e w3 ⟨rfl, hb3, hR3⟩
    go_wp2
    go_ret
    exact ⟨rfl, (Btt.ofB (B := B) (btr hB0 hb2)).next hb3, hR3⟩
  | false =>
    go_enter Try.func29, Try.ntmps29
    go_wp2_with fail
    refine HA.out.mono ?_
    rintro e w2 ⟨rfl, hb2⟩
    go_wp2
    go_ret
    exact ⟨rfl, But.of_below (btr hB0 hb2), hA.below hb2 hA.lt⟩

set_option maxRecDepth 100000 in
set_option maxHeartbeats 1000000 in
theorem pmust_any (B d : Nat) (t : Tk) (p : Nat) (L : List (Tk × Nat)) (k : Nat) (s : ByteArray) (w : World) (hR : Rd w B ((t, p) :: L) d) :
    Calls Try.prog 23 #[.pointer (some ⟨B, 0, none⟩), .agg #[.int .i64 ((k : Nat) : Int), .string s]] w fun e w' => Btt B w w' ∧ if decide (frF t = (k, bl s)) = true then e = .returned (tokV t ((p : Nat) : Int)) ∧ Rd w' B L d else e = Flt p 4 := by
  have hlt := hR.lt
  have hA := (hR.alloc (.cells #[.int .i64 ((k : Nat) : Int), .string s] 72)).alloc (.cells zr8 65)
  have hF := (Blk.new w 72 #[.int .i64 ((k : Nat) : Int), .string s]).alloc (.cells zr8 65)
  have hE := Blk.new (w.alloc (.cells #[.int .i64 ((k : Nat) : Int), .string s] 72)) 65 zr8
  rw [World.size_alloc] at hE
  have hB0 := bal (bal0 w (.cells #[.int .i64 ((k : Nat) : Int), .string s] 72)) (.cells zr8 65)
  obtain ⟨w1, hw1⟩ : ∃ w1, (w.alloc (.cells #[.int .i64 ((k : Nat) : Int), .string s] 72)).alloc (.cells zr8 65) = w1 := ⟨_, rfl⟩
  rw [hw1] at hF hB0 hA hE
  have f0 := hF.cell 0
  have f1 := hF.cell 1
  simp only [List.getElem?_toArray, List.getElem?_cons_zero, List.getElem?_cons_succ] at f0 f1
  have HA := Lib.hid (pat_any B d t p L k s w1 hA)
  have HT := Lib.hid (fun W h => ptake_any B d t p L W h)
  have HW := Lib.hid (fun W h => pwrong_any B d t p L 4 W h)
  have HE := Lib.hid hE
  clear hF hR hE
  generalize decide (frF t = (k, bl s)) = v at *
  cases v with
  | true =>
    go_enter Try.func23, Try.ntmps23
    go_wp2_with fail
    refine HA.out.mono ?_
    rintro e w2 ⟨rfl, hb2⟩
    go_wp2_with fail
    refine (HT.out _ (hA.below hb2 hA.lt)).mono ?_
    rintro e w3 ⟨rfl, hb3, hR3⟩
    have hE3 := hb3.at (HE.out.below hb2 HE.out.lt) (by omega)
    have hBt := (Btt.ofB (B := B) (btr hB0 hb2)).next hb3
    go_wp2_with (first | (refine wp_put rfl _ _ _ rfl (w.heap.size + 1) _ (tokCells t ((p : Nat) : Int)) rfl rfl hE3 (by rw [size_tok]; rfl) rfl (by simp [Value.oneCell']) ?_; intro w5 hE5 hb5) | fail)
    refine ret_blk _ _ _ _ _ rfl rfl rfl hE5 Try.underlying65 rfl (by rw [size_tok]; rfl) ?_
    exact ⟨hBt.own hb5 (by omega), rfl, hR3.own hb5 (by omega)⟩
  | false =>
    go_enter Try.func23, Try.ntmps23
    go_wp2_with fail
    refine HA.out.mono ?_
    rintro e w2 ⟨rfl, hb2⟩
    go_wp2_with fail
    refine (HW.out _ (hA.below hb2 hA.lt)).mono ?_
    rintro e w3 ⟨rfl, hb3⟩
    exact ⟨rfl, But.of_below (btr (btr hB0 hb2) hb3), rfl⟩

/-- May this number stand here? -/
def numB (least : Nat) (t : Tk) : Bool := decide (t.kind = 5 ∧ t.num ≤ 64 ∧ least ≤ t.num)
set_option maxRecDepth 100000 in
set_option maxHeartbeats 1000000 in
theorem pnumber_any (B d : Nat) (t : Tk) (p : Nat) (L : List (Tk × Nat)) (least : Nat) (w : World) (hR : Rd w B ((t, p) :: L) d) :
    Calls Try.prog 98 #[.pointer (some ⟨B, 0, none⟩), .int .i64 ((least : Nat) : Int)] w fun e w' => Btt B w w' ∧ if numB least t = true then e = .returned (.int .i64 ((t.num : Nat) : Int)) ∧ Rd w' B L d else e = Flt p 4 := by
  have hlt := hR.lt
  have HR := Lib.hid hR
  obtain ⟨g, o, cap, m, h1, h2, h3, h4, h5, h6, h7⟩ := hR
  obtain ⟨⟨k0, k1, k2, k3, k4, k5, k6, k7⟩, -⟩ := h6
  have r0 := h1.cell 0
  simp only [List.getElem?_toArray, List.getElem?_cons_zero, List.length_cons] at r0
  have hl0 : (0 : Int) < ((L.length + 1 : Nat) : Int) := by omega
  generalize L.length + 1 = n at *
  have HT := Lib.hid (fun W h => ptake_any B d t p L W h)
  have HW := Lib.hid (fun W h => pwrong_any B d t p L 4 W h)
  have hE := Blk.new w 65 zr8
  have hB0 := bal0 w (.cells zr8 65)
  have hA := HR.out.alloc (.cells zr8 65)
  clear h1 h7
  have d5 : (((t.kind : Nat) : Int) != 5) = !(t.kind == 5) := by rw [Bool.eq_iff_iff]; simp; omega
  cases hk : t.kind == 5 with
  | false =>
    have HV := Lib.hid (show numB least t = false by
      unfold numB; rw [beq_eq_false_iff_ne] at hk; exact decide_eq_false fun h => hk h.1)
    rw [hk] at d5
    go_enter Try.func98, Try.ntmps98
    go_wp2_with (first | (refine wp_put rfl _ _ _ rfl w.heap.size _ (tokCells t ((p : Nat) : Int)) rfl rfl hE (by rw [size_tok]; rfl) rfl (by simp [Value.oneCell']) ?_; intro w3 hE3 hb3; have hR3 := hA.own hb3 hlt; have hB3 := hB0.trans (hb3.low (Nat.le_refl _) hB0.size); have e0 := hE3.cell 0; have e6 := hE3.cell 6; simp only [List.getElem?_toArray, List.getElem?_cons_zero, List.getElem?_cons_succ] at e0 e6) | fail)
    refine (HW.out _ hR3).mono ?_
    rintro e w4 ⟨rfl, hb4⟩
    exact ⟨rfl, But.of_below (btr hB3 hb4), by first | rfl | (rw [HV.out]; rfl)⟩
  | true =>
    rw [hk] at d5
    by_cases hl : t.num < least
    · have hl' : ((t.num : Nat) : Int) < ((least : Nat) : Int) := by omega
      have HV := Lib.hid (show numB least t = false by
        unfold numB; exact decide_eq_false fun h => by omega)
      go_enter Try.func98, Try.ntmps98
      go_wp2_with (first | (refine wp_put rfl _ _ _ rfl w.heap.size _ (tokCells t ((p : Nat) : Int)) rfl rfl hE (by rw [size_tok]; rfl) rfl (by simp [Value.oneCell']) ?_; intro w3 hE3 hb3; have hR3 := hA.own hb3 hlt; have hB3 := hB0.trans (hb3.low (Nat.le_refl _) hB0.size); have e0 := hE3.cell 0; have e6 := hE3.cell 6; simp only [List.getElem?_toArray, List.getElem?_cons_zero, List.getElem?_cons_succ] at e0 e6) | fail)
      refine (HW.out _ hR3).mono ?_
      rintro e w4 ⟨rfl, hb4⟩
      exact ⟨rfl, But.of_below (btr hB3 hb4), by first | rfl | (rw [HV.out]; rfl)⟩
    · have hl' : ¬ ((t.num : Nat) : Int) < ((least : Nat) : Int) := by omega
      by_cases hm : 64 < t.num
      · have hm' : (64 : Int) < ((t.num : Nat) : Int) := by omega
        have HV := Lib.hid (show numB least t = false by
          unfold numB; exact decide_eq_false fun h => by omega)
        go_enter Try.func98, Try.ntmps98
        go_wp2_with (first | (refine wp_put rfl _ _ _ rfl w.heap.size _ (tokCells t ((p : Nat) : Int)) rfl rfl hE (by rw [size_tok]; rfl) rfl (by simp [Value.oneCell']) ?_; intro w3 hE3 hb3; have hR3 := hA.own hb3 hlt; have hB3 := hB0.trans (hb3.low (Nat.le_refl _) hB0.size); have e0 := hE3.cell 0; have e6 := hE3.cell 6; simp only [List.getElem?_toArray, List.getElem?_cons_zero, List.getElem?_cons_succ] at e0 e6) | fail)
        refine (HW.out _ hR3).mono ?_
        rintro e w4 ⟨rfl, hb4⟩
        exact ⟨rfl, But.of_below (btr hB3 hb4), by first | rfl | (rw [HV.out]; rfl)⟩
      · have hm' : ¬ (64 : Int) < ((t.num : Nat) : Int) := by omega
        have HV := Lib.hid (show numB least t = true by
          unfold numB; rw [beq_iff_eq] at hk; exact decide_eq_true ⟨hk, by omega, by omega⟩)
        go_enter Try.func98, Try.ntmps98
        go_wp2_with (first | (refine wp_put rfl _ _ _ rfl w.heap.size _ (tokCells t ((p : Nat) : Int)) rfl rfl hE (by rw [size_tok]; rfl) rfl (by simp [Value.oneCell']) ?_; intro w3 hE3 hb3; have hR3 := hA.own hb3 hlt; have hB3 := hB0.trans (hb3.low (Nat.le_refl _) hB0.size); have e0 := hE3.cell 0; have e6 := hE3.cell 6; simp only [List.getElem?_toArray, List.getElem?_cons_zero, List.getElem?_cons_succ] at e0 e6) | fail)
        refine (HT.out _ hR3).mono ?_
        rintro e w4 ⟨rfl, hb4, hR4⟩
        have hfd := fun W => ptok_num t ((p : Nat) : Int) W
        go_wp2
        go_ret
        exact ⟨(Btt.ofB (B := B) hB3).next hb4, by first | exact ⟨rfl, hR4⟩ | (rw [HV.out]; exact ⟨rfl, hR4⟩)⟩
end Go.Proofs.Ytbiempopfmpohaa
