/-
  Signs and numbers as the grammar sees them; how often an atom stands. Conditions: none but those that each names.
-/
import Derived.Test.YtbiempopfmpohaaPwMem
import Derived.Test.YtbiempopfmpohaaParseEF
namespace Go.Proofs.Ytbiempopfmpohaa
open Go.RowKit

/-- So far it has been read, and this is left. -/
def Left (B d : Nat) (L : List (Tk × Nat)) (w w' : World) (R : List Tk) : Prop := Btt B w w' ∧ ∃ L', L' <:+ L ∧ Row L' ∧ pl L' = R ∧ Rd w' B L' d
/-- It is wrong where this is left. -/
def Bad (B : Nat) (L : List (Tk × Nat)) (w : World) (c : Nat) (Q : List Tk) (e : Ending) (w' : World) : Prop := Btt B w w' ∧ ∃ L', L' <:+ L ∧ Row L' ∧ pl L' = Q ∧ e = Flt (hdP L') c
theorem Bad.far {B c : Nat} {L L1 : List (Tk × Nat)} {w w1 w' : World} {Q : List Tk} {e : Ending} (h : Bad B L1 w1 c Q e w') (hb : Btt B w w1) (hs : L1 <:+ L) : Bad B L w c Q e w' := by
  obtain ⟨h1, L', h2, h3⟩ := h
  exact ⟨hb.next h1, L', h2.trans hs, h3⟩
theorem Left.far {B d : Nat} {L L1 : List (Tk × Nat)} {w w1 w' : World} {R : List Tk} (h : Left B d L1 w1 w' R) (hb : Btt B w w1) (hs : L1 <:+ L) : Left B d L w w' R := by
  obtain ⟨h1, L', h2, h3⟩ := h
  exact ⟨hb.next h1, L', h2.trans hs, h3⟩

theorem pat_row (B d : Nat) (L : List (Tk × Nat)) (s : ByteArray) (w : World) (hR : Rd w B L d) (hL : Row L) :
    Calls Try.prog 37 #[.pointer (some ⟨B, 0, none⟩), .agg #[.int .i64 4, .string s]] w fun e w' => e = .returned (.bool (sgn (bl s) (pl L))) ∧ Below w.heap.size w w' := by
  obtain ⟨t, p, L1, rfl⟩ := hL.cons
  have := pat_any B d t p L1 4 s w hR
  rw [hL.sign] at this
  exact this
theorem ptakes_row (B d : Nat) (L : List (Tk × Nat)) (s : ByteArray) (w : World) (hR : Rd w B L d) (hL : Row L) :
    Calls Try.prog 29 #[.pointer (some ⟨B, 0, none⟩), .agg #[.int .i64 4, .string s]] w fun e w' => e = .returned (.bool (sgn (bl s) (pl L))) ∧ Left B d L w w' (if sgn (bl s) (pl L) = true then (pl L).tail else pl L) := by
  obtain ⟨t, p, L1, rfl⟩ := hL.cons
  have := ptakes_any B d t p L1 4 s w hR
  rw [hL.sign] at this
  refine this.mono ?_
  rintro e w' ⟨h1, h2, h3⟩
  refine ⟨h1, h2, ?_⟩
  cases hs : sgn (bl s) (pl ((t, p) :: L1)) with
  | true =>
    rw [hs] at h3
    have hk : t.kind ≠ 0 := by
      rw [← hL.sign, fr_sign, Bool.and_eq_true, beq_iff_eq] at hs
      omega
    obtain ⟨k1, k2⟩ := hL.tail hk
    exact ⟨L1, List.suffix_cons _ _, k1, by rw [k2]; rfl, h3⟩
  | false =>
    rw [hs] at h3
    exact ⟨_, List.suffix_refl _, hL, rfl, h3⟩
theorem pmust_row (B d : Nat) (L : List (Tk × Nat)) (s : ByteArray) (w : World) (hR : Rd w B L d) (hL : Row L) :
    Calls Try.prog 23 #[.pointer (some ⟨B, 0, none⟩), .agg #[.int .i64 4, .string s]] w fun e w' => if sgn (bl s) (pl L) = true then (∃ t p, e = .returned (tokV t p)) ∧ Left B d L w w' (pl L).tail else Bad B L w 4 (pl L) e w' := by
  obtain ⟨t, p, L1, rfl⟩ := hL.cons
  have := pmust_any B d t p L1 4 s w hR
  rw [hL.sign] at this
  refine this.mono ?_
  rintro e w' ⟨h1, h2⟩
  cases hs : sgn (bl s) (pl ((t, p) :: L1)) with
  | true =>
    rw [hs, if_pos rfl] at h2
    rw [if_pos rfl]
    have hk : t.kind ≠ 0 := by
      rw [← hL.sign, fr_sign, Bool.and_eq_true, beq_iff_eq] at hs
      omega
    obtain ⟨k1, k2⟩ := hL.tail hk
    exact ⟨⟨t, _, h2.1⟩, h1, L1, List.suffix_cons _ _, k1, by rw [k2]; rfl, h2.2⟩
  | false =>
    rw [hs, if_neg (by decide)] at h2
    rw [if_neg (by decide)]
    exact ⟨h1, _, List.suffix_refl _, hL, rfl, h2⟩
theorem pnumber_row (B d : Nat) (L : List (Tk × Nat)) (least : Nat) (w : World) (hR : Rd w B L d) (hL : Row L) :
    Calls Try.prog 98 #[.pointer (some ⟨B, 0, none⟩), .int .i64 ((least : Nat) : Int)] w fun e w' => match numF least (pl L) with
      | none => Bad B L w 4 (pl L) e w'
      | some x => e = .returned (.int .i64 ((x.1 : Nat) : Int)) ∧ Left B d L w w' x.2 := by
  obtain ⟨t, p, L1, rfl⟩ := hL.cons
  refine (pnumber_any B d t p L1 least w hR).mono ?_
  rintro e w' ⟨h1, h2⟩
  cases hn : numB least t with
  | true =>
    rw [hn, if_pos rfl] at h2
    have hc : t.kind = 5 ∧ t.num ≤ 64 ∧ least ≤ t.num := of_decide_eq_true hn
    obtain ⟨k1, k2⟩ := hL.tail (by omega)
    have e1 : numF least (pl ((t, p) :: L1)) = some (t.num, pl L1) := by rw [k2]; exact if_pos hc
    rw [e1]
    exact ⟨h2.1, h1, L1, List.suffix_cons _ _, k1, rfl, h2.2⟩
  | false =>
    rw [hn, if_neg (by decide)] at h2
    have hc : ¬ (t.kind = 5 ∧ t.num ≤ 64 ∧ least ≤ t.num) := of_decide_eq_false hn
    have e1 : numF least (pl ((t, p) :: L1)) = none := by
      rcases hL.parts with ⟨q, e⟩ | ⟨u, q, L', e, _, _, e2⟩
      · cases e; rfl
      · cases e; rw [e2]; exact if_neg hc
    rw [e1]
    exact ⟨h1, _, List.suffix_refl _, hL, rfl, h2⟩

/-- How often, by one sign. -/
def markF (T : List Tk) : Int × Int × Bool := if sgn [42] T then (0, -1, true) else if sgn [43] T then (1, -1, true) else if sgn [63] T then (0, 1, true) else (0, 0, false)
/-- How often, if that is said. -/
def oftenF (T : List Tk) : Except (Nat × List Tk) ((Int × Int × Bool) × List Tk) :=
  if sgn [123] T then match numF 0 T.tail with
    | none => .error (4, T.tail)
    | some x => if sgn [44] x.2 then match numF x.1 x.2.tail with
        | none => .error (4, x.2.tail)
        | some y => if sgn [125] y.2 then .ok (((x.1 : Nat), (y.1 : Nat), true), y.2.tail) else .error (4, y.2)
      else if sgn [125] x.2 then .ok (((x.1 : Nat), (x.1 : Nat), true), x.2.tail) else .error (4, x.2)
  else .ok (markF T, if (markF T).2.2 then T.tail else T)
theorem sgn_one {s u : List UInt8} {T : List Tk} (h : sgn s T = true) (hn : s ≠ u) : sgn u T = false := by
  cases T with
  | nil => rfl
  | cons t T =>
    unfold sgn at h
    simp only [Bool.and_eq_true, beq_iff_eq] at h
    show (t.kind == 4 && t.text == u) = false
    rw [h.2]
    simp [hn]
theorem post_often (a : Rx) (T : List Tk) : postF a T = match oftenF T with
    | .error x => .error x
    | .ok y => .ok (if y.1.2.2 then .rep y.1.1 y.1.2.1 a else a, y.2) := by
  unfold postF oftenF
  by_cases h1 : sgn [42] T = true
  · have h0 := sgn_one (u := [123]) h1 (by decide)
    simp [markF, h1, h0]
  by_cases h2 : sgn [43] T = true
  · have h0 := sgn_one (u := [123]) h2 (by decide)
    simp [markF, h1, h2, h0]
  by_cases h3 : sgn [63] T = true
  · have h0 := sgn_one (u := [123]) h3 (by decide)
    simp [markF, h1, h2, h3, h0]
  by_cases h4 : sgn [123] T = true
  · simp only [h1, h2, h3, h4, if_true, if_false, Bool.false_eq_true]
    cases numF 0 T.tail with
    | none => rfl
    | some x =>
      obtain ⟨m, R1⟩ := x
      simp only
      by_cases h5 : sgn [44] R1 = true
      · simp only [h5, if_true]
        cases numF m R1.tail with
        | none => rfl
        | some y =>
          obtain ⟨k, R2⟩ := y
          simp only
          by_cases h6 : sgn [125] R2 = true
          · simp only [h6, if_true]
          · simp only [h6, if_false, Bool.false_eq_true]
      · simp only [h5, if_false, Bool.false_eq_true]
        by_cases h6 : sgn [125] R1 = true
        · simp only [h6, if_true]
        · simp only [h6, if_false, Bool.false_eq_true]
  · simp [markF, h1, h2, h3, h4]

/-- What mark answers. -/
def MarkA (B d : Nat) (L : List (Tk × Nat)) (w : World) (e : Ending) (w' : World) : Prop := e = .returned (.tuple #[.int .i64 (markF (pl L)).1, .int .i64 (markF (pl L)).2.1, .bool (markF (pl L)).2.2]) ∧ Left B d L w w' (if (markF (pl L)).2.2 then (pl L).tail else pl L)
theorem MarkA.of {B d : Nat} {L : List (Tk × Nat)} {w w' : World} {e : Ending} {lo hi : Int} {is : Bool} (h : markF (pl L) = (lo, hi, is)) (he : e = .returned (.tuple #[.int .i64 lo, .int .i64 hi, .bool is])) (hl : Left B d L w w' (if is then (pl L).tail else pl L)) : MarkA B d L w e w' := by
  unfold MarkA
  rw [h]
  exact ⟨he, hl⟩
set_option maxRecDepth 100000 in
set_option maxHeartbeats 1000000 in
theorem pmark_any (B d : Nat) (L : List (Tk × Nat)) (w : World) (hR : Rd w B L d) (hL : Row L) :
    Calls Try.prog 97 #[.pointer (some ⟨B, 0, none⟩)] w fun e w' => MarkA B d L w e w' := by
  have HS := Lib.hid (fun b W => psign_any b W)
  have HT := Lib.hid (fun (s : ByteArray) (L1 : List (Tk × Nat)) W (h : Rd W B L1 d) (hr : Row L1) => ptakes_row B d L1 s W h hr)
  have h42 : bl { data := #[42] } = [42] := rfl
  have h43 : bl { data := #[43] } = [43] := rfl
  have h63 : bl { data := #[63] } = [63] := rfl
  obtain ⟨T, hT⟩ : ∃ T, pl L = T := ⟨_, rfl⟩
  have HM := Lib.hid (show markF (pl L) = if sgn [42] T then (0, -1, true) else if sgn [43] T then (1, -1, true) else if sgn [63] T then (0, 1, true) else (0, 0, false) by rw [hT]; rfl)
  have HTT := Lib.hid hT
  clear hT
  cases h1 : sgn [42] T with
  | true =>
    rw [h1] at HM
    go_enter Try.func97, Try.ntmps97
    go_wp2_with fail
    refine (HS.out _ _).mono ?_
    rintro e v1 ⟨rfl, hb1⟩
    have hR1 := hR.below hb1 hR.lt
    have HT1 := Lib.hid (HT.out { data := #[42] } L v1 hR1 hL)
    rw [h42, HTT.out, h1] at HT1
    go_wp2_with fail
    refine HT1.out.mono ?_
    rintro e u1 ⟨rfl, hl1⟩
    go_wp2
    go_ret3
    exact MarkA.of HM.out rfl (by rw [HTT.out]; exact hl1.far (Btt.ofB hb1) (List.suffix_refl _))
  | false =>
  rw [h1] at HM
  cases h2 : sgn [43] T with
  | true =>
    rw [h2] at HM
    go_enter Try.func97, Try.ntmps97
    go_wp2_with fail
    refine (HS.out _ _).mono ?_
    rintro e v1 ⟨rfl, hb1⟩
    have hR1 := hR.below hb1 hR.lt
    have HT1 := Lib.hid (HT.out { data := #[42] } L v1 hR1 hL)
    rw [h42, HTT.out, h1] at HT1
    go_wp2_with fail
    refine HT1.out.mono ?_
    rintro e u1 ⟨rfl, hl1, L1, hs1, hL1, hp1, hR1'⟩
    rw [if_neg (by decide)] at hp1
    go_wp2_with fail
    refine (HS.out _ _).mono ?_
    rintro e v2 ⟨rfl, hb2⟩
    have hR2 := hR1'.below hb2 hR1'.lt
    have HT2 := Lib.hid (HT.out { data := #[43] } L1 v2 hR2 hL1)
    rw [h43, hp1, h2] at HT2
    go_wp2_with fail
    refine HT2.out.mono ?_
    rintro e u2 ⟨rfl, hl2⟩
    go_wp2
    go_ret3
    exact MarkA.of HM.out rfl (by rw [HTT.out]; exact hl2.far (((Btt.ofB hb1).next hl1).on hb2) hs1)
  | false =>
  rw [h2] at HM
  cases h3 : sgn [63] T with
  | true =>
    rw [h3] at HM
    go_enter Try.func97, Try.ntmps97
    go_wp2_with fail
    refine (HS.out _ _).mono ?_
    rintro e v1 ⟨rfl, hb1⟩
    have hR1 := hR.below hb1 hR.lt
    have HT1 := Lib.hid (HT.out { data := #[42] } L v1 hR1 hL)
    rw [h42, HTT.out, h1] at HT1
    go_wp2_with fail
    refine HT1.out.mono ?_
    rintro e u1 ⟨rfl, hl1, L1, hs1, hL1, hp1, hR1'⟩
    rw [if_neg (by decide)] at hp1
    go_wp2_with fail
    refine (HS.out _ _).mono ?_
    rintro e v2 ⟨rfl, hb2⟩
    have hR2 := hR1'.below hb2 hR1'.lt
    have HT2 := Lib.hid (HT.out { data := #[43] } L1 v2 hR2 hL1)
    rw [h43, hp1, h2] at HT2
    go_wp2_with fail
    refine HT2.out.mono ?_
    rintro e u2 ⟨rfl, hl2, L2, hs2, hL2, hp2, hR2'⟩
    rw [if_neg (by decide)] at hp2
    go_wp2_with fail
    refine (HS.out _ _).mono ?_
    rintro e v3 ⟨rfl, hb3⟩
    have hR3 := hR2'.below hb3 hR2'.lt
    have HT3 := Lib.hid (HT.out { data := #[63] } L2 v3 hR3 hL2)
    rw [h63, hp2, h3] at HT3
    go_wp2_with fail
    refine HT3.out.mono ?_
    rintro e u3 ⟨rfl, hl3⟩
    go_wp2
    go_ret3
    exact MarkA.of HM.out rfl (by rw [HTT.out]; exact hl3.far (((((Btt.ofB hb1).next hl1).on hb2).next hl2).on hb3) (hs2.trans hs1))
  | false =>
    rw [h3] at HM
    go_enter Try.func97, Try.ntmps97
    go_wp2_with fail
    refine (HS.out _ _).mono ?_
    rintro e v1 ⟨rfl, hb1⟩
    have hR1 := hR.below hb1 hR.lt
    have HT1 := Lib.hid (HT.out { data := #[42] } L v1 hR1 hL)
    rw [h42, HTT.out, h1] at HT1
    go_wp2_with fail
    refine HT1.out.mono ?_
    rintro e u1 ⟨rfl, hl1, L1, hs1, hL1, hp1, hR1'⟩
    rw [if_neg (by decide)] at hp1
    go_wp2_with fail
    refine (HS.out _ _).mono ?_
    rintro e v2 ⟨rfl, hb2⟩
    have hR2 := hR1'.below hb2 hR1'.lt
    have HT2 := Lib.hid (HT.out { data := #[43] } L1 v2 hR2 hL1)
    rw [h43, hp1, h2] at HT2
    go_wp2_with fail
    refine HT2.out.mono ?_
    rintro e u2 ⟨rfl, hl2, L2, hs2, hL2, hp2, hR2'⟩
    rw [if_neg (by decide)] at hp2
    go_wp2_with fail
    refine (HS.out _ _).mono ?_
    rintro e v3 ⟨rfl, hb3⟩
    have hR3 := hR2'.below hb3 hR2'.lt
    have HT3 := Lib.hid (HT.out { data := #[63] } L2 v3 hR3 hL2)
    rw [h63, hp2, h3] at HT3
    go_wp2_with fail
    refine HT3.out.mono ?_
    rintro e u3 ⟨rfl, hl3⟩
    go_wp2
    go_ret3
    exact MarkA.of HM.out rfl (by rw [HTT.out]; exact hl3.far (((((Btt.ofB hb1).next hl1).on hb2).next hl2).on hb3) (hs2.trans hs1))
end Go.Proofs.Ytbiempopfmpohaa
