/-
  How often an atom stands, as the landed parser reads it. Conditions: none but those that each names.
-/
import Derived.Test.YtbiempopfmpohaaPwOften
namespace Go.Proofs.Ytbiempopfmpohaa
open Go.RowKit

/-- What often answers. -/
def OftA (B d : Nat) (L : List (Tk × Nat)) (w : World) (e : Ending) (w' : World) : Prop := match oftenF (pl L) with
  | .error x => Bad B L w x.1 x.2 e w'
  | .ok y => e = .returned (.tuple #[.int .i64 y.1.1, .int .i64 y.1.2.1, .bool y.1.2.2]) ∧ Left B d L w w' y.2
theorem OftA.bad {B d c : Nat} {L : List (Tk × Nat)} {w w' : World} {e : Ending} {Q : List Tk} (h : oftenF (pl L) = .error (c, Q)) (hb : Bad B L w c Q e w') : OftA B d L w e w' := by
  unfold OftA
  rw [h]
  exact hb
theorem OftA.of {B d : Nat} {L : List (Tk × Nat)} {w w' : World} {e : Ending} {lo hi : Int} {is : Bool} {R : List Tk} (h : oftenF (pl L) = .ok ((lo, hi, is), R)) (he : e = .returned (.tuple #[.int .i64 lo, .int .i64 hi, .bool is])) (hl : Left B d L w w' R) : OftA B d L w e w' := by
  unfold OftA
  rw [h]
  exact ⟨he, hl⟩
set_option maxRecDepth 100000 in
set_option maxHeartbeats 1000000 in
theorem poften_any (B d : Nat) (L : List (Tk × Nat)) (w : World) (hR : Rd w B L d) (hL : Row L) :
    Calls Try.prog 86 #[.pointer (some ⟨B, 0, none⟩)] w fun e w' => OftA B d L w e w' := by
  have HS := Lib.hid (fun b W => psign_any b W)
  have HT := Lib.hid (fun (s : ByteArray) (L1 : List (Tk × Nat)) W (h : Rd W B L1 d) (hr : Row L1) => ptakes_row B d L1 s W h hr)
  have HU := Lib.hid (fun (s : ByteArray) (L1 : List (Tk × Nat)) W (h : Rd W B L1 d) (hr : Row L1) => pmust_row B d L1 s W h hr)
  have HN := Lib.hid (fun (least : Nat) (L1 : List (Tk × Nat)) W (h : Rd W B L1 d) (hr : Row L1) => pnumber_row B d L1 least W h hr)
  have HK := Lib.hid (fun (L1 : List (Tk × Nat)) W (h : Rd W B L1 d) (hr : Row L1) => pmark_any B d L1 W h hr)
  have h123 : bl { data := #[123] } = [123] := rfl
  have h44 : bl { data := #[44] } = [44] := rfl
  have h125 : bl { data := #[125] } = [125] := rfl
  obtain ⟨T, hT⟩ : ∃ T, pl L = T := ⟨_, rfl⟩
  have HO := Lib.hid (show oftenF (pl L) = oftenF T by rw [hT])
  have HTT := Lib.hid hT
  clear hT
  cases c1 : sgn [123] T with
  | false =>
    have HV := Lib.hid (show oftenF (pl L) = .ok (markF T, if (markF T).2.2 then T.tail else T) by rw [HO.out]; unfold oftenF; rw [c1]; rfl)
    go_enter Try.func86, Try.ntmps86
    go_wp2_with fail
    refine (HS.out { data := #[123] } _).mono ?_
    rintro e v1 ⟨rfl, hb1⟩
    have hR1 := hR.below hb1 hR.lt
    have HT1 := Lib.hid (HT.out { data := #[123] } L v1 hR1 hL)
    rw [h123, HTT.out, c1] at HT1
    simp only [if_false, Bool.false_eq_true] at HT1
    go_wp2_with fail
    refine HT1.out.mono ?_
    rintro e u1 ⟨rfl, hl1, L1, hs1, hL1, hp1, hR1'⟩
    have HK1 := Lib.hid (HK.out L1 u1 hR1' hL1)
    obtain ⟨mv, hmv⟩ : ∃ mv, markF (pl L1) = mv := ⟨_, rfl⟩
    have HMV := Lib.hid hmv
    unfold MarkA at HK1
    rw [hmv] at HK1
    rw [hp1] at hmv HK1
    rw [hmv] at HV
    clear hmv
    obtain ⟨lo, hi, is⟩ := mv
    simp only at HK1 HV
    have HX := Lib.hid (fun (W' : World) (h : Left B d L1 u1 W' (if is = true then T.tail else T)) => h.far ((Btt.ofB (B := B) hb1).next hl1) hs1)
    generalize (if is = true then T.tail else T) = R at *
    go_wp2_with fail
    refine HK1.out.mono ?_
    rintro e u2 ⟨rfl, hl2⟩
    go_wp2
    go_ret3
    exact OftA.of HV.out rfl (HX.out _ hl2)
  | true =>
  cases n1 : numF 0 T.tail with
  | none =>
    have HV := Lib.hid (show oftenF (pl L) = .error (4, T.tail) by rw [HO.out]; unfold oftenF; rw [c1, n1]; rfl)
    go_enter Try.func86, Try.ntmps86
    go_wp2_with fail
    refine (HS.out { data := #[123] } _).mono ?_
    rintro e v1 ⟨rfl, hb1⟩
    have hR1 := hR.below hb1 hR.lt
    have HT1 := Lib.hid (HT.out { data := #[123] } L v1 hR1 hL)
    rw [h123, HTT.out, c1] at HT1
    simp only [if_true] at HT1
    go_wp2_with fail
    refine HT1.out.mono ?_
    rintro e u1 ⟨rfl, hl1, L1, hs1, hL1, hp1, hR1'⟩
    have HN2 := Lib.hid (HN.out 0 L1 u1 hR1' hL1)
    rw [hp1, n1] at HN2
    go_wp2_with fail
    refine HN2.out.mono ?_
    rintro e u2 ⟨hl2, L2, hs2, hL2, hp2, rfl⟩
    exact ⟨rfl, OftA.bad HV.out ⟨((((Btt.refl B w).on hb1).next hl1).next hl2), L2, (hs2.trans hs1), hL2, hp2, rfl⟩⟩
  | some x =>
  obtain ⟨m1, R1⟩ := x
  cases c2 : sgn [44] R1 with
  | true =>
    cases n2 : numF m1 R1.tail with
    | none =>
      have HV := Lib.hid (show oftenF (pl L) = .error (4, R1.tail) by rw [HO.out]; unfold oftenF; rw [c1, n1]; simp only; rw [c2, n2]; rfl)
      go_enter Try.func86, Try.ntmps86
      go_wp2_with fail
      refine (HS.out { data := #[123] } _).mono ?_
      rintro e v1 ⟨rfl, hb1⟩
      have hR1 := hR.below hb1 hR.lt
      have HT1 := Lib.hid (HT.out { data := #[123] } L v1 hR1 hL)
      rw [h123, HTT.out, c1] at HT1
      simp only [if_true] at HT1
      go_wp2_with fail
      refine HT1.out.mono ?_
      rintro e u1 ⟨rfl, hl1, L1, hs1, hL1, hp1, hR1'⟩
      have HN2 := Lib.hid (HN.out 0 L1 u1 hR1' hL1)
      rw [hp1, n1] at HN2
      go_wp2_with fail
      refine HN2.out.mono ?_
      rintro e u2 ⟨rfl, hl2, L2, hs2, hL2, hp2, hR2'⟩
      try simp only at hp2
      go_wp2_with fail
      refine (HS.out { data := #[44] } _).mono ?_
      rintro e v3 ⟨rfl, hb3⟩
      have hR3 := hR2'.below hb3 hR2'.lt
      have HT3 := Lib.hid (HT.out { data := #[44] } L2 v3 hR3 hL2)
      rw [h44, hp2, c2] at HT3
      simp only [if_true] at HT3
      go_wp2_with fail
      refine HT3.out.mono ?_
      rintro e u3 ⟨rfl, hl3, L3, hs3, hL3, hp3, hR3'⟩
      have HN4 := Lib.hid (HN.out m1 L3 u3 hR3' hL3)
      rw [hp3, n2] at HN4
      go_wp2_with fail
      refine HN4.out.mono ?_
      rintro e u4 ⟨hl4, L4, hs4, hL4, hp4, rfl⟩
      exact ⟨rfl, OftA.bad HV.out ⟨(((((((Btt.refl B w).on hb1).next hl1).next hl2).on hb3).next hl3).next hl4), L4, (((hs4.trans hs3).trans hs2).trans hs1), hL4, hp4, rfl⟩⟩
    | some y =>
      obtain ⟨m2, R2⟩ := y
      cases c3 : sgn [125] R2 with
      | true =>
        have HV := Lib.hid (show oftenF (pl L) = .ok (((m1 : Nat), (m2 : Nat), true), R2.tail) by rw [HO.out]; unfold oftenF; rw [c1, n1]; simp only; rw [c2, n2]; simp only; rw [c3]; rfl)
        go_enter Try.func86, Try.ntmps86
        go_wp2_with fail
        refine (HS.out { data := #[123] } _).mono ?_
        rintro e v1 ⟨rfl, hb1⟩
        have hR1 := hR.below hb1 hR.lt
        have HT1 := Lib.hid (HT.out { data := #[123] } L v1 hR1 hL)
        rw [h123, HTT.out, c1] at HT1
        simp only [if_true] at HT1
        go_wp2_with fail
        refine HT1.out.mono ?_
        rintro e u1 ⟨rfl, hl1, L1, hs1, hL1, hp1, hR1'⟩
        have HN2 := Lib.hid (HN.out 0 L1 u1 hR1' hL1)
        rw [hp1, n1] at HN2
        go_wp2_with fail
        refine HN2.out.mono ?_
        rintro e u2 ⟨rfl, hl2, L2, hs2, hL2, hp2, hR2'⟩
        try simp only at hp2
        go_wp2_with fail
        refine (HS.out { data := #[44] } _).mono ?_
        rintro e v3 ⟨rfl, hb3⟩
        have hR3 := hR2'.below hb3 hR2'.lt
        have HT3 := Lib.hid (HT.out { data := #[44] } L2 v3 hR3 hL2)
        rw [h44, hp2, c2] at HT3
        simp only [if_true] at HT3
        go_wp2_with fail
        refine HT3.out.mono ?_
        rintro e u3 ⟨rfl, hl3, L3, hs3, hL3, hp3, hR3'⟩
        have HN4 := Lib.hid (HN.out m1 L3 u3 hR3' hL3)
        rw [hp3, n2] at HN4
        go_wp2_with fail
        refine HN4.out.mono ?_
        rintro e u4 ⟨rfl, hl4, L4, hs4, hL4, hp4, hR4'⟩
        try simp only at hp4
        go_wp2_with fail
        refine (HS.out { data := #[125] } _).mono ?_
        rintro e v5 ⟨rfl, hb5⟩
        have hR5 := hR4'.below hb5 hR4'.lt
        have HU5 := Lib.hid (HU.out { data := #[125] } L4 v5 hR5 hL4)
        rw [h125, hp4, c3] at HU5
        simp only [if_true] at HU5
        go_wp2_with fail
        refine HU5.out.mono ?_
        rintro e u5 ⟨⟨t0, p0, rfl⟩, hl5, L5, hs5, hL5, hp5, hR5'⟩
        go_wp2
        go_ret3
        exact OftA.of HV.out rfl ⟨(((((((((Btt.refl B w).on hb1).next hl1).next hl2).on hb3).next hl3).next hl4).on hb5).next hl5), L5, ((((hs5.trans hs4).trans hs3).trans hs2).trans hs1), hL5, hp5, hR5'⟩
      | false =>
        have HV := Lib.hid (show oftenF (pl L) = .error (4, R2) by rw [HO.out]; unfold oftenF; rw [c1, n1]; simp only; rw [c2, n2]; simp only; rw [c3]; rfl)
        go_enter Try.func86, Try.ntmps86
        go_wp2_with fail
        refine (HS.out { data := #[123] } _).mono ?_
        rintro e v1 ⟨rfl, hb1⟩
        have hR1 := hR.below hb1 hR.lt
        have HT1 := Lib.hid (HT.out { data := #[123] } L v1 hR1 hL)
        rw [h123, HTT.out, c1] at HT1
        simp only [if_true] at HT1
        go_wp2_with fail
        refine HT1.out.mono ?_
        rintro e u1 ⟨rfl, hl1, L1, hs1, hL1, hp1, hR1'⟩
        have HN2 := Lib.hid (HN.out 0 L1 u1 hR1' hL1)
        rw [hp1, n1] at HN2
        go_wp2_with fail
        refine HN2.out.mono ?_
        rintro e u2 ⟨rfl, hl2, L2, hs2, hL2, hp2, hR2'⟩
        try simp only at hp2
        go_wp2_with fail
        refine (HS.out { data := #[44] } _).mono ?_
        rintro e v3 ⟨rfl, hb3⟩
        have hR3 := hR2'.below hb3 hR2'.lt
        have HT3 := Lib.hid (HT.out { data := #[44] } L2 v3 hR3 hL2)
        rw [h44, hp2, c2] at HT3
        simp only [if_true] at HT3
        go_wp2_with fail
        refine HT3.out.mono ?_
        rintro e u3 ⟨rfl, hl3, L3, hs3, hL3, hp3, hR3'⟩
        have HN4 := Lib.hid (HN.out m1 L3 u3 hR3' hL3)
        rw [hp3, n2] at HN4
        go_wp2_with fail
        refine HN4.out.mono ?_
        rintro e u4 ⟨rfl, hl4, L4, hs4, hL4, hp4, hR4'⟩
        try simp only at hp4
        go_wp2_with fail
        refine (HS.out { data := #[125] } _).mono ?_
        rintro e v5 ⟨rfl, hb5⟩
        have hR5 := hR4'.below hb5 hR4'.lt
        have HU5 := Lib.hid (HU.out { data := #[125] } L4 v5 hR5 hL4)
        rw [h125, hp4, c3] at HU5
        simp only [if_false, Bool.false_eq_true] at HU5
        go_wp2_with fail
        refine HU5.out.mono ?_
        rintro e u5 ⟨hl5, L5, hs5, hL5, hp5, rfl⟩
        exact ⟨rfl, OftA.bad HV.out ⟨(((((((((Btt.refl B w).on hb1).next hl1).next hl2).on hb3).next hl3).next hl4).on hb5).next hl5), L5, ((((hs5.trans hs4).trans hs3).trans hs2).trans hs1), hL5, hp5, rfl⟩⟩
  | false =>
    cases c3 : sgn [125] R1 with
    | true =>
      have HV := Lib.hid (show oftenF (pl L) = .ok (((m1 : Nat), (m1 : Nat), true), R1.tail) by rw [HO.out]; unfold oftenF; simp [c1, n1, c2, c3])
      go_enter Try.func86, Try.ntmps86
      go_wp2_with fail
      refine (HS.out { data := #[123] } _).mono ?_
      rintro e v1 ⟨rfl, hb1⟩
      have hR1 := hR.below hb1 hR.lt
      have HT1 := Lib.hid (HT.out { data := #[123] } L v1 hR1 hL)
      rw [h123, HTT.out, c1] at HT1
      simp only [if_true] at HT1
      go_wp2_with fail
      refine HT1.out.mono ?_
      rintro e u1 ⟨rfl, hl1, L1, hs1, hL1, hp1, hR1'⟩
      have HN2 := Lib.hid (HN.out 0 L1 u1 hR1' hL1)
      rw [hp1, n1] at HN2
      go_wp2_with fail
      refine HN2.out.mono ?_
      rintro e u2 ⟨rfl, hl2, L2, hs2, hL2, hp2, hR2'⟩
      try simp only at hp2
      go_wp2_with fail
      refine (HS.out { data := #[44] } _).mono ?_
      rintro e v3 ⟨rfl, hb3⟩
      have hR3 := hR2'.below hb3 hR2'.lt
      have HT3 := Lib.hid (HT.out { data := #[44] } L2 v3 hR3 hL2)
      rw [h44, hp2, c2] at HT3
      simp only [if_false, Bool.false_eq_true] at HT3
      go_wp2_with fail
      refine HT3.out.mono ?_
      rintro e u3 ⟨rfl, hl3, L3, hs3, hL3, hp3, hR3'⟩
      go_wp2_with fail
      refine (HS.out { data := #[125] } _).mono ?_
      rintro e v5 ⟨rfl, hb5⟩
      have hR5 := hR3'.below hb5 hR3'.lt
      have HU5 := Lib.hid (HU.out { data := #[125] } L3 v5 hR5 hL3)
      rw [h125, hp3, c3] at HU5
      simp only [if_true] at HU5
      go_wp2_with fail
      refine HU5.out.mono ?_
      rintro e u5 ⟨⟨t0, p0, rfl⟩, hl5, L5, hs5, hL5, hp5, hR5'⟩
      go_wp2
      go_ret3
      exact OftA.of HV.out rfl ⟨((((((((Btt.refl B w).on hb1).next hl1).next hl2).on hb3).next hl3).on hb5).next hl5), L5, (((hs5.trans hs3).trans hs2).trans hs1), hL5, hp5, hR5'⟩
    | false =>
      have HV := Lib.hid (show oftenF (pl L) = .error (4, R1) by rw [HO.out]; unfold oftenF; simp [c1, n1, c2, c3])
      go_enter Try.func86, Try.ntmps86
      go_wp2_with fail
      refine (HS.out { data := #[123] } _).mono ?_
      rintro e v1 ⟨rfl, hb1⟩
      have hR1 := hR.below hb1 hR.lt
      have HT1 := Lib.hid (HT.out { data := #[123] } L v1 hR1 hL)
      rw [h123, HTT.out, c1] at HT1
      simp only [if_true] at HT1
      go_wp2_with fail
      refine HT1.out.mono ?_
      rintro e u1 ⟨rfl, hl1, L1, hs1, hL1, hp1, hR1'⟩
      have HN2 := Lib.hid (HN.out 0 L1 u1 hR1' hL1)
      rw [hp1, n1] at HN2
      go_wp2_with fail
      refine HN2.out.mono ?_
      rintro e u2 ⟨rfl, hl2, L2, hs2, hL2, hp2, hR2'⟩
      try simp only at hp2
      go_wp2_with fail
      refine (HS.out { data := #[44] } _).mono ?_
      rintro e v3 ⟨rfl, hb3⟩
      have hR3 := hR2'.below hb3 hR2'.lt
      have HT3 := Lib.hid (HT.out { data := #[44] } L2 v3 hR3 hL2)
      rw [h44, hp2, c2] at HT3
      simp only [if_false, Bool.false_eq_true] at HT3
      go_wp2_with fail
      refine HT3.out.mono ?_
      rintro e u3 ⟨rfl, hl3, L3, hs3, hL3, hp3, hR3'⟩
      go_wp2_with fail
      refine (HS.out { data := #[125] } _).mono ?_
      rintro e v5 ⟨rfl, hb5⟩
      have hR5 := hR3'.below hb5 hR3'.lt
      have HU5 := Lib.hid (HU.out { data := #[125] } L3 v5 hR5 hL3)
      rw [h125, hp3, c3] at HU5
      simp only [if_false, Bool.false_eq_true] at HU5
      go_wp2_with fail
      refine HU5.out.mono ?_
      rintro e u5 ⟨hl5, L5, hs5, hL5, hp5, rfl⟩
      exact ⟨rfl, OftA.bad HV.out ⟨((((((((Btt.refl B w).on hb1).next hl1).next hl2).on hb3).next hl3).on hb5).next hl5), L5, (((hs5.trans hs3).trans hs2).trans hs1), hL5, hp5, rfl⟩⟩
end Go.Proofs.Ytbiempopfmpohaa
