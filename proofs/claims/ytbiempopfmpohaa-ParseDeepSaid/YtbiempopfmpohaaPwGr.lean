/-
The grammar without a bound on its steps, as the landed parser goes through it. Conditions: none.
Brackets, an atom, how often it stands, what is not. Conditions: those that each names.
An atom, how often it stands, what is not: as the landed parser reads them. Conditions: those that each names.
-/
import Derived.Test.YtbiempopfmpohaaPwParts
import Derived.Test.YtbiempopfmpohaaPwWD
namespace Go.Proofs.Ytbiempopfmpohaa

/-- As many steps as are enough. -/
def PR (nt : NT) (d : Nat) (T : List Tk) : PAns (List Rx) := parse (5 * T.length + 5) nt d T
theorem PR_at {nt : NT} {d : Nat} {T : List Tk} {n : Nat} (hn : 5 * T.length + rankN nt < n) : parse n nt d T = PR nt d T :=
  parse_at hn (by cases nt <;> simp only [rankN] <;> omega)
theorem PR_len {nt : NT} {d : Nat} {T R : List Tk} {l : List Rx} (h : PR nt d T = .ok (l, R)) : R.length < T.length := parse_len _ _ _ _ _ _ h
def togA (k : Int) : PAns (List Rx) → PAns Rx
  | .error x => .error x
  | .ok y => .ok (tog k y.1, y.2)
def reV (d : Nat) (T : List Tk) : PAns Rx := togA 5 (PR .reL d T)
def andV (d : Nat) (T : List Tk) : PAns Rx := togA 6 (PR .andL d T)
def catV (d : Nat) (T : List Tk) : PAns Rx := togA 4 (PR .catL d T)
def notV (d : Nat) (T : List Tk) : PAns Rx := togA 4 (PR .not d T)
def atomV (d : Nat) (T : List Tk) : PAns Rx := togA 4 (PR .atom d T)
theorem togA_len {k : Int} {nt : NT} {d : Nat} {T : List Tk} {y : Rx × List Tk} (h : togA k (PR nt d T) = .ok y) : y.2.length < T.length := by
  cases hp : PR nt d T with
  | error x => rw [hp] at h; cases h
  | ok z => rw [hp] at h; cases h; exact PR_len (l := z.1) hp
def mSig (s : List UInt8) (R : List Tk) : Option (List Tk) := if sgn s R then some R.tail else none
def mBeg (R : List Tk) : Option (List Tk) := if begB R then some R else none
theorem mSig_len {s : List UInt8} (T R : List Tk) (h : mSig s T = some R) : R.length ≤ T.length := by
  unfold mSig at h
  split at h
  · cases h; simp
  · cases h
theorem mBeg_len (T R : List Tk) (h : mBeg T = some R) : R.length ≤ T.length := by
  unfold mBeg at h
  split at h
  · cases h; exact Nat.le_refl _
  · cases h
theorem re_parts (d : Nat) (T : List Tk) : PR .reL d T = partsE (andV d) (mSig [124]) (PR .reL d) T := by
  have h0 : PR .reL d T = parse (5 * T.length + 4 + 1) .reL d T := rfl
  rw [h0, parse_re, PR_at (n := 5 * T.length + 4) (nt := .andL) (by simp only [rankN]; omega)]
  unfold partsE andV
  cases h1 : PR .andL d T with
  | error x => rfl
  | ok y =>
    obtain ⟨l, R⟩ := y
    have hlen := PR_len h1
    simp only [togA, mSig]
    by_cases hc : sgn [124] R = true
    · have := sgn_len hc
      simp only [hc, if_true]
      rw [PR_at (nt := .reL) (T := R.tail) (by simp only [rankN]; omega)]
      cases PR .reL d R.tail <;> rfl
    · simp only [hc, if_false, Bool.false_eq_true]
theorem and_parts (d : Nat) (T : List Tk) : PR .andL d T = partsE (catV d) (mSig [38]) (PR .andL d) T := by
  have h0 : PR .andL d T = parse (5 * T.length + 4 + 1) .andL d T := rfl
  rw [h0, parse_and, PR_at (n := 5 * T.length + 4) (nt := .catL) (by simp only [rankN]; omega)]
  unfold partsE catV
  cases h1 : PR .catL d T with
  | error x => rfl
  | ok y =>
    obtain ⟨l, R⟩ := y
    have hlen := PR_len h1
    simp only [togA, mSig]
    by_cases hc : sgn [38] R = true
    · have := sgn_len hc
      simp only [hc, if_true]
      rw [PR_at (nt := .andL) (T := R.tail) (by simp only [rankN]; omega)]
      cases PR .andL d R.tail <;> rfl
    · simp only [hc, if_false, Bool.false_eq_true]
theorem not_one {n d : Nat} {T R : List Tk} {l : List Rx} (h : parse n .not d T = .ok (l, R)) : l = [tog 4 l] := by
  cases n with
  | zero => cases h
  | succ n =>
    rw [parse_not] at h
    repeat' split at h
    all_goals first
      | (cases h; done)
      | (cases h; rfl)
theorem atom_one {n d : Nat} {T R : List Tk} {l : List Rx} (h : parse n .atom d T = .ok (l, R)) : l = [tog 4 l] := by
  cases n with
  | zero => cases h
  | succ n =>
    rw [parse_atom] at h
    repeat' split at h
    all_goals first
      | (cases h; done)
      | (cases h; rfl)
theorem cat_parts (d : Nat) (T : List Tk) : PR .catL d T = partsE (notV d) mBeg (PR .catL d) T := by
  have h0 : PR .catL d T = parse (5 * T.length + 4 + 1) .catL d T := rfl
  rw [h0, parse_cat, PR_at (n := 5 * T.length + 4) (nt := .not) (by simp only [rankN]; omega)]
  unfold partsE notV
  cases h1 : PR .not d T with
  | error x => rfl
  | ok y =>
    obtain ⟨l, R⟩ := y
    have hlen := PR_len h1
    have h1l := not_one h1
    simp only [togA, mBeg]
    by_cases hc : begB R = true
    · simp only [hc, if_true]
      rw [PR_at (nt := .catL) (T := R) (by simp only [rankN]; omega)]
      cases PR .catL d R with
      | error x => rfl
      | ok z =>
        simp only
        rw [h1l]
        rfl
    · simp only [hc, if_false, Bool.false_eq_true]
      rw [h1l]
      rfl
theorem notV_eq (d : Nat) (T : List Tk) : notV d T = if sgn [33] T then (if 32 ≤ d then .error (8, T) else match notV (d + 1) T.tail with
      | .error x => .error x
      | .ok y => .ok (.not y.1, y.2))
    else match atomV d T with
      | .error x => .error x
      | .ok y => postF y.1 y.2 := by
  have h0 : PR .not d T = parse (5 * T.length + 4 + 1) .not d T := rfl
  unfold notV atomV
  rw [h0, parse_not]
  by_cases hc : sgn [33] T = true
  · have := sgn_len hc
    simp only [hc, if_true]
    by_cases hd : 32 ≤ d
    · simp only [hd, if_true, togA]
    · simp only [hd, if_false]
      rw [PR_at (nt := .not) (T := T.tail) (by simp only [rankN]; omega)]
      cases PR .not (d + 1) T.tail <;> rfl
  · simp only [hc, if_false, Bool.false_eq_true]
    rw [PR_at (nt := .atom) (T := T) (by simp only [rankN]; omega)]
    cases PR .atom d T with
    | error x => rfl
    | ok y =>
      obtain ⟨l, R⟩ := y
      simp only [togA]
      cases postF (tog 4 l) R with
      | error x => rfl
      | ok z => rfl
theorem atomV_eq (d : Nat) (T : List Tk) : atomV d T = if sgn [40] T then (if 32 ≤ d then .error (8, T) else match reV (d + 1) T.tail with
      | .error x => .error x
      | .ok y => if sgn [41] y.2 then .ok (y.1, y.2.tail) else .error (4, y.2))
    else match T with
      | [] => .error (4, T)
      | t :: R => match atomT t with
        | none => .error (4, T)
        | some a => .ok (a, R) := by
  have h0 : PR .atom d T = parse (5 * T.length + 4 + 1) .atom d T := rfl
  unfold atomV reV
  rw [h0, parse_atom]
  by_cases hc : sgn [40] T = true
  · have := sgn_len hc
    simp only [hc, if_true]
    by_cases hd : 32 ≤ d
    · simp only [hd, if_true, togA]
    · simp only [hd, if_false]
      rw [PR_at (nt := .reL) (T := T.tail) (by simp only [rankN]; omega)]
      cases PR .reL (d + 1) T.tail with
      | error x => rfl
      | ok y =>
        obtain ⟨l, R⟩ := y
        simp only [togA]
        by_cases hp : sgn [41] R = true
        · simp only [hp, if_true]; rfl
        · simp only [hp, if_false, Bool.false_eq_true]
  · simp only [hc, if_false, Bool.false_eq_true]
    cases T with
    | nil => rfl
    | cons t R =>
      simp only
      cases atomT t <;> rfl
end Go.Proofs.Ytbiempopfmpohaa
namespace Go.Proofs.Ytbiempopfmpohaa
open Go.RowKit

/-- f reads V at this row of tokens, in whatever world. -/
def ReadsAt (f B d : Nat) (L : List (Tk × Nat)) (ans : PAns Rx) : Prop := ∀ W, Rd W B L d → Calls Try.prog f #[.pointer (some ⟨B, 0, none⟩)] W fun e w' => PA B d L W ans e w'
theorem sgn_kind {t : Tk} {p : Nat} {L : List (Tk × Nat)} {s : List UInt8} (hL : Row ((t, p) :: L)) (hs : sgn s (pl ((t, p) :: L)) = true) : t.kind ≠ 0 := by
  rw [← hL.sign, fr_sign, Bool.and_eq_true, beq_iff_eq] at hs
  omega
def brA (d : Nat) (T : List Tk) (ans : PAns Rx) : PAns Rx := if 32 ≤ d then .error (8, T) else match ans with
  | .error x => .error x
  | .ok y => if sgn [41] y.2 then .ok (y.1, y.2.tail) else .error (4, y.2)

set_option maxRecDepth 100000 in
set_option maxHeartbeats 2000000 in
theorem pbrackets_any (B d : Nat) (hd : d ≤ 32) (t : Tk) (p : Nat) (L : List (Tk × Nat)) (hk : t.kind ≠ 0) (hL : Row ((t, p) :: L)) (f : Nat) (ef : ∀ v W, (callFunc f #[v]).run Try.prog W = .ok (.enter f #[v]) W) (ans : PAns Rx) (hf : d < 32 → ReadsAt f B (d + 1) L ans) (w : World) (hR : Rd w B ((t, p) :: L) d) :
    Calls Try.prog 95 #[.pointer (some ⟨B, 0, none⟩), .func (.func f) #[] #[]] w fun e w' => PA B d ((t, p) :: L) w (brA d (pl ((t, p) :: L)) ans) e w' := by
  have hlt := hR.lt
  have hA := hR.alloc (.cells zr9 27)
  have hF := Blk.new w 27 zr9
  have hB0 := Btt.ofB (B := B) (bal0 w (.cells zr9 27))
  have HD := Lib.hid (pdeeper_any B d hd t p L hk hL f ef ans (w.alloc (.cells zr9 27)) hA hf)
  have HS := Lib.hid (fun b W => psign_any b W)
  have HU := Lib.hid (fun (s : ByteArray) (L1 : List (Tk × Nat)) W (h : Rd W B L1 d) (hr : Row L1) => pmust_row B d L1 s W h hr)
  have h41 : bl { data := #[41] } = [41] := rfl
  clear hf hA hR
  by_cases h32 : 32 ≤ d
  · rw [if_pos h32] at HD
    have HV := Lib.hid (show brA d (pl ((t, p) :: L)) ans = .error (8, pl ((t, p) :: L)) from if_pos h32)
    go_enter Try.func95, Try.ntmps95
    go_wp2_with fail
    refine HD.out.mono ?_
    rintro e w2 ⟨hb2, L2, hs2, hL2, hp2, rfl⟩
    exact ⟨rfl, by rw [HV.out]; exact ⟨hB0.next hb2, L2, hs2, hL2, hp2, rfl⟩⟩
  rw [if_neg h32] at HD
  cases ans with
  | error x =>
    have HV := Lib.hid (show brA d (pl ((t, p) :: L)) (.error x) = .error x from if_neg h32)
    go_enter Try.func95, Try.ntmps95
    go_wp2_with fail
    refine HD.out.mono ?_
    rintro e w2 ⟨hb2, L2, hs2, hL2, hp2, rfl⟩
    exact ⟨rfl, by rw [HV.out]; exact ⟨hB0.next hb2, L2, hs2, hL2, hp2, rfl⟩⟩
  | ok y =>
    obtain ⟨a, R⟩ := y
    have HV := Lib.hid (show brA d (pl ((t, p) :: L)) (.ok (a, R)) = if sgn [41] R then .ok (a, R.tail) else .error (4, R) from if_neg h32)
    go_enter Try.func95, Try.ntmps95
    go_wp2_with fail
    refine HD.out.mono ?_
    rintro e w2 ⟨⟨ao, cap, rfl, hU⟩, hb2, L2, hs2, hL2, hp2, hR2⟩
    have hF2 := hb2.at hF (by omega)
    have hltF := hF2.lt
    have hB2 := hB0.next hb2
    have hE := Blk.new w2 27 zr9
    have hF3 := hF2.alloc (.cells zr9 27)
    have hR3 := hR2.alloc (.cells zr9 27)
    have hB3 := hB2.alloc (.cells zr9 27)
    have HU3 := Lib.hid (show ∀ W, Below w2.heap.size w2 W → ReU W (fun k => w.heap.size < k) a ao cap from fun W hb => (hU.mono (G := fun k => w.heap.size < k) fun g hg _ => by rw [World.size_alloc] at hg; omega).on hb)
    clear hF hF2 hb2 hB2 hR2 hU hB0 HD
    cases hsR : sgn [41] R with
    | true =>
      rw [hsR] at HV
      go_wp2_with (first | (refine wp_put rfl _ _ _ rfl w2.heap.size _ (rxCells a ao cap) rfl rfl hE (by rw [size_re]; rfl) rfl (by simp [Value.oneCell']) ?_; intro w5 hE5 hb5; have hF6 := hb5.at hF3 (by omega); have hR6 := hR3.own hb5 (by omega); have hB6 := hB3.own hb5 (by omega); have hU6 := HU3.out w5 ((bal0 w2 _).trans (hb5.low (n := w2.heap.size) (Nat.le_refl _) (by rw [World.size_alloc]; omega)))) | fail)
      refine (HS.out _ _).mono ?_
      rintro e w6 ⟨rfl, hb6⟩
      have hR7 := hR6.below hb6 hR6.lt
      have hF7 := hF6.below hb6 hF6.lt
      have hE7 := hE5.below hb6 hE5.lt
      have hU7 := hU6.on hb6
      have hB7 := hB6.on hb6
      have HU7 := Lib.hid (HU.out { data := #[41] } L2 w6 hR7 hL2)
      rw [h41, hp2, hsR] at HU7
      simp only [if_true] at HU7
      clear hR6 hF6 hE5 hU6 hB6 hb6
      go_wp2_with fail
      refine HU7.out.mono ?_
      rintro e w8 ⟨⟨t0, p0, rfl⟩, hb8, L8, hs8, hL8, hp8, hR8⟩
      have hF8 := hb8.at hF7 (by omega)
      have hE8 := hb8.at hE7 (by omega)
      have hU8 := hU7.btt hb8 (.inl (by omega))
      have hB8 := hB7.next hb8
      go_wp2_with (first | (refine wp_get rfl _ _ rfl w2.heap.size (rxCells a ao cap) _ rfl hE8 Try.underlying27 rfl (by rw [size_re]; rfl) ?_) | (refine wp_put rfl _ _ _ rfl w.heap.size _ (rxCells a ao cap) rfl rfl hF8 (by rw [size_re]; rfl) rfl (by simp [Value.oneCell']) ?_; intro w9 hF9 hb9) | fail)
      refine ret_blk _ _ _ _ _ rfl rfl rfl hF9 Try.underlying27 rfl (by rw [size_re]; rfl) ?_
      rw [HV.out]
      exact ⟨⟨ao, cap, rfl, hU8.to fun g hg hl => ⟨hb9.block g hl (by omega), by omega⟩⟩, hB8.own hb9 (Nat.le_refl _), L8, hs8.trans hs2, hL8, hp8, hR8.own hb9 hlt⟩
    | false =>
      rw [hsR] at HV
      go_wp2_with (first | (refine wp_put rfl _ _ _ rfl w2.heap.size _ (rxCells a ao cap) rfl rfl hE (by rw [size_re]; rfl) rfl (by simp [Value.oneCell']) ?_; intro w5 hE5 hb5; have hR6 := hR3.own hb5 (by omega); have hB6 := hB3.own hb5 (by omega)) | fail)
      refine (HS.out _ _).mono ?_
      rintro e w6 ⟨rfl, hb6⟩
      have hR7 := hR6.below hb6 hR6.lt
      have hB7 := hB6.on hb6
      have HU7 := Lib.hid (HU.out { data := #[41] } L2 w6 hR7 hL2)
      rw [h41, hp2, hsR] at HU7
      simp only [if_false, Bool.false_eq_true] at HU7
      clear hR6 hB6 hb6
      go_wp2_with fail
      refine HU7.out.mono ?_
      rintro e w8 ⟨hb8, L8, hs8, hL8, hp8, rfl⟩
      exact ⟨rfl, by rw [HV.out]; exact ⟨hB7.next hb8, L8, hs8.trans hs2, hL8, hp8, rfl⟩⟩
end Go.Proofs.Ytbiempopfmpohaa
namespace Go.Proofs.Ytbiempopfmpohaa
open Go.RowKit

theorem ent_re (v : Value) (W : World) : (callFunc 13 #[v]).run Try.prog W = .ok (.enter 13 #[v]) W := by kernel_rfl
theorem ent_not (v : Value) (W : World) : (callFunc 57 #[v]).run Try.prog W = .ok (.enter 57 #[v]) W := by kernel_rfl
/-- An atom without brackets, as the grammar sees it. -/
def plA (T : List Tk) : PAns Rx := match T with
  | [] => .error (4, T)
  | t :: R => match atomT t with
    | none => .error (4, T)
    | some a => .ok (a, R)
theorem pplain_row (B d : Nat) (L : List (Tk × Nat)) (hL : Row L) : ReadsAt 96 B d L (plA (pl L)) := by
  intro w hR
  obtain ⟨t, p, L1, rfl⟩ := hL.cons
  refine (pplain_any B d t p L1 w hR).mono ?_
  rintro e w' ⟨hb, h⟩
  cases ha : atomT t with
  | none =>
    rw [ha] at h
    have e1 : plA (pl ((t, p) :: L1)) = .error (4, pl ((t, p) :: L1)) := by
      rcases hL.parts with ⟨q, e⟩ | ⟨u, q, L', e, _, _, e2⟩
      · cases e; rfl
      · cases e; rw [e2, plA]; simp only [ha]
    rw [e1]
    exact ⟨hb, _, List.suffix_refl _, hL, rfl, h⟩
  | some a =>
    rw [ha] at h
    obtain ⟨h1, h2, h3⟩ := h
    have hk : t.kind ≠ 0 := by
      intro e
      unfold atomT at ha
      rw [if_neg (by omega), if_neg (by omega), if_neg (by omega), if_neg (by omega)] at ha
      cases ha
    obtain ⟨k1, k2⟩ := hL.tail hk
    have e1 : plA (pl ((t, p) :: L1)) = .ok (a, pl L1) := by rw [k2, plA]; simp only [ha]
    rw [e1]
    exact ⟨⟨none, 0, h1, ReU.leaf _ _ h2⟩, hb, L1, List.suffix_cons _ _, k1, rfl, h3⟩

set_option maxRecDepth 100000 in
set_option maxHeartbeats 2000000 in
theorem patom_any (B d : Nat) (hd : d ≤ 32) (L : List (Tk × Nat)) (hL : Row L) (hre : ∀ t p L1, L = (t, p) :: L1 → Row L1 → d < 32 → ReadsAt 13 B (d + 1) L1 (reV (d + 1) (pl L1))) : ReadsAt 85 B d L (atomV d (pl L)) := by
  intro w hR
  have hlt := hR.lt
  have hA := hR.alloc (.cells zr9 27)
  have hF := Blk.new w 27 zr9
  have hB0 := Btt.ofB (B := B) (bal0 w (.cells zr9 27))
  have HS := Lib.hid (fun b W => psign_any b W)
  have h40 : bl { data := #[40] } = [40] := rfl
  cases hs : sgn [40] (pl L) with
  | true =>
    obtain ⟨t, p, L1, rfl⟩ := hL.cons
    have hk := sgn_kind hL hs
    obtain ⟨hL1, hp1⟩ := hL.tail hk
    have HV := Lib.hid (show atomV d (pl ((t, p) :: L1)) = brA d (pl ((t, p) :: L1)) (reV (d + 1) (pl L1)) by
      rw [atomV_eq, hs, if_pos rfl, hp1]; rfl)
    have HB := Lib.hid (pbrackets_any B d hd t p L1 hk hL _ ent_re (reV (d + 1) (pl L1)) (fun h => hre t p L1 rfl hL1 h))
    have HP := Lib.hid (fun W h => pat_row B d ((t, p) :: L1) { data := #[40] } W h hL)
    rw [h40, hs] at HP
    clear hR hre
    rw [HV.out]
    generalize brA d (pl ((t, p) :: L1)) (reV (d + 1) (pl L1)) = ans at *
    go_enter Try.func85, Try.ntmps85
    go_wp2_with fail
    refine (HS.out _ _).mono ?_
    rintro e w1 ⟨rfl, hb1⟩
    have hA1 := hA.below hb1 hA.lt
    have hF1 := hF.below hb1 hF.lt
    have hB1 := hB0.on hb1
    go_wp2_with fail
    refine (HP.out _ hA1).mono ?_
    rintro e w2 ⟨rfl, hb2⟩
    have hA2 := hA1.below hb2 hA1.lt
    have hF2 := hF1.below hb2 hF1.lt
    have hB2 := hB1.on hb2
    clear hA hF hB0 hb1 hA1 hF1 hB1 hb2
    go_wp2_with fail
    cases ans with
    | error x =>
      refine (HB.out _ hA2).mono ?_
      rintro e w3 ⟨hb3, L3, hs3, hL3, hp3, rfl⟩
      exact ⟨rfl, hB2.next hb3, L3, hs3, hL3, hp3, rfl⟩
    | ok y =>
      refine (HB.out _ hA2).mono ?_
      rintro e w3 ⟨⟨ao, cap, rfl, hU⟩, hb3, L3, hs3, hL3, hp3, hR3⟩
      have hF3 := hb3.at hF2 (by omega)
      have hB3 := hB2.next hb3
      have hltF := hF2.lt
      go_wp2_with (first | (refine wp_put rfl _ _ _ rfl w.heap.size _ (rxCells y.1 ao cap) rfl rfl hF3 (by rw [size_re]; rfl) rfl (by simp [Value.oneCell']) ?_; intro w9 hF9 hb9) | fail)
      refine ret_blk _ _ _ _ _ rfl rfl rfl hF9 Try.underlying27 rfl (by rw [size_re]; rfl) ?_
      exact ⟨⟨ao, cap, rfl, hU.to fun g hg hl => ⟨hb9.block g hl (by omega), by omega⟩⟩, hB3.own hb9 (Nat.le_refl _), L3, hs3, hL3, hp3, hR3.own hb9 hlt⟩
  | false =>
    have HV := Lib.hid (show atomV d (pl L) = plA (pl L) by rw [atomV_eq, hs, if_neg (by decide)]; rfl)
    have HB := Lib.hid (pplain_row B d L hL)
    have HP := Lib.hid (fun W h => pat_row B d L { data := #[40] } W h hL)
    rw [h40, hs] at HP
    clear hR hre
    rw [HV.out]
    generalize plA (pl L) = ans at *
    go_enter Try.func85, Try.ntmps85
    go_wp2_with fail
    refine (HS.out _ _).mono ?_
    rintro e w1 ⟨rfl, hb1⟩
    have hA1 := hA.below hb1 hA.lt
    have hF1 := hF.below hb1 hF.lt
    have hB1 := hB0.on hb1
    go_wp2_with fail
    refine (HP.out _ hA1).mono ?_
    rintro e w2 ⟨rfl, hb2⟩
    have hA2 := hA1.below hb2 hA1.lt
    have hF2 := hF1.below hb2 hF1.lt
    have hB2 := hB1.on hb2
    clear hA hF hB0 hb1 hA1 hF1 hB1 hb2
    go_wp2_with fail
    cases ans with
    | error x =>
      refine (HB.out _ hA2).mono ?_
      rintro e w3 ⟨hb3, L3, hs3, hL3, hp3, rfl⟩
      exact ⟨rfl, hB2.next hb3, L3, hs3, hL3, hp3, rfl⟩
    | ok y =>
      refine (HB.out _ hA2).mono ?_
      rintro e w3 ⟨⟨ao, cap, rfl, hU⟩, hb3, L3, hs3, hL3, hp3, hR3⟩
      have hF3 := hb3.at hF2 (by omega)
      have hB3 := hB2.next hb3
      have hltF := hF2.lt
      go_wp2_with (first | (refine wp_put rfl _ _ _ rfl w.heap.size _ (rxCells y.1 ao cap) rfl rfl hF3 (by rw [size_re]; rfl) rfl (by simp [Value.oneCell']) ?_; intro w9 hF9 hb9) | fail)
      refine ret_blk _ _ _ _ _ rfl rfl rfl hF9 Try.underlying27 rfl (by rw [size_re]; rfl) ?_
      exact ⟨⟨ao, cap, rfl, hU.to fun g hg hl => ⟨hb9.block g hl (by omega), by omega⟩⟩, hB3.own hb9 (Nat.le_refl _), L3, hs3, hL3, hp3, hR3.own hb9 hlt⟩

/-- What rep answers. -/
def repA (d : Nat) (T : List Tk) : PAns Rx := match atomV d T with
  | .error x => .error x
  | .ok y => postF y.1 y.2
set_option maxRecDepth 100000 in
set_option maxHeartbeats 2000000 in
theorem prep_any (B d : Nat) (L : List (Tk × Nat)) (hat : ReadsAt 85 B d L (atomV d (pl L))) : ReadsAt 73 B d L (repA d (pl L)) := by
  intro w hR
  have hlt := hR.lt
  have hA := hR.alloc (.cells zr9 27)
  have hF := Blk.new w 27 zr9
  have hB0 := Btt.ofB (B := B) (bal0 w (.cells zr9 27))
  have HAT := Lib.hid (hat _ hA)
  have HO := Lib.hid (fun (L1 : List (Tk × Nat)) W (h : Rd W B L1 d) (hr : Row L1) => poften_any B d L1 W h hr)
  clear hR hat hA
  cases hv : atomV d (pl L) with
  | error x =>
    have HV := Lib.hid (show repA d (pl L) = .error x by unfold repA; rw [hv])
    rw [hv] at HAT
    clear hv
    rw [HV.out]
    go_enter Try.func73, Try.ntmps73
    go_wp2_with fail
    refine HAT.out.mono ?_
    rintro e w3 ⟨hb3, L3, hs3, hL3, hp3, rfl⟩
    exact ⟨rfl, hB0.next hb3, L3, hs3, hL3, hp3, rfl⟩
  | ok y =>
    obtain ⟨a, R⟩ := y
    have HV := Lib.hid (show repA d (pl L) = postF a R by unfold repA; rw [hv])
    rw [hv] at HAT
    clear hv
    rw [HV.out]
    have HPO := Lib.hid (post_often a R)
    cases ho : oftenF R with
    | error x =>
      obtain ⟨c, Q⟩ := x
      have HV2 := Lib.hid (show postF a R = .error (c, Q) by rw [HPO.out, ho])
      rw [HV2.out]
      go_enter Try.func73, Try.ntmps73
      go_wp2_with fail
      refine HAT.out.mono ?_
      rintro e w2 ⟨⟨ao, cap, rfl, hU⟩, hb2, L2, hs2, hL2, hp2, hR2⟩
      have hltF := hF.lt
      have hB2 := hB0.next hb2
      have hE := Blk.new w2 27 zr9
      have hR3 := hR2.alloc (.cells zr9 27)
      have hB3 := hB2.alloc (.cells zr9 27)
      have hsz2 := hb2.size
      go_wp2_with (first | (refine wp_put rfl _ _ _ rfl w2.heap.size _ (rxCells a ao cap) rfl rfl hE (by rw [size_re]; rfl) rfl (by simp [Value.oneCell']) ?_; intro w5 hE5 hb5; have hR6 := hR3.own hb5 (by omega); have hB6 := hB3.own hb5 (by omega)) | fail)
      have HO2 := Lib.hid (HO.out L2 w5 hR6 hL2)
      unfold OftA at HO2
      rw [show pl L2 = R from hp2, ho] at HO2
      refine HO2.out.mono ?_
      rintro e w3 ⟨hb3, L3, hs3, hL3, hp3, rfl⟩
      exact ⟨rfl, hB6.next hb3, L3, hs3.trans hs2, hL3, hp3, rfl⟩
    | ok z =>
      obtain ⟨⟨lo, hi, is⟩, R'⟩ := z
      have HV2 := Lib.hid (show postF a R = .ok (if is then .rep lo hi a else a, R') by rw [HPO.out, ho])
      rw [HV2.out]
      go_enter Try.func73, Try.ntmps73
      go_wp2_with fail
      refine HAT.out.mono ?_
      rintro e w2 ⟨⟨ao, cap, rfl, hU⟩, hb2, L2, hs2, hL2, hp2, hR2⟩
      have hltF := hF.lt
      have hF2 := hb2.at hF (by omega)
      have hB2 := hB0.next hb2
      have hE := Blk.new w2 27 zr9
      have hF3 := hF2.alloc (.cells zr9 27)
      have hR3 := hR2.alloc (.cells zr9 27)
      have hB3 := hB2.alloc (.cells zr9 27)
      have hsz2 := hb2.size
      have HU3 := Lib.hid (show ∀ W, Below w2.heap.size w2 W → ReU W (fun k => w.heap.size < k) a ao cap from fun W hb => (hU.mono (G := fun k => w.heap.size < k) fun g hg _ => by rw [World.size_alloc] at hg; omega).on hb)
      clear hF hF2 hb2 hB2 hR2 hU hB0
      go_wp2_with (first | (refine wp_put rfl _ _ _ rfl w2.heap.size _ (rxCells a ao cap) rfl rfl hE (by rw [size_re]; rfl) rfl (by simp [Value.oneCell']) ?_; intro w5 hE5 hb5; have hF6 := hb5.at hF3 (by omega); have hR6 := hR3.own hb5 (by omega); have hB6 := hB3.own hb5 (by omega); have hU6 := HU3.out w5 ((bal0 w2 _).trans (hb5.low (n := w2.heap.size) (Nat.le_refl _) (by rw [World.size_alloc]; omega)))) | fail)
      have HO2 := Lib.hid (HO.out L2 w5 hR6 hL2)
      unfold OftA at HO2
      rw [show pl L2 = R from hp2, ho] at HO2
      refine HO2.out.mono ?_
      rintro e w6 ⟨rfl, hb6, L6, hs6, hL6, hp6, hR7⟩
      have hF7 := hb6.at hF6 (by omega)
      have hE7 := hb6.at hE5 (by omega)
      have hU7 := hU6.btt hb6 (.inl (by omega))
      have hB7 := hB6.next hb6
      clear hF6 hE5 hU6 hB6 hb6 hR6
      have hsz7 := hB7.size
      cases is with
      | false =>
        go_wp2_with (first | (refine wp_get rfl _ _ rfl w2.heap.size (rxCells a ao cap) _ rfl hE7 Try.underlying27 rfl (by rw [size_re]; rfl) ?_) | (refine wp_put rfl _ _ _ rfl w.heap.size _ (rxCells a ao cap) rfl rfl hF7 (by rw [size_re]; rfl) rfl (by simp [Value.oneCell']) ?_; intro w9 hF9 hb9) | fail)
        refine ret_blk _ _ _ _ _ rfl rfl rfl hF9 Try.underlying27 rfl (by rw [size_re]; rfl) ?_
        exact ⟨⟨ao, cap, rfl, hU7.to fun g hg hl => ⟨hb9.block g hl (by omega), by omega⟩⟩, hB7.own hb9 (Nat.le_refl _), L6, hs6.trans hs2, hL6, hp6, hR7.own hb9 hlt⟩
      | true =>
        have hG := Blk.new w6 27 (rxCells a ao cap)
        have hF8 := hF7.alloc (.cells (rxCells a ao cap) 27)
        have hU8 := hU7.on (bal0 w6 (.cells (rxCells a ao cap) 27))
        have hR8 := hR7.alloc (.cells (rxCells a ao cap) 27)
        have hB8 := hB7.alloc (.cells (rxCells a ao cap) 27)
        have hltF6 := hF7.lt
        have hO := ReU.one (F := fun k => w.heap.size < k) 8 a ao cap lo hi hG (by omega) hU8
        have HC := Lib.hid (mk_cells 8 [a] lo hi (some ⟨w6.heap.size, 0, none⟩) 1 1 rfl)
        go_wp2_with (first | (refine wp_get rfl _ _ rfl w2.heap.size (rxCells a ao cap) _ rfl hE7 Try.underlying27 rfl (by rw [size_re]; rfl) ?_) | (refine wp_put rfl _ _ _ rfl w.heap.size _ (rxCells (.mk 8 [] noSet [a] lo hi) (some ⟨w6.heap.size, 0, none⟩) 1) rfl (by rw [HC.out]; rfl) hF8 (by rw [size_re]; rfl) rfl (by simp [Value.oneCell']) ?_; intro w9 hF9 hb9) | fail)
        refine ret_blk _ _ _ _ _ rfl rfl rfl hF9 Try.underlying27 rfl (by rw [size_re]; rfl) ?_
        exact ⟨⟨_, 1, rfl, hO.to fun g hg hl => ⟨hb9.block g hl (by omega), by omega⟩⟩, hB8.own hb9 (Nat.le_refl _), L6, hs6.trans hs2, hL6, hp6, hR8.own hb9 hlt⟩
end Go.Proofs.Ytbiempopfmpohaa
