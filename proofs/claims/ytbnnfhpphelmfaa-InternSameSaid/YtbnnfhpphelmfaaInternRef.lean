/-
  Layer 5's reference as a table: Find, Put, Row over a list of rows in memory of its own. Conditions: sizes that each names.
-/
import Derived.Test.YtbnnfhpphelmfaaInts
import Derived.Test.YtbnnfhpphelmfaaInternSort
import Derived.Deep.RegionLaw
import Derived.WideShapes
namespace Go.Proofs.Ytbnnfhpphelmfaa
open Go.RowKit

/-- The number of the first row that is s. -/
def posTo (s : List Int) : List (List Int) → Option Nat
  | [] => none
  | x :: r => if x = s then some 0 else (posTo s r).map (· + 1)
theorem posTo_skip (s : List Int) (L : List (List Int)) (k : Nat) (hk : k < L.length) (h : L.getD k [] ≠ s) : (posTo s (L.drop k)) = (posTo s (L.drop (k + 1))).map (· + 1) := by
  rw [List.drop_eq_getElem_cons hk, posTo, if_neg (by simpa [List.getD, hk] using h)]
theorem posTo_hit (s : List Int) (L : List (List Int)) (k : Nat) (hk : k < L.length) (h : L.getD k [] = s) : posTo s (L.drop k) = some 0 := by
  rw [List.drop_eq_getElem_cons hk, posTo, if_pos (by simpa [List.getD, hk] using h)]
theorem posTo_lt {s : List Int} : ∀ {L : List (List Int)} {n : Nat}, posTo s L = some n → n < L.length ∧ L.getD n [] = s
  | [], n, h => by cases h
  | x :: r, n, h => by
    rw [posTo] at h
    split at h
    · rename_i hx
      cases h
      exact ⟨by simp, by simpa using hx⟩
    · cases hp : posTo s r with
      | none => rw [hp] at h; cases h
      | some m =>
        rw [hp] at h
        cases h
        have := posTo_lt hp
        exact ⟨by simpa using this.1, by simpa using this.2⟩
theorem posTo_none {s : List Int} : ∀ {L : List (List Int)}, posTo s L = none → s ∉ L
  | [], _ => by simp
  | x :: r, h => by
    rw [posTo] at h
    split at h
    · cases h
    · rename_i hx
      cases hp : posTo s r with
      | none =>
        have := posTo_none hp
        intro hm
        rcases List.mem_cons.1 hm with rfl | hm
        · exact hx rfl
        · exact this hm
      | some m => rw [hp] at h; cases h

/-- The reference's table: a block that holds the slice of its rows; all in blocks of F. -/
structure RT (W : World) (a : Nat) (L : List (List Int)) (F : Nat → Prop) : Prop where
  box : ∃ v rows, Blk W a 33 #[v] ∧ W.ownsRow 0 22 1 v L.length rows ∧ (∀ k, v.ownBlock = some k → F k ∧ k ≠ a) ∧
    ∀ i, i < L.length → ∃ so sc, rows[i]? = some (.slice so (L.getD i []).length sc) ∧ (L.getD i []).length ≤ sc ∧ (L.getD i []).length ≤ 1000000 ∧ RowIn W (fun k => F k ∧ k ≠ a ∧ v.ownBlock ≠ some k) so (L.getD i [])
  fa : F a
  lt : ∀ k, F k → k < W.heap.size
theorem RT.but {W W' : World} {a : Nat} {L : List (List Int)} {F G : Nat → Prop} (h : RT W a L F) (hb : But G W W') (hd : ∀ k, F k → ¬ G k) : RT W' a L F := by
  obtain ⟨v, rows, h1, h2, h3, h4⟩ := h.box
  refine ⟨⟨v, rows, hb.blk h1 (hd a h.fa), hb.owns h2 fun k hk => hd k (h3 k hk).1, h3, fun i hi => ?_⟩, h.fa, fun k hk => Nat.lt_of_lt_of_le (h.lt k hk) hb.size⟩
  obtain ⟨so, sc, e1, e2, e3, e4⟩ := h4 i hi
  exact ⟨so, sc, e1, e2, e3, e4.but hb fun k hk => hd k hk.1⟩
theorem RT.below {W W' : World} {a : Nat} {L : List (List Int)} {F : Nat → Prop} (h : RT W a L F) (hb : Below W.heap.size W W') : RT W' a L F :=
  h.but (But.of_below (F := fun _ => False) hb) fun _ _ f => f
theorem RT.rs {W : World} {a : Nat} {L : List (List Int)} {F : Nat → Prop} (h : RT W a L F) : ∃ vo vc, Blk W a 33 #[.slice vo L.length vc] ∧ L.length ≤ vc ∧ RsAt W vo L W.heap.size := by
  obtain ⟨v, rows, h1, h2, h3, h4⟩ := h.box
  have hcells := fun g hg => World.ownsRow.cells h2 (g := g) hg
  rcases h2.2 with ⟨rfl, h0⟩ | ⟨g, cap, cur, rfl, _, hb, hn, hcm, _, _⟩
  · rw [h0]
    exact ⟨none, 0, h1, Nat.le_refl _, fun hp => by omega⟩
  · refine ⟨_, cap, h1, hn, fun _ => ⟨g, 0, rfl, lt_of_block hb, fun i hi => ?_⟩⟩
    obtain ⟨so, sc, e1, e2, e3, e4⟩ := h4 i hi
    have := hcells g rfl i _ e1
    rw [WideShapes.add_plain] at this
    exact ⟨so, sc, this, e2, by unfold maxLen; omega, e4.iat⟩
theorem RsAt.hid {w : World} {ao : Option Addr} {L : List (List Int)} {len : Nat} (hl : L.length = len) (h : RsAt w ao L w.heap.size) :
    Hid (0 < len → ∃ g off, ao = some ⟨g, off, none⟩ ∧ g < w.heap.size ∧ ∀ i, i < len → ∃ so sc, (L.getD i []).length ≤ sc ∧ (L.getD i []).length ≤ maxLen ∧ ∀ W : World, Below w.heap.size w W → W.cell? ⟨g, off + i, none⟩ = some (.slice so (L.getD i []).length sc) ∧ IAt W so (L.getD i []) W.heap.size) :=
  Lib.hid fun hp => by
    obtain ⟨g, off, rfl, hg, hc⟩ := h (by omega)
    refine ⟨g, off, rfl, hg, fun i hi => ?_⟩
    obtain ⟨so, sc, h1, h2, h3, h4⟩ := hc i (by omega)
    exact ⟨so, sc, h2, h3, fun W hb => ⟨(hb.cell (p := ⟨g, _, none⟩) hg).trans h1, (h4.below hb (Nat.le_refl _)).mono hb.size⟩⟩

/-- What Find answers. -/
def fnd (L : List (List Int)) (s : List Int) : Int × Bool := match posTo s L with
  | some n => ((n : Int), true)
  | none => (0, false)

set_option maxRecDepth 100000 in
theorem reffind_any (a : Nat) (L : List (List Int)) (F : Nat → Prop) (ao : Option Addr) (len cap : Nat) (xs : List Int) (hl : xs.length = len) (hm : len ≤ 1000000) (hm2 : L.length ≤ 5000) (w : World) (hT : RT w a L F) (hA : IAt w ao xs w.heap.size) :
    Calls Try.prog 22 #[.pointer (some ⟨a, 0, none⟩), .slice ao len cap] w fun e w' => e = .returned (.tuple #[.int .i64 (fnd L (srt xs)).1, .bool (fnd L (srt xs)).2]) ∧ Below w.heap.size w w' := by
  have HT := Lib.hid hT
  have HS := Lib.hid (refsort_any ao len cap xs hl hm w hA)
  have hsl := srt_length xs
  rw [hl] at hsl
  clear hT hl hA
  generalize srt xs = s at *
  go_enter Try.func22, Try.ntmps22
  go_wp2_with fail
  refine HS.out.mono ?_
  rintro e w1 ⟨oo, oc, rfl, ho1, ho2, hat, hb1⟩
  have HT1 := HT.out.below hb1
  obtain ⟨vo, vc, hbx, hvc, hrs⟩ := HT1.rs
  have HRS := RsAt.hid rfl hrs
  have HAT := Lib.hid hat
  have HBX := Lib.hid hbx
  obtain ⟨n, hn⟩ : ∃ n, L.length = n := ⟨_, rfl⟩
  obtain ⟨sl, hsl2⟩ : ∃ n, s.length = n := ⟨_, rfl⟩
  have HSL := Lib.hid hsl2
  rw [hsl2] at hsl ho1 ⊢
  have HN := Lib.hid hn
  rw [hn] at HRS HBX hm2 hvc
  clear hn HT1 hbx hrs hat hsl2 HT
  go_wp2
  go_loopw [7] (fun i wr => ∃ k : Nat, k ≤ n ∧ i = .int .i64 k ∧ Hid (posTo s L = (posTo s (L.drop k)).map (· + k)) ∧ Below w1.heap.size w1 wr)
    (fun i _ => n - (intOf i).toNat)
  case atStart => exact ⟨0, Nat.zero_le _, rfl, Lib.hid (by rw [List.drop_zero]; cases posTo s L <;> rfl), Below.refl _ _⟩
  case round =>
    obtain ⟨k, hk, rfl, hpos, hW⟩ := hrel
    have hbw := HBX.out.below hW HBX.out.lt
    have cb := hbw.cell 0
    simp at cb
    have hB := btr hb1 hW
    by_cases hlt : k < n
    · obtain ⟨g, off, rfl, hg, hc⟩ := HRS.out (by omega)
      obtain ⟨so, sc, hsc, hsm, hcw⟩ := hc k hlt
      obtain ⟨ck, hik⟩ := hcw wr hW
      have HIK := Lib.hid hik
      have HSK := Lib.hid (fun h => posTo_skip s L k (by rw [HN.out]; exact hlt) h)
      have HHI := Lib.hid (fun h => posTo_hit s L k (by rw [HN.out]; exact hlt) h)
      have hat' := (HAT.out.below hW (Nat.le_refl _)).mono hW.size
      have HIN := Lib.hid (fun W h1 h2 h3 => ints2_any so oo (L.getD k []).length sc sl oc (L.getD k []) s rfl HSL.out h3 W h1 h2)
      have HATW := Lib.hid hat'
      clear hcw hc hik hat' HAT HRS
      generalize L.getD k [] = y at *
      have hlti : (k : Int) < (n : Int) := by omega
      have hk0 : (0 : Int) ≤ (k : Int) := by omega
      by_cases hys : y = s
      · have HF := Lib.hid (show fnd L s = ((k : Int), true) by
          unfold fnd
          rw [hpos.out, HHI.out hys]
          simp)
        have hde : decide (y = s) = true := decide_eq_true hys
        rw [hde] at HIN
        clear hys HSK HHI hpos
        go_wp2_with fail
        refine (HIN.out wr HIK.out HATW.out hsm).mono ?_
        rintro e w2 ⟨rfl, hb2⟩
        have hB2 := btr hB hb2
        go_wp2
        go_ret2
        exact ⟨by rw [HF.out]; rfl, hB2⟩
      · have hde : decide (y = s) = false := decide_eq_false hys
        rw [hde] at HIN
        have hpos2 := Lib.hid (show posTo s L = (posTo s (L.drop (k + 1))).map (· + (k + 1)) by
          rw [hpos.out, HSK.out hys]
          cases posTo s (L.drop (k + 1)) with
          | none => rfl
          | some m => simp; omega)
        clear hys HSK HHI hpos
        go_wp2_with fail
        refine (HIN.out wr HIK.out HATW.out hsm).mono ?_
        rintro e w2 ⟨rfl, hb2⟩
        have hW2 := btr hW hb2
        go_wp2
        go_roundw
        case rel => exact ⟨k + 1, by omega, by go_num, hpos2, hW2⟩
        case measure => simp [intOf]; omega
    · obtain rfl : k = n := by omega
      have HF := Lib.hid (show fnd L s = (0, false) by
        unfold fnd
        rw [hpos.out, List.drop_of_length_le (by rw [HN.out]; exact Nat.le_refl _)]
        rfl)
      clear hpos
      go_wp2
      go_ret2
      exact ⟨by rw [HF.out]; rfl, hB⟩
end Go.Proofs.Ytbnnfhpphelmfaa
