/-
  The walk of the reference's alike: whether two bytes are in the same sets; nothing that was there before the call has changed. Conditions: bytes up to 255; the sets lie in memory as a slice, fewer than 2^40 of them.
-/
import Derived.Test.YtjfjfbefhdabeaaDoorPartKit
import Derived.Deep.RegionHeld3
import Derived.Deep.QuietTactic
import Derived.BigQuiet
namespace Go.Proofs.YtjfjfbefhdabeaaDoor
open Go.RowKit

/-- What stays while the reference looks at one set. -/
abbrev Look (w : World) (B g : Nat) (o : Nat) (S : Nat → Bool) (W : World) : Prop :=
  (W.cell? ⟨g, o, none⟩ = some (.int .u64 ((wd S 0 : Nat) : Int)) ∧ W.cell? ⟨g, o + 1, none⟩ = some (.int .u64 ((wd S 1 : Nat) : Int)) ∧ W.cell? ⟨g, o + 2, none⟩ = some (.int .u64 ((wd S 2 : Nat) : Int)) ∧ W.cell? ⟨g, o + 3, none⟩ = some (.int .u64 ((wd S 3 : Nat) : Int))) ∧ Below B w W ∧ g < B
theorem Look.step {w : World} {B g o : Nat} {S : Nat → Bool} {W W' : World} (h : Look w B g o S W) (hb : Below W.heap.size W W') (hB : B ≤ w.heap.size) : Look w B g o S W' := by
  have h1 : Below B W W' := hb.mono (Nat.le_trans hB h.2.1.size)
  exact ⟨C4At.below (S := S) h.1 h1 h.2.2, h.2.1.trans h1, h.2.2⟩
theorem Look.b {w : World} {B g o : Nat} {S : Nat → Bool} {W : World} (h : Look w B g o S W) : Below B w W := h.2.1
theorem Look.drew {w : World} {B g o : Nat} {S : Nat → Bool} {W : World} (h : Look w B g o S W) : Look w B g o S W.drew := ⟨h.1, h.2.1.drew, h.2.2⟩

theorem alk_step (L : List (Nat → Bool)) (a b k : Nat) (h : k < L.length) (hk : alk (L.take k) a b = true) : alk (L.take (k + 1)) a b = (L.getD k no a == L.getD k no b) := by
  rw [take_snoc L k h]
  unfold alk at *
  rw [List.all_append, hk]
  simp

set_option maxRecDepth 100000 in
set_option maxHeartbeats 2000000 in
theorem alike_any (ao : Option Addr) (len cap : Nat) (L : List (Nat → Bool)) (hl : L.length = len) (hlen : len ≤ 1099511627776) (a b : Nat) (ha : a ≤ 255) (hb : b ≤ 255) (w : World) (hS : SAt w ao L w.heap.size) :
    Calls Tryd.prog 30 #[.slice ao len cap, .int .i64 (a : Int), .int .i64 (b : Int)] w fun e w' => e = .returned (.bool (alk L a b)) ∧ Below w.heap.size w w' := by
  have HL := Lib.hid hl
  have HS := Lib.hid hS
  clear hl hS
  go_enter Tryd.func30, Tryd.ntmps30
  go_wp2
  go_loopw [7] (fun i wr => ∃ k : Nat, k ≤ len ∧ i = .int .i64 k ∧ Hid (alk (L.take k) a b = true) ∧ Below w.heap.size w wr)
    (fun i _ => len - (intOf i).toNat)
  case atStart => exact ⟨0, Nat.zero_le _, rfl, Lib.hid rfl, Below.refl _ _⟩
  case round =>
    obtain ⟨k, hk, rfl, hal, hB⟩ := hrel
    by_cases hlt : k < len
    · obtain ⟨g, off, rfl, hg, hc⟩ := HS.out (by rw [HL.out]; omega)
      have h4 := (hc k (by rw [HL.out]; exact hlt)).below hB hg
      have hst := Lib.hid (alk_step L a b k (by rw [HL.out]; exact hlt) hal.out)
      have hmem := Lib.hid (show L.getD k no ∈ L from by
        have : k < L.length := by rw [HL.out]; exact hlt
        rw [getD_mem this]; exact List.getElem_mem this)
      clear hc
      generalize L.getD k no = S at h4 hst hmem
      have HI : Look w w.heap.size g (off + k * 4) S wr.drew := Look.drew ⟨h4, hB, hg⟩
      have hlti : (k : Int) < (len : Int) := by omega
      clear h4 hB
      obtain ⟨s0, s1, s2, s3⟩ := HI.1
      go_wp2_with fail
      go_region_held3 (fun W' => (W'.cell? ⟨g, off + k * 4, none⟩ = some (.int .u64 ((wd S 0 : Nat) : Int)) ∧ W'.cell? ⟨g, off + k * 4 + 1, none⟩ = some (.int .u64 ((wd S 1 : Nat) : Int)) ∧ W'.cell? ⟨g, off + k * 4 + 2, none⟩ = some (.int .u64 ((wd S 2 : Nat) : Int)) ∧ W'.cell? ⟨g, off + k * 4 + 3, none⟩ = some (.int .u64 ((wd S 3 : Nat) : Int))) ∧ Below w.heap.size w W' ∧ g < w.heap.size)
        ((first | with_reducible exact HI | exact Look.step (by assumption) (by assumption) (Nat.le_refl _)))
        (first | (go_at_call 33; refine (refhas_any _ _ (by assumption) _).mono ?_; rintro e w' ⟨rfl, hb⟩))
      clear HI s0 s1 s2 s3
      have HB := Lib.hid (Look.b (w := w) (B := w.heap.size) (g := g) (o := off + k * 4) (S := S) (by assumption))
      by_cases hab : S a = S b
      · have e1 : (S a == S b) = true := by rw [hab]; simp
        have e2 : (!(S a == S b)) = false := by rw [e1]; rfl
        have hn : alk (L.take (k + 1)) a b = true := hst.out.trans e1
        have HN := Lib.hid hn
        clear hn hst hab
        rw [e2]
        go_wp2
        go_roundw
        case rel => exact ⟨k + 1, by omega, by go_num, HN, HB.out⟩
        case measure => simp [intOf]; omega
      · have e1 : (S a == S b) = false := by simpa using hab
        have e2 : (!(S a == S b)) = true := by rw [e1]; rfl
        have hn : alk L a b = false := by
          rw [Bool.eq_false_iff, ne_eq, alk_iff]
          exact fun h => hab (h S hmem.out)
        have HN := Lib.hid hn
        clear hn hst hab
        rw [e2]
        go_wp2
        go_ret
        exact ⟨congrArg (fun b => Ending.returned (Value.bool b)) HN.out.symm, HB.out⟩
    · obtain rfl : k = len := by omega
      have hfull : alk L a b = true := by have := hal.out; rwa [List.take_of_length_le (by rw [HL.out]; exact Nat.le_refl _)] at this
      have HF := Lib.hid hfull
      clear hfull
      go_wp2
      go_ret
      exact ⟨congrArg (fun b => Ending.returned (Value.bool b)) HF.out.symm, hB⟩
end Go.Proofs.YtjfjfbefhdabeaaDoor
