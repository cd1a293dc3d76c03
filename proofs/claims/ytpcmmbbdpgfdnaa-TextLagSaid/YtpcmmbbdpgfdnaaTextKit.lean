/-
  Texts in the walk: slices of texts in memory; the reference's Begins. Conditions: those that each names.
-/
import Derived.Test.YtpcmmbbdpgfdnaaSetKit
import Derived.Test.YtpcmmbbdpgfdnaaTextPlain
import Derived.Laws.Strings3
import Derived.Laws.MakeOwn
import Derived.Laws.OwnMore
import Derived.Lib.Hide
namespace Go.Proofs.Ytpcmmbbdpgfdnaa
open Go.RowKit

/-- From the address on lie these texts, in a block below the bound. -/
def TAt (W : World) (ao : Option Addr) (L : List (List UInt8)) (bd : Nat) : Prop :=
  0 < L.length → ∃ g off, ao = some ⟨g, off, none⟩ ∧ g < bd ∧ ∀ i, i < L.length → W.cell? ⟨g, off + i, none⟩ = some (.string (mkS (L.getD i [])))
theorem TAt.below {W W' : World} {ao : Option Addr} {L : List (List UInt8)} {bd n : Nat} (h : TAt W ao L bd) (hb : Below n W W') (hn : bd ≤ n) : TAt W' ao L bd := by
  intro hp
  obtain ⟨g, off, hg, hlt, hc⟩ := h hp
  exact ⟨g, off, hg, hlt, fun i hi => (hb.cell (p := ⟨g, _, none⟩) (by simp only; omega)).trans (hc i hi)⟩
theorem TAt.mono {W : World} {ao : Option Addr} {L : List (List UInt8)} {bd n : Nat} (h : TAt W ao L bd) (hn : bd ≤ n) : TAt W ao L n := by
  intro hp
  obtain ⟨g, off, hg, hlt, hc⟩ := h hp
  exact ⟨g, off, hg, by omega, hc⟩
/-- The cells of a row of texts. -/
abbrev strCells (L : List (List UInt8)) : List Value := L.map fun l => Value.string (mkS l)
theorem info_string : (Try.prog.info? 9).map (fun i => (i.zero, i.size, i.bytes)) = some (some (.string ByteArray.empty), 1, 16) := by kernel_rfl
theorem TAt.of_owns {W : World} {base : Nat} {v : Value} {L : List (List UInt8)} (h : W.ownsRow base 9 1 v L.length (strCells L)) : ∃ ao cap, v = .slice ao L.length cap ∧ L.length ≤ cap ∧ TAt W ao L W.heap.size := by
  obtain ⟨hl, h⟩ := h
  rcases h with ⟨rfl, h0⟩ | ⟨g, cap, cur, rfl, _, hb, hn, _, hsz, ht⟩
  · exact ⟨none, 0, by rw [h0], by omega, fun hp => by omega⟩
  · refine ⟨_, cap, rfl, hn, fun _ => ⟨g, 0, rfl, lt_of_block hb, fun i hi => ?_⟩⟩
    have : W.cell? ⟨g, 0 + i, none⟩ = cur[i]? := by simp [World.cell?, hb]
    rw [this]
    have h2 : (cur.toList.take (L.length * 1))[i]? = (strCells L)[i]? := by rw [ht]
    rw [List.getElem?_take_of_lt (by omega)] at h2
    simp [List.getD, hi] at h2 ⊢
    exact h2

theorem ret_bool' {a b : Bool} (h : a = b) : Ending.returned (.bool a) = .returned (.bool b) := by rw [h]

theorem begins_any (f s : ByteArray) (w : World) :
    Calls Try.prog 23 #[.string f, .string s] w fun e w' => e = .returned (.bool (beg (bl f) (bl s))) ∧ w' = w := by
  by_cases h : f.size ≤ s.size
  · have h1 : (f.size : Int) ≤ (s.size : Int) := by omega
    have h2 : (0 : Int) ≤ (f.size : Int) := by omega
    have he : beg (bl f) (bl s) = ((s.extract 0 f.size).toList == f.toList) := by
      rw [eq_bl, extract_to, bl_mkS]
      unfold beg
      rw [bl_length]
    have HE := Lib.hid he
    clear he
    go_enter Try.func23, Try.ntmps23
    go_wp2
    go_ret
    exact ⟨ret_bool' HE.out.symm, rfl⟩
  · have h1 : ¬ (f.size : Int) ≤ (s.size : Int) := by omega
    have he : beg (bl f) (bl s) = false := by
      rw [Bool.eq_false_iff]
      intro hb
      have := beg_len hb
      rw [bl_length, bl_length] at this
      omega
    have HE := Lib.hid he
    clear he
    go_enter Try.func23, Try.ntmps23
    go_wp2
    go_ret
    exact ⟨ret_bool' HE.out.symm, rfl⟩
end Go.Proofs.Ytpcmmbbdpgfdnaa
