/-
  Layer 5's reference as a table, continued: Row, Put. Conditions: sizes that each names.
-/
import Derived.Test.YtbnnfhpphelmfaaInternRef
namespace Go.Proofs.Ytbnnfhpphelmfaa
open Go.RowKit

/-- What Row answers. -/
def rowL (L : List (List Int)) (n : Int) : List Int := if 0 ≤ n ∧ n < L.length then L.getD n.toNat [] else []
def rowE (L : List (List Int)) (n : Int) : Int := if 0 ≤ n ∧ n < L.length then 0 else 1

set_option maxRecDepth 100000 in
theorem refrow_any (a : Nat) (L : List (List Int)) (F : Nat → Prop) (n : Int) (hm2 : L.length ≤ 5000) (w : World) (hT : RT w a L F) :
    Calls Try.prog 24 #[.pointer (some ⟨a, 0, none⟩), .int .i64 n] w fun e w' => ∃ v, e = .returned (.tuple #[v, .int .i64 (rowE L n)]) ∧ w'.ownsRow w.heap.size 3 1 v (rowL L n).length (numCells (rowL L n)) ∧ Below w.heap.size w w' := by
  obtain ⟨vo, vc, hbx, hvc, hrs⟩ := hT.rs
  have hlen : ∀ i, i < L.length → (L.getD i []).length ≤ 1000000 := fun i hi => by
    obtain ⟨v, rows, _, _, _, h4⟩ := hT.box
    obtain ⟨so, sc, _, _, h, _⟩ := h4 i hi
    exact h
  have HLEN := Lib.hid hlen
  have HRS := RsAt.hid rfl hrs
  have cb := hbx.cell 0
  simp at cb
  clear hbx hrs hT hlen
  by_cases h0 : n < 0
  · have hE := Lib.hid (show rowE L n = 1 from if_neg (by omega))
    have hL := Lib.hid (show rowL L n = [] from if_neg (by omega))
    go_enter Try.func24, Try.ntmps24
    go_wp2
    go_ret2
    exact ⟨.slice none 0 0, by rw [hE.out]; rfl, by rw [hL.out]; exact World.ownsRow_nil _ _ _ _, Below.refl _ _⟩
  · by_cases h1 : n < L.length
    · obtain ⟨k, rfl⟩ : ∃ k : Nat, n = (k : Int) := ⟨n.toNat, by omega⟩
      have hk : k < L.length := by omega
      have hE := Lib.hid (show rowE L k = 0 from if_pos (by omega))
      have hL := Lib.hid (show rowL L k = L.getD k [] from by unfold rowL; rw [if_pos (by omega), Int.toNat_natCast])
      obtain ⟨g, off, rfl, hg, hc⟩ := HRS.out (by omega)
      obtain ⟨so, sc, hsc, hsm, hcw⟩ := hc k hk
      obtain ⟨ck, hik⟩ := hcw w (Below.refl _ _)
      have HO := Lib.hid (ownints_any so (L.getD k []).length sc (L.getD k []) rfl (by have := HLEN.out k hk; omega) w hik)
      rw [← hL.out] at HO ck
      have h2 : ¬ (L.length : Int) ≤ (k : Int) := by omega
      have h3 : (0 : Int) ≤ (k : Int) := by omega
      clear hcw hc hik
      generalize rowL L k = y at *
      go_enter Try.func24, Try.ntmps24
      go_wp2_with fail
      refine HO.out.mono ?_
      rintro e w1 ⟨v, rfl, hown, hb⟩
      have HB := Lib.hid hb
      have HW := Lib.hid hown
      clear hb hown
      go_wp2
      go_ret2
      exact ⟨v, by rw [hE.out]; rfl, HW.out, HB.out⟩
    · have hE := Lib.hid (show rowE L n = 1 from if_neg (by omega))
      have hL := Lib.hid (show rowL L n = [] from if_neg (by omega))
      have h2 : (L.length : Int) ≤ n := by omega
      go_enter Try.func24, Try.ntmps24
      go_wp2
      go_ret2
      exact ⟨.slice none 0 0, by rw [hE.out]; rfl, by rw [hL.out]; exact World.ownsRow_nil _ _ _ _, Below.refl _ _⟩
end Go.Proofs.Ytbnnfhpphelmfaa
