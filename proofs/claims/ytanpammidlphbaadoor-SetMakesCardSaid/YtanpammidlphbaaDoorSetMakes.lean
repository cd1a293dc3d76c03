/-
  The walk of the statement SetMakes: of any bytes, two bytes and a set it returns true; nothing that was there before the call has changed. Conditions: bytes up to 255, the table of math/bits as it is laid.
-/
import Derived.Test.YtanpammidlphbaaDoorSetAwake
import Derived.Test.YtanpammidlphbaaDoorSetOps
import Derived.Test.YtanpammidlphbaaDoorSetRef2
import Derived.Deep.RegionHeld3
namespace Go.Proofs.YtanpammidlphbaaDoor
open Go.RowKit

/-- A slice of these bytes lies in memory. -/
def Sl (W : World) (ao : Option Addr) (zs : List Nat) : Prop :=
  0 < zs.length → ∃ b off, ao = some ⟨b, off, none⟩ ∧ ∀ i, i < zs.length → W.cell? ⟨b, off + i, none⟩ = some (.int .u8 ((zs.getD i 0 : Nat) : Int))
theorem Sl.below {W W' : World} {ao : Option Addr} {zs : List Nat} (h : Sl W ao zs) (hb : Below W.heap.size W W') : Sl W' ao zs := by
  intro hp
  obtain ⟨b, off, rfl, hc⟩ := h hp
  have hg : b < W.heap.size := by
    rcases Nat.lt_or_ge b W.heap.size with h' | h'
    · exact h'
    · have := hc 0 hp; simp [World.cell?, Array.getElem?_eq_none h'] at this
  exact ⟨b, off, rfl, fun i hi => (hb.cell (p := ⟨b, _, none⟩) hg).trans (hc i hi)⟩

/-- What holds throughout: the set's block, the bytes, the table, the old memory. -/
def MakesInv (w0 : World) (ao : Option Addr) (zs : List Nat) (S : Nat → Bool) (W : World) : Prop := Blk W w0.heap.size 25 (cells4 S) ∧ Sl W ao zs ∧ Tab W ∧ Below w0.heap.size w0 W
abbrev MakesS (w : World) (ao : Option Addr) (zs : List Nat) (S : Nat → Bool) (W : World) : Prop :=
  (W.cell? ⟨w.heap.size, 0, none⟩ = some (.int .u64 ((wd S 0 : Nat) : Int)) ∧ W.cell? ⟨w.heap.size, 1, none⟩ = some (.int .u64 ((wd S 1 : Nat) : Int)) ∧ W.cell? ⟨w.heap.size, 2, none⟩ = some (.int .u64 ((wd S 2 : Nat) : Int)) ∧ W.cell? ⟨w.heap.size, 3, none⟩ = some (.int .u64 ((wd S 3 : Nat) : Int))) ∧ MakesInv w ao zs S W
theorem MakesInv.step {w0 : World} {ao : Option Addr} {zs : List Nat} {S : Nat → Bool} {W W' : World} (hb : Below W.heap.size W W') (h : MakesInv w0 ao zs S W) : MakesInv w0 ao zs S W' :=
  ⟨h.1.below hb h.1.lt, h.2.1.below hb, h.2.2.1.below' hb, btr h.2.2.2 hb⟩
theorem makesS_step {w0 : World} {ao : Option Addr} {zs : List Nat} {S : Nat → Bool} {W W' : World} (hb : Below W.heap.size W W') (h : MakesS w0 ao zs S W) : MakesS w0 ao zs S W' :=
  ⟨(h.2.step hb).1.cells, h.2.step hb⟩
theorem makesS_tab {w0 : World} {ao : Option Addr} {zs : List Nat} {S : Nat → Bool} {W : World} (h : MakesS w0 ao zs S W) : Tab W := h.2.2.2.1
theorem makesS_sl {w0 : World} {ao : Option Addr} {zs : List Nat} {S : Nat → Bool} {W : World} (h : MakesS w0 ao zs S W) : Sl W ao zs := h.2.2.1
theorem makesS_below {w0 : World} {ao : Option Addr} {zs : List Nat} {S : Nat → Bool} {W : World} (h : MakesS w0 ao zs S W) : Below w0.heap.size w0 W := h.2.2.2.2
theorem of_sl (ao : Option Addr) (len cap : Nat) (zs : List Nat) (hl : zs.length = len) (hlen : len ≤ 300) (hz : ∀ z ∈ zs, z ≤ 255) (w : World) (h : Sl w ao zs) :
    Calls Tryd.prog 8 #[.slice ao len cap] w fun e w' => e = .returned (sv (ofL zs)) ∧ Below w.heap.size w w' :=
  of_any ao len cap zs hl (by omega) hz w (by rw [← hl]; exact h)
theorem refof_sl (ao : Option Addr) (len cap : Nat) (zs : List Nat) (hl : zs.length = len) (hlen : len ≤ 300) (hz : ∀ z ∈ zs, z ≤ 255) (w : World) (h : Sl w ao zs) :
    Calls Tryd.prog 9 #[.slice ao len cap] w fun e w' => e = .returned (sv (ofL zs)) ∧ Below w.heap.size w w' :=
  refof_any ao len cap zs hl (by omega) hz w (by rw [← hl]; exact h)

set_option maxRecDepth 100000 in
set_option maxHeartbeats 4000000 in
theorem setMakes_walk (ao : Option Addr) (len cap : Nat) (zs : List Nat) (a z : Nat) (S : Nat → Bool) (hl : zs.length = len) (hz : ∀ z ∈ zs, z ≤ 255) (ha : a ≤ 255) (hz' : z ≤ 255) (w : World) (hT : Tab w) (hs : Sl w ao zs) :
    Calls Tryd.prog 3 #[.slice ao len cap, .int .u8 a, .int .u8 z, sv S] w fun e w' => e = .returned (.bool true) ∧ Below w.heap.size w w' := by
  have HL := Lib.hid hl
  have HZ := Lib.hid hz
  have HS := Lib.hid hs
  clear hl hz hs
  by_cases hlen : 300 < len
  · go_enter Tryd.func3, Tryd.ntmps3
    go_wp2
    go_ret
    exact ⟨rfl, bal (Below.refl _ _) _⟩
  · have hle : len ≤ 300 := by omega
    have hq1 := eq_sets (ofL zs)
    have hq2 := eq_sets (fromTo a (z + 1))
    have hq3 : (S a == S a) = true := by simp
    have hwa : IntKind.i64.wrap (a : Int) = (a : Int) := IntWalk.i64_in _ (by omega)
    have hgd := guard25
    go_enter Tryd.func3, Tryd.ntmps3
    go_wp2_with fail
    have HB : MakesInv w ao zs S (w.alloc (.cells (cells4 S) 25)).drew := ⟨(Blk.new w 25 (cells4 S)).drew, HS.out.below (bal (Below.refl w.heap.size w) _).drew, hT.below' (bal (Below.refl w.heap.size w) _).drew, (bal (Below.refl w.heap.size w) _).drew⟩
    have HI : MakesS w ao zs S (w.alloc (.cells (cells4 S) 25)).drew := ⟨HB.1.cells, HB⟩
    clear HB
    obtain ⟨W, hW⟩ : ∃ W, w.alloc (.cells (cells4 S) 25) = W := ⟨_, rfl⟩
    rw [hW] at HI ⊢
    clear hW hT
    go_region_held3 (fun W' => (W'.cell? ⟨w.heap.size, 0, none⟩ = some (.int .u64 ((wd S 0 : Nat) : Int)) ∧ W'.cell? ⟨w.heap.size, 1, none⟩ = some (.int .u64 ((wd S 1 : Nat) : Int)) ∧ W'.cell? ⟨w.heap.size, 2, none⟩ = some (.int .u64 ((wd S 2 : Nat) : Int)) ∧ W'.cell? ⟨w.heap.size, 3, none⟩ = some (.int .u64 ((wd S 3 : Nat) : Int))) ∧ MakesInv w ao zs S W')
      ((first | with_reducible exact HI | exact makesS_step (by assumption) (by assumption)))
      (first | (go_at_call 7; refine (awake_any _ (makesS_tab (by assumption))).mono ?_; rintro e w' ⟨rfl, hb⟩) | (go_at_call 8; refine (of_sl _ _ _ zs HL.out hle HZ.out _ (makesS_sl (by assumption))).mono ?_; rintro e w' ⟨rfl, hb⟩) | (go_at_call 9; refine (refof_sl _ _ _ zs HL.out hle HZ.out _ (makesS_sl (by assumption))).mono ?_; rintro e w' ⟨rfl, hb⟩) | (go_at_call 10; refine (span_any a z ha hz' _).mono ?_; rintro e w' ⟨rfl, hb⟩) | (go_at_call 11; refine (refspan_any a z ha hz' _).mono ?_; rintro e w' ⟨rfl, hb⟩) | (go_at_call 12; refine (has_any S a ha _).mono ?_; rintro e w' ⟨rfl, hb⟩) | (go_at_call 13; refine (refhas_any S a ha _).mono ?_; rintro e w' ⟨rfl, hb⟩))
    go_wp2
    go_ret
    exact ⟨rfl, makesS_below (by assumption)⟩
end Go.Proofs.YtanpammidlphbaaDoor
