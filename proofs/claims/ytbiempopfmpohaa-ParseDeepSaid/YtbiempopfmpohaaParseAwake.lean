/-
  The document's example, that every statement of this layer asks: it returns true; nothing that was there before the call has changed. Conditions: none.
-/
import Derived.Test.YtbiempopfmpohaaParsePkg
import Derived.Test.YtbiempopfmpohaaSetWs
namespace Go.Proofs.Ytbiempopfmpohaa
open Go.RowKit

abbrev exT : ByteArray := { data := #[34, 97, 34, 32, 91, 98, 93, 42, 32, 124, 32, 33, 120] }
def exB : Rx := .mk 2 [] (fun x => inRows [(98, 98)] x) [] 0 0
def exR : Rx := .mk 8 [] noSet [exB] 0 (-1)
def exO : Rx := .mk 4 [] noSet [.mk 1 [97] noSet [] 0 0, exR] 0 0
def exN : Rx := .mk 7 [] noSet [.mk 3 [120] noSet [] 0 0] 0 0
def exA : Rx := .mk 5 [] noSet [exO, exN] 0 0
theorem ex_says : reP (bl exT) = .ok exA := by kernel_rfl
theorem ex_good : goodR exA ∧ depthR exA ≤ 200 := by
  refine ⟨?_, by decide⟩
  simp [exA, exO, exN, exR, exB, goodR, goodL, goodK, nameB, keyB, letterB]
theorem ex_set : sv (ofL [98]) = sv (fun x => inRows [(98, 98)] x) := sv_ext fun i hi => by
  unfold ofL inRows
  simp
  rw [Bool.eq_iff_iff]
  simp
  omega

/-- Nine cells, written out; without a set. -/
abbrev c9 (k : Int) (t : ByteArray) (so : Option Addr) (n : Nat) (lo hi : Int) : Array Value := #[.int .i64 k, .string t, .int .u64 0, .int .u64 0, .int .u64 0, .int .u64 0, .slice so n n, .int .i64 lo, .int .i64 hi]
abbrev c18 (k : Int) (t : ByteArray) (so : Option Addr) (n : Nat) (lo hi : Int) (k' : Int) (t' : ByteArray) (so' : Option Addr) (n' : Nat) (lo' hi' : Int) : Array Value := #[.int .i64 k, .string t, .int .u64 0, .int .u64 0, .int .u64 0, .int .u64 0, .slice so n n, .int .i64 lo, .int .i64 hi, .int .i64 k', .string t', .int .u64 0, .int .u64 0, .int .u64 0, .int .u64 0, .slice so' n' n', .int .i64 lo', .int .i64 hi']
abbrev setC (S : Nat → Bool) : Array Value := #[.int .i64 2, .string { data := #[] }, .int .u64 ((wd S 0 : Nat) : Int), .int .u64 ((wd S 1 : Nat) : Int), .int .u64 ((wd S 2 : Nat) : Int), .int .u64 ((wd S 3 : Nat) : Int), .slice none 0 0, .int .i64 0, .int .i64 0]
abbrev exSix (w : World) : World := (((((w.alloc (.cells (setC (fun x => inRows [(98, 98)] x)) 27)).alloc (.cells (c9 8 { data := #[] } (some ⟨w.heap.size, 0, none⟩) 1 0 (-1)) 27)).alloc (.cells (c18 1 { data := #[97] } none 0 0 0 8 { data := #[] } (some ⟨w.heap.size, 0, none⟩) 1 0 (-1)) 27)).alloc (.cells (c9 4 { data := #[] } (some ⟨w.heap.size + 1 + 1, 0, none⟩) 2 0 0) 27)).alloc (.cells (c9 3 { data := #[120] } none 0 0 0) 27)).alloc (.cells (c9 7 { data := #[] } (some ⟨w.heap.size + 1 + 1 + 1 + 1, 0, none⟩) 1 0 0) 27)
abbrev exRow (w : World) : Array Value := c18 4 { data := #[] } (some ⟨w.heap.size + 1 + 1, 0, none⟩) 2 0 0 7 { data := #[] } (some ⟨w.heap.size + 1 + 1 + 1 + 1, 0, none⟩) 1 0 0
theorem wd_no : ∀ k, k < 4 → wd noSet k = 0 := fun k hk => by
  match k, hk with
  | 0, _ => decide +kernel
  | 1, _ => decide +kernel
  | 2, _ => decide +kernel
  | 3, _ => decide +kernel
theorem ex_built (w : World) : ReAt ((exSix w).alloc (.cells (exRow w) 27)) ((exSix w).alloc (.cells (exRow w) 27)).heap.size exA (some ⟨w.heap.size + 1 + 1 + 1 + 1 + 1 + 1, 0, none⟩) 2 := by
  have z := wd_no
  have B1 := ((((((Blk.new w 27 (setC (fun x => inRows [(98, 98)] x))).alloc (.cells (c9 8 { data := #[] } (some ⟨w.heap.size, 0, none⟩) 1 0 (-1)) 27)).alloc (.cells (c18 1 { data := #[97] } none 0 0 0 8 { data := #[] } (some ⟨w.heap.size, 0, none⟩) 1 0 (-1)) 27)).alloc (.cells (c9 4 { data := #[] } (some ⟨w.heap.size + 1 + 1, 0, none⟩) 2 0 0) 27)).alloc (.cells (c9 3 { data := #[120] } none 0 0 0) 27)).alloc (.cells (c9 7 { data := #[] } (some ⟨w.heap.size + 1 + 1 + 1 + 1, 0, none⟩) 1 0 0) 27)).alloc (.cells (exRow w) 27)
  have B3 := ((((Blk.new ((w.alloc (.cells (setC (fun x => inRows [(98, 98)] x)) 27)).alloc (.cells (c9 8 { data := #[] } (some ⟨w.heap.size, 0, none⟩) 1 0 (-1)) 27)) 27 (c18 1 { data := #[97] } none 0 0 0 8 { data := #[] } (some ⟨w.heap.size, 0, none⟩) 1 0 (-1))).alloc (.cells (c9 4 { data := #[] } (some ⟨w.heap.size + 1 + 1, 0, none⟩) 2 0 0) 27)).alloc (.cells (c9 3 { data := #[120] } none 0 0 0) 27)).alloc (.cells (c9 7 { data := #[] } (some ⟨w.heap.size + 1 + 1 + 1 + 1, 0, none⟩) 1 0 0) 27)).alloc (.cells (exRow w) 27)
  have B5 := ((Blk.new ((((w.alloc (.cells (setC (fun x => inRows [(98, 98)] x)) 27)).alloc (.cells (c9 8 { data := #[] } (some ⟨w.heap.size, 0, none⟩) 1 0 (-1)) 27)).alloc (.cells (c18 1 { data := #[97] } none 0 0 0 8 { data := #[] } (some ⟨w.heap.size, 0, none⟩) 1 0 (-1)) 27)).alloc (.cells (c9 4 { data := #[] } (some ⟨w.heap.size + 1 + 1, 0, none⟩) 2 0 0) 27)) 27 (c9 3 { data := #[120] } none 0 0 0)).alloc (.cells (c9 7 { data := #[] } (some ⟨w.heap.size + 1 + 1 + 1 + 1, 0, none⟩) 1 0 0) 27)).alloc (.cells (exRow w) 27)
  have B7 := Blk.new (exSix w) 27 (exRow w)
  have hsz : ((exSix w).alloc (.cells (exRow w) 27)).heap.size = w.heap.size + 7 := by simp only [World.size_alloc]
  simp only [World.size_alloc] at B3 B5 B7
  change Blk ((exSix w).alloc (.cells (exRow w) 27)) _ _ _ at B1 B3 B5 B7
  rw [hsz]
  generalize (exSix w).alloc (.cells (exRow w) 27) = W at *
  have hex : ∀ (so : Option Addr) (cap : Nat) (a : Rx), a.parts = [] → cap ≤ maxLen → ReAt W (w.heap.size + 7) a so cap := fun so cap a h hc => by
    rw [ReAt_eq, h]
    exact ⟨by decide, Nat.zero_le _, hc, .inl rfl⟩
  have hR : ReAt W (w.heap.size + 7) exR (some ⟨w.heap.size, 0, none⟩) 1 := by
    rw [ReAt_eq]
    refine ⟨by decide, by decide, by decide, .inr ⟨_, _, rfl, by omega, ?_⟩⟩
    show RowAt _ _ _ _ [exB]
    rw [RowAt_cons, RowAt]
    refine ⟨⟨none, 0, ?_, hex _ _ _ rfl (by decide)⟩, trivial⟩
    unfold R9At
    simp [B1.cell, exB, Rx.kind, Rx.text, Rx.set, Rx.parts, Rx.lo, Rx.hi, mkS]
  have hO : ReAt W (w.heap.size + 7) exO (some ⟨w.heap.size + 1 + 1, 0, none⟩) 2 := by
    rw [ReAt_eq]
    refine ⟨by decide, by decide, by decide, .inr ⟨_, _, rfl, by omega, ?_⟩⟩
    show RowAt _ _ _ _ [.mk 1 [97] noSet [] 0 0, exR]
    rw [RowAt_cons, RowAt_cons, RowAt]
    refine ⟨⟨none, 0, ?_, hex _ _ _ rfl (by decide)⟩, ⟨some ⟨w.heap.size, 0, none⟩, 1, ?_, hR⟩, trivial⟩
    · unfold R9At
      simp [B3.cell, Rx.kind, Rx.text, Rx.set, Rx.parts, Rx.lo, Rx.hi, mkS, z]
    · unfold R9At
      simp [B3.cell, exR, Rx.kind, Rx.text, Rx.set, Rx.parts, Rx.lo, Rx.hi, mkS, z]
  have hN : ReAt W (w.heap.size + 7) exN (some ⟨w.heap.size + 1 + 1 + 1 + 1, 0, none⟩) 1 := by
    rw [ReAt_eq]
    refine ⟨by decide, by decide, by decide, .inr ⟨_, _, rfl, by omega, ?_⟩⟩
    show RowAt _ _ _ _ [.mk 3 [120] noSet [] 0 0]
    rw [RowAt_cons, RowAt]
    refine ⟨⟨none, 0, ?_, hex _ _ _ rfl (by decide)⟩, trivial⟩
    unfold R9At
    simp [B5.cell, Rx.kind, Rx.text, Rx.set, Rx.parts, Rx.lo, Rx.hi, mkS, z]
  rw [ReAt_eq]
  refine ⟨by decide, by decide, by decide, .inr ⟨_, _, rfl, by omega, ?_⟩⟩
  show RowAt _ _ _ _ [exO, exN]
  rw [RowAt_cons, RowAt_cons, RowAt]
  refine ⟨⟨_, _, ?_, hO⟩, ⟨_, _, ?_, hN⟩, trivial⟩
  · unfold R9At
    simp [B7.cell, exO, Rx.kind, Rx.text, Rx.set, Rx.parts, Rx.lo, Rx.hi, mkS, z]
  · unfold R9At
    simp [B7.cell, exN, Rx.kind, Rx.text, Rx.set, Rx.parts, Rx.lo, Rx.hi, mkS, z]

set_option maxRecDepth 100000 in
set_option maxHeartbeats 1000000 in
theorem awake_parse (w : World) :
    Calls Try.prog 7 #[] w fun e w' => e = .returned (.bool true) ∧ Below w.heap.size w w' := by
  have HA := Lib.hid (re_any exT (by decide) w)
  go_enter Try.func7, Try.ntmps7
  go_wp2_with fail
  refine HA.out.mono ?_
  intro e w1 ha
  obtain ⟨ao, cap, rfl, hat, hb1⟩ := ReA.ok ex_says ha
  have hbl : (((bl exT).length : Nat) : Int) = 13 := rfl
  rw [hbl]
  have HOF : Hid (∀ (b : Nat) (w : World), w.cell? ⟨b, 0, none⟩ = some (.int .u8 98) → Calls Try.prog 14 #[.slice (some ⟨b, 0, none⟩) 1 1] w fun e w' => e = .returned (sv (fun x => inRows [(98, 98)] x)) ∧ Below w.heap.size w w') := Lib.hid fun b w h => by
    rw [← ex_set]
    exact of_any (some ⟨b, 0, none⟩) 1 1 [98] rfl (by decide) (by simp) w (fun _ => ⟨b, 0, rfl, fun i hi => by obtain rfl : i = 0 := (by omega); exact h⟩)
  clear ha
  have hX := Blk.new w1 27 (rxCells exA ao cap)
  have hb2 := bal (bal hb1 (.cells (rxCells exA ao cap) 27)) (.cells #[.int .u8 98] 5)
  have hX2 := hX.alloc (.cells #[.int .u8 98] 5)
  have hY := Blk.new (w1.alloc (.cells (rxCells exA ao cap) 27)) 5 #[.int .u8 98]
  rw [World.size_alloc] at hY
  have hat2 : ReAt ((w1.alloc (.cells (rxCells exA ao cap) 27)).alloc (.cells #[.int .u8 98] 5)) ((w1.alloc (.cells (rxCells exA ao cap) 27)).alloc (.cells #[.int .u8 98] 5)).heap.size exA ao cap := hat.go (bal (bal0 w1 _) _)
  go_wp2_with fail
  refine (HOF.out _ _ (hY.cell 0)).mono ?_
  rintro e w2 ⟨rfl, hb⟩
  have hX3 := hX2.below hb hX2.lt
  have hb3 := btr hb2 hb
  have hat3 := hat2.go hb
  clear hX hX2 hY hat hat2 hb hb1 hb2 HOF
  have hX8 : Blk (exSix w2) w1.heap.size 27 (rxCells exA ao cap) := (((((hX3.alloc _).alloc _).alloc _).alloc _).alloc _).alloc _
  have hb8 : Below w.heap.size w ((exSix w2).alloc (.cells (exRow w2) 27)) := bal (bal (bal (bal (bal (bal (bal hb3 _) _) _) _) _) _) _
  have hat8 : ReAt ((exSix w2).alloc (.cells (exRow w2) 27)) ((exSix w2).alloc (.cells (exRow w2) 27)).heap.size exA ao cap := hat3.go (bal (bal (bal (bal (bal (bal (bal0 w2 _) _) _) _) _) _) _)
  have hX9 := hX8.alloc (.cells (exRow w2) 27)
  have HS := Lib.hid (refsame_any _ exA (Nat.lt_succ_self _) _ _ _ _ _ hat8 (ex_built w2))
  simp only [rxV, rxCells, show exA.parts.length = 2 from rfl, show exA.kind = 5 from rfl, show exA.text = [] from rfl, show exA.lo = 0 from rfl, show exA.hi = 0 from rfl, show exA.set = noSet from rfl, wd_no 0 (by decide), wd_no 1 (by decide), wd_no 2 (by decide), wd_no 3 (by decide), show mkS [] = { data := #[] } from rfl, Int.cast_ofNat_Int] at hX8 hX9 HS hX3 ⊢
  dsimp only [exSix, exRow, c9, c18, setC] at hX8 hX9 HS hb8 hat8
  have x0 := hX8.cell 0
  have x1 := hX8.cell 1
  have x2 := hX8.cell 2
  have x3 := hX8.cell 3
  have x4 := hX8.cell 4
  have x5 := hX8.cell 5
  have x6 := hX8.cell 6
  have x7 := hX8.cell 7
  have x8 := hX8.cell 8
  simp only [List.getElem?_toArray, List.getElem?_cons_zero, List.getElem?_cons_succ] at x0 x1 x2 x3 x4 x5 x6 x7 x8
  clear hX8 hX3 hb3 hat3
  go_wp2_with fail
  refine HS.out.mono ?_
  rintro e w4 ⟨rfl, hb4⟩
  have hX4 := hX9.below hb4 hX9.lt
  have hB4 := btr hb8 hb4
  have HK := Lib.hid (check_any exA ao cap ex_good.1 ex_good.2 w4 (hat8.go hb4))
  simp only [rxV, rxCells, show exA.parts.length = 2 from rfl, show exA.kind = 5 from rfl, show exA.text = [] from rfl, show exA.lo = 0 from rfl, show exA.hi = 0 from rfl, show exA.set = noSet from rfl, wd_no 0 (by decide), wd_no 1 (by decide), wd_no 2 (by decide), wd_no 3 (by decide), show mkS [] = { data := #[] } from rfl, Int.cast_ofNat_Int] at HK
  clear x0 x1 x2 x3 x4 x5 x6 x7 x8 hX9 hb8 hat8 HS hb4
  have x0 := hX4.cell 0
  have x1 := hX4.cell 1
  have x2 := hX4.cell 2
  have x3 := hX4.cell 3
  have x4 := hX4.cell 4
  have x5 := hX4.cell 5
  have x6 := hX4.cell 6
  have x7 := hX4.cell 7
  have x8 := hX4.cell 8
  simp only [List.getElem?_toArray, List.getElem?_cons_zero, List.getElem?_cons_succ] at x0 x1 x2 x3 x4 x5 x6 x7 x8
  go_wp2_with fail
  refine HK.out.mono ?_
  rintro e w5 ⟨rfl, hb5⟩
  have hB5 := btr hB4 hb5
  clear x0 x1 x2 x3 x4 x5 x6 x7 x8 hX4 HK
  go_wp2
  go_ret
  exact ⟨rfl, hB5⟩
end Go.Proofs.Ytbiempopfmpohaa
