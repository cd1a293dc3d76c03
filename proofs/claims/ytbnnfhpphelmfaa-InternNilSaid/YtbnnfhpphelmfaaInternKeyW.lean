/-
  The walks of package intern's keyOf and rowOf. Conditions: the numbers lie in memory as a slice, at most 1000 of them.
-/
import Derived.Test.YtbnnfhpphelmfaaInternKey
import Derived.Test.YtbnnfhpphelmfaaInternSort
import Derived.Test.YtbnnfhpphelmfaaMem
import Derived.Laws.BytesArg
namespace Go.Proofs.Ytbnnfhpphelmfaa
open Go.RowKit

theorem info_u8 : (Try.prog.info? 5).map (fun i => (i.zero, i.size, i.bytes)) = some (some (.int .u8 0), 1, 1) := by kernel_rfl
abbrev byCells (L : List Int) : List Value := L.map (Value.int .u8)
theorem owns_make {W : World} (base n : Nat) (hb : base ≤ W.heap.size) (hn : n ≤ maxLen) (cur : Array Value) (hc : cur.size = n) (e : TypeId) :
    (W.alloc (.cells cur e)).ownsRow base e 1 (.slice (some ⟨W.heap.size, 0, none⟩) 0 n) 0 [] :=
  ⟨rfl, .inr ⟨W.heap.size, n, cur, rfl, hb, heap_alloc_new W _, Nat.zero_le _, hn, by omega, by simp⟩⟩

set_option maxRecDepth 100000 in
set_option maxHeartbeats 1000000 in
theorem key_any (ao : Option Addr) (len cap : Nat) (L : List Int) (hl : L.length = len) (hm : len ≤ 1000) (w : World) (hA : IAt w ao L w.heap.size) :
    Calls Try.prog 29 #[.slice ao len cap] w fun e w' => e = .returned (.string (strOfNums (keyI L))) ∧ Below w.heap.size w w' := by
  have HA := IAt.hid hl hA
  have HK := Lib.hid (fun k (h : k < len) => keyI_take L k (by omega))
  have HE := Lib.hid (show keyI (L.take len) = keyI L by rw [← hl, List.take_length])
  have HKL := Lib.hid (fun k (h : k ≤ len) => show (keyI (L.take k)).length = 8 * k by rw [keyI_len, List.length_take]; omega)
  obtain ⟨ii, hi, hz0, hz1, hz2⟩ := info_parts info_u8
  have hmk : ∀ W : World, (Instr.makeSlice 62 (.int .i64 0) (.int .i64 (8 * (len : Int)))).run Try.prog W = .ok (.slice (some ⟨W.heap.size, 0, none⟩) 0 (8 * len)) (W.alloc (.cells (madeCells (Value.int .u8 0).cells (8 * len)) 5)) := fun W => by
    have := run_make (P := Try.prog) W 62 5 ii (.int .u8 0) Try.underlying62 hi hz0 .i64 .i64 0 (8 * (len : Int)) (by omega) (by omega) (by rw [hz2]; omega) (by omega)
    rw [this, hz1, Nat.mul_one, show (8 * (len : Int)).toNat = 8 * len by omega]
    rfl
  clear hl hA
  go_enter Try.func29, Try.ntmps29
  go_wp2
  go_loopw [3, 13] (fun v i wr => ∃ k : Nat, k ≤ len ∧ i = .int .i64 k ∧ wr.ownsRow w.heap.size 5 1 v (8 * k) (byCells (keyI (L.take k))) ∧ Below w.heap.size w wr)
    (fun _ i _ => len - (intOf i).toNat)
  case atStart => exact ⟨0, Nat.zero_le _, rfl, owns_make _ _ (Nat.le_refl _) (by unfold maxLen; omega) _ (by simp [madeCells]) _, bal (Below.refl _ _) _⟩
  case round =>
    obtain ⟨k, hk, rfl, hown, hB⟩ := hrel
    by_cases hlt : k < len
    · obtain ⟨g, off, rfl, hg, hc⟩ := HA.out (by omega)
      have eL := hc k hlt wr hB
      have i0 : (0 : Int) ≤ (k : Int) := by omega
      have i1 : (k : Int) < (len : Int) := by omega
      have HX := Lib.hid (HK.out k hlt)
      clear hc
      generalize L.getD k 0 = x at *
      go_wp2
      go_loopw [3, 17] (fun v i wr => ∃ p : Nat, p ≤ 8 ∧ i = .int .i64 p ∧ wr.ownsRow w.heap.size 5 1 v (8 * k + p) (byCells (keyI (L.take k) ++ byts x p)) ∧ Below w.heap.size w wr)
        (fun _ i _ => 8 - (intOf i).toNat)
      case atStart => exact ⟨0, Nat.zero_le _, rfl, by simpa [byts] using hown, hB⟩
      case round =>
        obtain ⟨p, hp, rfl, hown, hB⟩ := hrel
        by_cases hlt2 : p < 8
        · have j1 : (p : Int) < 8 := by omega
          have HS := Lib.hid (byts_succ x p)
          have HV := Lib.hid (show IntKind.u64.wrap x / 2 ^ (8 * p) % 256 = (byt x p : Int) by
            have e1 : IntKind.u64.wrap x = ((uN x : Nat) : Int) := by rw [uN_cast]; rfl
            rw [e1]
            unfold byt
            push_cast
            rfl)
          have hsz := hB.size
          go_wp2_with (first | (at_builtin; refine wpList_append_own _ rfl _ _ 62 rfl w.heap.size 5 ii (.int .u8 0) 1 1 Try.underlying62 hi hz0 hz1 hz2 rfl (by decide) _ _ _ rfl (hown.alloc _) ⟨wr.heap.size, 0, none⟩ 1 1 [.int .u8 (IntKind.u64.wrap x / 2 ^ (8 * p) % 256)] rfl rfl (cell_one_new _ _ _) (by simp [Value.oneCell']) (by unfold maxLen; omega) (by omega) (by simp; omega) ?_; intro v' w3 hown3 hg3 _; rw [HV.out] at hown3) | fail)
          go_roundw
          case rel =>
            refine ⟨p + 1, by omega, by go_num, ?_, ?_⟩
            · rw [HS.out]
              simpa [byCells, Nat.add_assoc] using hown3
            · exact (bal hB _).trans (grown_lowN (hown.alloc _) (by simp; omega) hg3)
          case measure => simp [intOf]; omega
        · obtain rfl : p = 8 := by omega
          have hp8 : ¬ ((8 : Nat) : Int) < 8 := by omega
          have HXX := Lib.hid (show byCells (keyI (L.take (k + 1))) = byCells (keyI (L.take k) ++ byts x 8) by rw [HX.out])
          go_wp2
          go_roundw
          case rel => exact ⟨k + 1, by omega, by go_num, by rw [HXX.out]; exact hown, hB⟩
          case measure => simp [intOf]; omega
    · obtain rfl : k = len := by omega
      rw [HE.out] at hown
      have hlen := HKL.out k (Nat.le_refl _)
      rw [HE.out] at hlen
      obtain ⟨vo, vc, rfl, _⟩ := owns_form hown
      have hcv : ∀ dst, Try.prog.underlying dst = some .string → (convert 62 dst (.slice vo (8 * k) vc)).run Try.prog wr = .ok (.string (strOfNums (keyI L))) wr := by
        rcases hown.2 with ⟨e, hz⟩ | ⟨g, c, cur, e, _⟩
        · obtain ⟨rfl, _⟩ := Value.slice.inj e
          have hk0 : keyI L = [] := List.eq_nil_of_length_eq_zero (by omega)
          rw [hk0]
          exact run_convert_bytes_nil (P := Try.prog) wr 62 5 Try.underlying62 Try.underlying5 _ _
        · obtain ⟨rfl, _⟩ := Value.slice.inj e
          refine run_convert_bytes_arg (P := Try.prog) wr 62 5 Try.underlying62 Try.underlying5 g 0 (8 * k) _ (keyI L) hlen fun i hi => ?_
          rw [Nat.zero_add, hown.cellAt i (by omega)]
          simp [byCells, List.getD, List.getElem?_eq_getElem (show i < (keyI L).length by omega)]
      have hcv' := hcv 9 Try.underlying9
      clear hcv
      go_wp2
      go_ret
      exact ⟨rfl, hB⟩
end Go.Proofs.Ytbnnfhpphelmfaa
