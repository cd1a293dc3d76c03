/-
  The walks of package text, second half: onward, borders, Count: a part is looked for byte by byte. Conditions: sizes that each names.
-/
import Derived.Test.YtpcmmbbdpgfdnaaTextPkg
import Derived.Test.YtpcmmbbdpgfdnaaTextKmp
import Derived.Test.YtpcmmbbdpgfdnaaNums
namespace Go.Proofs.Ytpcmmbbdpgfdnaa
open Go.RowKit Go.Shelf

/-- The first K of p's numbers lie in block g. -/
def BdAt (W : World) (g : Nat) (p : List UInt8) (K : Nat) : Prop := g < W.heap.size ∧ ∀ i, i < K → W.cell? ⟨g, i, none⟩ = some (.int .i32 ((bd p (i + 1) : Nat) : Int))
theorem BdAt.below {W W' : World} {g K : Nat} {p : List UInt8} (h : BdAt W g p K) {n : Nat} (hb : Below n W W') (hg : g < n) (hn : n ≤ W'.heap.size) : BdAt W' g p K :=
  ⟨by omega, fun i hi => (hb.cell (p := ⟨g, i, none⟩) hg).trans (h.2 i hi)⟩

set_option maxRecDepth 100000 in
set_option maxHeartbeats 1000000 in
theorem onward_any (p : ByteArray) (hp : p.size ≤ 2147483647) (h0 : 0 < p.size) (g len cap K : Nat) (hK : K ≤ len) (t : List UInt8) (hkK : st (bl p) t ≤ K) (b : UInt8) (w : World) (hB : BdAt w g (bl p) K) :
    Calls Try.prog 25 #[.string p, .slice (some ⟨g, 0, none⟩) len cap, .int .i64 ((st (bl p) t : Nat) : Int), .int .u8 ((b.toNat : Nat) : Int)] w fun e w' => e = .returned (.int .i64 ((st (bl p) (t ++ [b]) : Nat) : Int)) ∧ Below w.heap.size w w' := by
  have HL0 := Lib.hid (Look.first (bl p) t b)
  have HBD := Lib.hid hB
  have hbl := bl_length p
  have HBL := Lib.hid hbl
  have nb := UInt8.toNat_lt b
  clear hB hbl
  generalize st (bl p) t = k0 at *
  go_enter Try.func25, Try.ntmps25
  go_wp2
  go_loopw [2] (fun i wr => ∃ k : Nat, k ≤ K ∧ k ≤ p.size ∧ i = .int .i64 k ∧ Hid (Look (bl p) t b k) ∧ Below w.heap.size w wr)
    (fun i _ => (intOf i).toNat)
  case atStart => exact ⟨k0, hkK, by have := HL0.out.le; rw [HBL.out] at this; exact this, rfl, HL0, Below.refl _ _⟩
  case round =>
    obtain ⟨k, hk, hkp, rfl, hL, hB⟩ := hrel
    by_cases hk0 : 0 < k
    · have hk0i : (0 : Int) < (k : Int) := by omega
      have ck := (hB.cell (p := ⟨g, k - 1, none⟩) HBD.out.1).trans (HBD.out.2 (k - 1) (by omega))
      rw [show k - 1 + 1 = k by omega] at ck
      have hlt := bd_lt (bl p) k hk0
      have hw : IntKind.i64.wrap ((k : Int) - 1) = ((k - 1 : Nat) : Int) := by rw [show (k : Int) - 1 = ((k - 1 : Nat) : Int) by omega]; exact IntWalk.i64_in _ (by omega)
      have i1 : ((k - 1 : Nat) : Int) < (len : Int) := by omega
      have i2 : (0 : Int) ≤ ((k - 1 : Nat) : Int) := by omega
      have HBK := Lib.hid (fun hb => hL.out.back hk0 hb)
      generalize bd (bl p) k = m at *
      have hwm : IntKind.i64.wrap (m : Int) = (m : Int) := IntWalk.i64_in _ (by omega)
      by_cases hke : k = p.size
      · have he : ((k : Int) == (p.size : Int)) = true := by simp; omega
        have HBK2 := Lib.hid (HBK.out (fun hl => by rw [HBL.out] at hl; omega))
        clear hL HBK
        subst hke
        rw [show ((p.size : Nat) : Int) - 1 = ((p.size - 1 : Nat) : Int) by omega] at hw
        have i3 : (p.size : Int) - 1 < (len : Int) := by omega
        have i4 : (0 : Int) ≤ (p.size : Int) - 1 := by omega
        go_wp2
        go_roundw
        case rel => exact ⟨m, by omega, by omega, rfl, HBK2, hB⟩
        case measure => simp [intOf]; omega
      · have hlp : k < p.size := by omega
        have he : ((k : Int) == (p.size : Int)) = false := by simp; omega
        have j0 : (0 : Int) ≤ (k : Int) := by omega
        have j1 : (k : Int) < (p.size : Int) := by omega
        have np := UInt8.toNat_lt (p[k]'hlp)
        have eg := Lib.hid (byte_get p k hlp)
        by_cases hb : p[k]'hlp = b
        · have hd : ((((p[k]'hlp).toNat : Nat) : Int) != ((b.toNat : Nat) : Int)) = false := by rw [hb]; simp
          have hd2 : ((((p[k]'hlp).toNat : Nat) : Int) == ((b.toNat : Nat) : Int)) = true := by rw [hb]; simp
          have HH := Lib.hid (hL.out.hit (by rw [HBL.out]; exact hlp) (eg.out.trans hb))
          have hwk : IntKind.i64.wrap ((k : Int) + 1) = (k : Int) + 1 := IntWalk.i64_in _ (by omega)
          clear hL HBK ck hb hw i1 i2
          go_wp2
          go_ret
          exact ⟨by rw [HH.out]; rfl, hB⟩
        · have hne : ¬ (((p[k]'hlp).toNat : Nat) : Int) = ((b.toNat : Nat) : Int) := fun e => hb (UInt8.toNat_inj.1 (by omega))
          have hd : ((((p[k]'hlp).toNat : Nat) : Int) != ((b.toNat : Nat) : Int)) = true := by simpa using hne
          have HBK2 := Lib.hid (HBK.out (fun hl e => hb (eg.out.symm.trans e)))
          clear hL HBK hb hne
          go_wp2
          go_roundw
          case rel => exact ⟨m, by omega, by omega, rfl, HBK2, hB⟩
          case measure => simp [intOf]; omega
    · obtain rfl : k = 0 := by omega
      have j1 : (0 : Int) < (p.size : Int) := by omega
      have np := UInt8.toNat_lt (p[0]'h0)
      have eg := Lib.hid (byte_get p 0 h0)
      by_cases hb : p[0]'h0 = b
      · have hd2 : ((((p[0]'h0).toNat : Nat) : Int) == ((b.toNat : Nat) : Int)) = true := by rw [hb]; simp
        have HH := Lib.hid (hL.out.hit (by rw [HBL.out]; exact h0) (eg.out.trans hb))
        clear hL hb
        go_wp2
        go_ret
        exact ⟨by rw [HH.out]; rfl, hB⟩
      · have hne : ¬ (((p[0]'h0).toNat : Nat) : Int) = ((b.toNat : Nat) : Int) := fun e => hb (UInt8.toNat_inj.1 (by omega))
        have hd2 : ((((p[0]'h0).toNat : Nat) : Int) == ((b.toNat : Nat) : Int)) = false := by simpa using hne
        have HH := Lib.hid (hL.out.miss (by rw [HBL.out]; exact h0) (fun e => hb (eg.out.symm.trans e)))
        clear hL hb hne
        go_wp2
        go_ret
        exact ⟨by rw [HH.out]; rfl, hB⟩
end Go.Proofs.Ytpcmmbbdpgfdnaa
