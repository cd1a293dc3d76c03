/-
  The walks of the reference's Strip, Lcp, Lag, Far, Count. Conditions: the texts lie in memory as a slice.
-/
import Derived.Test.YtpcmmbbdpgfdnaaTextKit
import Derived.Deep.QuietTactic
import Derived.BigQuiet
import Derived.ChangeAlike
namespace Go.Proofs.Ytpcmmbbdpgfdnaa
open Go.RowKit Go.Shelf

theorem refstrip_yes (f s : ByteArray) (h : beg (bl f) (bl s) = true) (w : World) :
    Calls Try.prog 10 #[.string f, .string s] w fun e w' => e = .returned (.tuple #[.string (mkS ((bl s).drop (bl f).length)), .int .i64 0]) ∧ w' = w := by
  have hl := beg_len h
  rw [bl_length, bl_length] at hl
  have HB := Lib.hid (begins_any f s w)
  have HE := Lib.hid (extract_from s f.size)
  have HF := Lib.hid (bl_length f)
  rw [h] at HB
  clear h
  have h1 : (f.size : Int) ≤ (s.size : Int) := by omega
  have h2 : (0 : Int) ≤ (f.size : Int) := by omega
  go_enter Try.func10, Try.ntmps10
  go_wp2_with fail
  refine HB.out.mono ?_
  rintro e w1 ⟨rfl, rfl⟩
  go_wp2
  go_ret2
  exact ⟨by rw [HE.out, HF.out]; rfl, rfl⟩
theorem refstrip_no (f s : ByteArray) (h : beg (bl f) (bl s) = false) (w : World) :
    Calls Try.prog 10 #[.string f, .string s] w fun e w' => e = .returned (.tuple #[.string (mkS []), .int .i64 1]) ∧ w' = w := by
  have HB := Lib.hid (begins_any f s w)
  rw [h] at HB
  clear h
  go_enter Try.func10, Try.ntmps10
  go_wp2_with fail
  refine HB.out.mono ?_
  rintro e w1 ⟨rfl, rfl⟩
  go_wp2
  go_ret2
  exact ⟨rfl, rfl⟩

theorem all_take (P : List UInt8 → Bool) (L : List (List UInt8)) (i : Nat) (h : i < L.length) : (L.take (i + 1)).all P = ((L.take i).all P && P (L.getD i [])) := by
  rw [List.take_succ_eq_append_getElem h, List.all_append]
  simp [List.getD, h]

set_option maxRecDepth 100000 in
set_option maxHeartbeats 1000000 in
theorem reflcp_any (ao : Option Addr) (len cap : Nat) (L : List (List UInt8)) (hl : L.length = len) (hlen : len ≤ 1099511627776) (hx : (L.getD 0 []).length ≤ 9223372036854775807) (w : World) (hS : TAt w ao L w.heap.size) :
    Calls Try.prog 14 #[.slice ao len cap] w fun e w' => e = .returned (.string (mkS (lcpL L))) ∧ Below w.heap.size w w' := by
  have HL := Lib.hid hl
  have HS := Lib.hid hS
  clear hS
  by_cases h0 : len = 0
  · subst h0
    obtain rfl : L = [] := List.eq_nil_of_length_eq_zero hl
    clear hl
    go_enter Try.func14, Try.ntmps14
    go_wp2
    go_ret
    exact ⟨rfl, Below.refl _ _⟩
  · obtain ⟨g, off, rfl, hg, hc⟩ := HS.out (by rw [HL.out]; omega)
    have c0 := hc 0 (by rw [HL.out]; omega)
    simp only [Nat.add_zero] at c0
    have HC := Lib.hid hc
    have hgr : ∀ n, (∀ s ∈ L, beg ((L.getD 0 []).take n) s = true) → (∀ m, n < m → m ≤ (L.getD 0 []).length → ¬ ∀ s ∈ L, beg ((L.getD 0 []).take m) s = true) → n ≤ (L.getD 0 []).length → mkS ((L.getD 0 []).take n) = mkS (lcpL L) := by
      intro n k1 k2 k3
      cases L with
      | nil => simp at hl; omega
      | cons x r =>
        simp only [List.getD_cons_zero] at k1 k2 k3 ⊢
        rw [lcpL_greatest (fun s hs => (beg_iff _ _).1 (k1 s hs)) (fun m h1 h2 h3 => k2 m h1 h2 fun s hs => (beg_iff _ _).2 (h3 s hs)) k3]
    have HG := Lib.hid hgr
    clear hc hgr hl
    generalize hx0 : L.getD 0 [] = x at *
    have HX := Lib.hid hx0
    clear hx0
    obtain ⟨sx, hsx⟩ : ∃ sx, mkS x = sx := ⟨_, rfl⟩
    have hbx : bl sx = x := by rw [← hsx, bl_mkS]
    have hsz : sx.size = x.length := by rw [← hsx, size_mkS]
    have HBX := Lib.hid hbx
    rw [hsx] at c0
    rw [← hsz] at hx
    have HSZ := Lib.hid hsz
    clear hsx hbx hsz
    have hl0 : ((len : Int) == 0) = false := by simp; omega
    have hl1 : (0 : Int) < (len : Int) := by omega
    go_enter Try.func14, Try.ntmps14
    go_wp2
    go_loopw [3] (fun nn wr => ∃ n : Nat, n ≤ sx.size ∧ nn = .int .i64 n ∧ Hid (∀ m, n < m → m ≤ x.length → ¬ ∀ s ∈ L, beg (x.take m) s = true) ∧ Below w.heap.size w wr)
      (fun nn _ => (intOf nn).toNat)
    case atStart => exact ⟨sx.size, Nat.le_refl _, rfl, Lib.hid (fun m h1 h2 => by have := HSZ.out; omega), Below.refl _ _⟩
    case round =>
      obtain ⟨n, hn, rfl, hmax, hB⟩ := hrel
      by_cases hn0 : 0 < n
      · have hni : (0 : Int) < (n : Int) := by omega
        go_wp2
        go_loopw [4, 5] (fun ok i wr => ∃ k : Nat, k ≤ len ∧ i = .int .i64 k ∧ ok = .bool ((L.take k).all (beg (x.take n))) ∧ Below w.heap.size w wr)
          (fun _ i _ => len - (intOf i).toNat)
        case atStart => exact ⟨0, Nat.zero_le _, rfl, rfl, hB⟩
        case round =>
          clear hB
          obtain ⟨k, hk, rfl, rfl, hB⟩ := hrel
          by_cases hlt : k < len
          · have ck := (hB.cell (p := ⟨g, off + k, none⟩) hg).trans (HC.out k (by rw [HL.out]; exact hlt))
            have cx := (hB.cell (p := ⟨g, off, none⟩) hg).trans c0
            have hst := Lib.hid (all_take (beg (x.take n)) L k (by rw [HL.out]; exact hlt))
            obtain ⟨sk, hsk⟩ : ∃ sk, mkS (L.getD k []) = sk := ⟨_, rfl⟩
            rw [hsk] at ck
            have hbk : bl sk = L.getD k [] := by rw [← hsk, bl_mkS]
            have hbe : ∀ w, Calls Try.prog 23 #[.string (sx.extract 0 n), .string sk] w fun e w' => e = .returned (.bool (beg (x.take n) (L.getD k []))) ∧ w' = w := fun w => by
              have := begins_any (sx.extract 0 n) sk w
              rwa [show bl (sx.extract 0 n) = x.take n by rw [extract_to, bl_mkS, HBX.out], hbk] at this
            have HBE := Lib.hid hbe
            clear hsk hbk hbe
            have hlti : (k : Int) < (len : Int) := by omega
            have hn1 : (n : Int) ≤ (sx.size : Int) := by omega
            have hn2 : (0 : Int) ≤ (n : Int) := by omega
            cases hok : (L.take k).all (beg (x.take n)) with
            | true =>
              rw [hok] at hst
              clear hok
              go_wp2_with fail
              go_quiet ((go_at_call 23; exact Calls.quiet_of_same (HBE.out _)))
              go_wp2
              go_roundw
              case rel => exact ⟨k + 1, by omega, by go_num, by rw [hst.out]; rfl, below_drewN hB _⟩
              case measure => simp [intOf]; omega
            | false =>
              rw [hok] at hst
              clear hok
              go_wp2_with fail
              go_quiet (fail)
              go_wp2
              go_roundw
              case rel => exact ⟨k + 1, by omega, by go_num, by rw [hst.out]; rfl, below_drewN hB _⟩
              case measure => simp [intOf]; omega
          · obtain rfl : k = len := by omega
            have htk : L.take k = L := by rw [← HL.out]; exact List.take_length
            rw [htk]
            clear htk
            have cx := (hB.cell (p := ⟨g, off, none⟩) hg).trans c0
            have hn1 : (n : Int) ≤ (sx.size : Int) := by omega
            cases hok : L.all (beg (x.take n)) with
            | true =>
              have hf := HG.out n (fun s hs => List.all_eq_true.1 hok s hs) hmax.out (by have := HSZ.out; omega)
              have he := extract_to sx n
              rw [HBX.out, hf] at he
              have HE := Lib.hid he
              clear hok hf he
              go_wp2
              go_ret
              exact ⟨by rw [HE.out]; rfl, hB⟩
            | false =>
              have hmax' : Hid (∀ m, n - 1 < m → m ≤ x.length → ¬ ∀ s ∈ L, beg (x.take m) s = true) := Lib.hid fun m h1 h2 h3 => by
                by_cases e : m = n
                · subst e
                  have := List.all_eq_true.2 h3
                  rw [hok] at this; cases this
                · exact hmax.out m (by omega) h2 h3
              clear hok
              obtain ⟨n', rfl⟩ : ∃ n', n = n' + 1 := ⟨n - 1, by omega⟩
              have hw : IntKind.i64.wrap (((n' + 1 : Nat) : Int) - 1) = (n' : Int) := by rw [IntWalk.i64_in _ (by omega)]; omega
              go_wp2
              go_roundw
              case rel => exact ⟨n', by omega, by go_num, hmax', hB⟩
              case measure => simp [intOf]
      · obtain rfl : n = 0 := by omega
        have hf := HG.out 0 (fun s _ => by rw [beg_iff]; exact List.nil_prefix) hmax.out (Nat.zero_le _)
        rw [List.take_zero] at hf
        have HF := Lib.hid hf
        clear hf
        go_wp2
        go_ret
        exact ⟨by rw [← HF.out]; rfl, hB⟩
end Go.Proofs.Ytpcmmbbdpgfdnaa
