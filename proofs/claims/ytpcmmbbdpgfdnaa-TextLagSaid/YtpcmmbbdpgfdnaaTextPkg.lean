/-
  The walks of package text, first half: same, Strip, Lag, Far, Lcp. Conditions: sizes that each names; the texts lie in memory as a slice.
-/
import Derived.Test.YtpcmmbbdpgfdnaaTextClone
import Derived.Test.YtpcmmbbdpgfdnaaPast
import Derived.Deep.QuietTactic
namespace Go.Proofs.Ytpcmmbbdpgfdnaa
open Go.RowKit Go.Shelf

theorem byte_get (a : ByteArray) (k : Nat) (h : k < a.size) : (bl a)[k]'(by rw [bl_length]; exact h) = a[k] := rfl

set_option maxRecDepth 100000 in
set_option maxHeartbeats 1000000 in
theorem same_any (a b : ByteArray) (ha : a.size ≤ 4294967296) (hb : b.size ≤ 4294967296) (w : World) :
    Calls Try.prog 21 #[.string a, .string b] w fun e w' => e = .returned (.int .i64 ((lcpN (bl a) (bl b) : Nat) : Int)) ∧ Below w.heap.size w w' := by
  by_cases hm : b.size < a.size
  · have hmi : (b.size : Int) < (a.size : Int) := by omega
    have hmin : min (a.size : Int) (b.size : Int) = (b.size : Int) := by omega
    have HMIN := Lib.hid hmin
    clear hmin
    go_enter Try.func21, Try.ntmps21
    go_wp2
    go_loopw [13] (fun i wr => ∃ k : Nat, k ≤ b.size ∧ i = .int .i64 k ∧ Hid ((bl a).take k = (bl b).take k) ∧ Below w.heap.size w wr)
      (fun i _ => b.size - (intOf i).toNat)
    case atStart => exact ⟨0, Nat.zero_le _, rfl, Lib.hid rfl, Below.refl _ _⟩
    case round =>
      obtain ⟨k, hk, rfl, htk, hB⟩ := hrel
      by_cases hlt : k < b.size
      · have hka : k < a.size := by omega
        have hkb : k < b.size := by omega
        have i0 : (0 : Int) ≤ (k : Int) := by omega
        have ia : (k : Int) < (a.size : Int) := by omega
        have ib : (k : Int) < (b.size : Int) := by omega
        have ea := Lib.hid (byte_get a k hka)
        have eb := Lib.hid (byte_get b k hkb)
        have na := UInt8.toNat_lt (a[k]'hka)
        have nb := UInt8.toNat_lt (b[k]'hkb)
        have hw : IntKind.i64.wrap ((k : Int) + 1) = (k : Int) + 1 := IntWalk.i64_in _ (by omega)
        by_cases hab : a[k]'hka = b[k]'hkb
        · have hd : ((((a[k]'hka).toNat : Nat) : Int) == (((b[k]'hkb).toNat : Nat) : Int)) = true := by rw [hab]; simp
          have hd' : ((((a[k]'hka).toNat : Nat) : Int) != (((b[k]'hkb).toNat : Nat) : Int)) = false := by rw [hab]; simp
          have hst := Lib.hid (show (bl a).take (k + 1) = (bl b).take (k + 1) by
            rw [List.take_succ_eq_append_getElem (by rw [bl_length]; exact hka), List.take_succ_eq_append_getElem (by rw [bl_length]; exact hkb), htk.out, ea.out, eb.out, hab])
          clear hab
          go_wp2_with fail
          go_quiet (fail)
          go_wp2
          go_roundw
          case rel => exact ⟨k + 1, by omega, by go_num, hst, below_drewN hB _⟩
          case measure => simp [intOf]; omega
        · have hne : ¬ (((a[k]'hka).toNat : Nat) : Int) = (((b[k]'hkb).toNat : Nat) : Int) := fun e => hab (UInt8.toNat_inj.1 (by omega))
          have hd : ((((a[k]'hka).toNat : Nat) : Int) == (((b[k]'hkb).toNat : Nat) : Int)) = false := by simpa using hne
          have hd' : ((((a[k]'hka).toNat : Nat) : Int) != (((b[k]'hkb).toNat : Nat) : Int)) = true := by simpa using hne
          have he := Lib.hid (show lcpN (bl a) (bl b) = k from lcpN_eq _ _ k (by rw [bl_length]; omega) (by rw [bl_length]; omega) htk.out fun h1 h2 h3 => hab (by
            rw [List.getElem?_eq_getElem h1, List.getElem?_eq_getElem h2, ea.out, eb.out] at h3
            exact Option.some.inj h3))
          clear hab hne
          go_wp2_with fail
          go_quiet (fail)
          go_wp2
          go_ret
          exact ⟨by rw [he.out]; rfl, below_drewN hB _⟩
      · obtain rfl : k = b.size := by omega
        have he := Lib.hid (show lcpN (bl a) (bl b) = b.size from lcpN_eq _ _ _ (by rw [bl_length]; omega) (by rw [bl_length]; omega) htk.out fun h1 h2 => by rw [bl_length] at h1 h2; omega)
        go_wp2
        go_ret
        exact ⟨(ret_int HMIN.out).trans (by rw [he.out]), hB⟩
  · have hmi : ¬ (b.size : Int) < (a.size : Int) := by omega
    have hmin : min (a.size : Int) (b.size : Int) = (a.size : Int) := by omega
    have HMIN := Lib.hid hmin
    clear hmin
    go_enter Try.func21, Try.ntmps21
    go_wp2
    go_loopw [13] (fun i wr => ∃ k : Nat, k ≤ a.size ∧ i = .int .i64 k ∧ Hid ((bl a).take k = (bl b).take k) ∧ Below w.heap.size w wr)
      (fun i _ => a.size - (intOf i).toNat)
    case atStart => exact ⟨0, Nat.zero_le _, rfl, Lib.hid rfl, Below.refl _ _⟩
    case round =>
      obtain ⟨k, hk, rfl, htk, hB⟩ := hrel
      by_cases hlt : k < a.size
      · have hka : k < a.size := by omega
        have hkb : k < b.size := by omega
        have i0 : (0 : Int) ≤ (k : Int) := by omega
        have ia : (k : Int) < (a.size : Int) := by omega
        have ib : (k : Int) < (b.size : Int) := by omega
        have ea := Lib.hid (byte_get a k hka)
        have eb := Lib.hid (byte_get b k hkb)
        have na := UInt8.toNat_lt (a[k]'hka)
        have nb := UInt8.toNat_lt (b[k]'hkb)
        have hw : IntKind.i64.wrap ((k : Int) + 1) = (k : Int) + 1 := IntWalk.i64_in _ (by omega)
        by_cases hab : a[k]'hka = b[k]'hkb
        · have hd : ((((a[k]'hka).toNat : Nat) : Int) == (((b[k]'hkb).toNat : Nat) : Int)) = true := by rw [hab]; simp
          have hd' : ((((a[k]'hka).toNat : Nat) : Int) != (((b[k]'hkb).toNat : Nat) : Int)) = false := by rw [hab]; simp
          have hst := Lib.hid (show (bl a).take (k + 1) = (bl b).take (k + 1) by
            rw [List.take_succ_eq_append_getElem (by rw [bl_length]; exact hka), List.take_succ_eq_append_getElem (by rw [bl_length]; exact hkb), htk.out, ea.out, eb.out, hab])
          clear hab
          go_wp2_with fail
          go_quiet (fail)
          go_wp2
          go_roundw
          case rel => exact ⟨k + 1, by omega, by go_num, hst, below_drewN hB _⟩
          case measure => simp [intOf]; omega
        · have hne : ¬ (((a[k]'hka).toNat : Nat) : Int) = (((b[k]'hkb).toNat : Nat) : Int) := fun e => hab (UInt8.toNat_inj.1 (by omega))
          have hd : ((((a[k]'hka).toNat : Nat) : Int) == (((b[k]'hkb).toNat : Nat) : Int)) = false := by simpa using hne
          have hd' : ((((a[k]'hka).toNat : Nat) : Int) != (((b[k]'hkb).toNat : Nat) : Int)) = true := by simpa using hne
          have he := Lib.hid (show lcpN (bl a) (bl b) = k from lcpN_eq _ _ k (by rw [bl_length]; omega) (by rw [bl_length]; omega) htk.out fun h1 h2 h3 => hab (by
            rw [List.getElem?_eq_getElem h1, List.getElem?_eq_getElem h2, ea.out, eb.out] at h3
            exact Option.some.inj h3))
          clear hab hne
          go_wp2_with fail
          go_quiet (fail)
          go_wp2
          go_ret
          exact ⟨by rw [he.out]; rfl, below_drewN hB _⟩
      · obtain rfl : k = a.size := by omega
        have he := Lib.hid (show lcpN (bl a) (bl b) = a.size from lcpN_eq _ _ _ (by rw [bl_length]; omega) (by rw [bl_length]; omega) htk.out fun h1 h2 => by rw [bl_length] at h1 h2; omega)
        go_wp2
        go_ret
        exact ⟨(ret_int HMIN.out).trans (by rw [he.out]), hB⟩

set_option maxRecDepth 100000 in
theorem lag_any (a b : ByteArray) (ha : a.size ≤ 4294967296) (hb : b.size ≤ 4294967296) (w : World) :
    Calls Try.prog 11 #[.string a, .string b] w fun e w' => e = .returned (.tuple #[.string (mkS ((bl a).drop (lcpN (bl a) (bl b)))), .string (mkS ((bl b).drop (lcpN (bl a) (bl b))))]) ∧ Below w.heap.size w w' := by
  have h1 := lcpN_le_left (bl a) (bl b)
  have h2 := lcpN_le_right (bl a) (bl b)
  rw [bl_length] at h1 h2
  have HA := Lib.hid (extract_from a (lcpN (bl a) (bl b)))
  have HB := Lib.hid (extract_from b (lcpN (bl a) (bl b)))
  have HC := Lib.hid (same_any a b ha hb)
  have sA : (a.extract (lcpN (bl a) (bl b)) a.size).size ≤ 281474976710656 := by rw [extract_from, size_mkS, List.length_drop, bl_length]; omega
  have sB : (b.extract (lcpN (bl a) (bl b)) b.size).size ≤ 281474976710656 := by rw [extract_from, size_mkS, List.length_drop, bl_length]; omega
  generalize lcpN (bl a) (bl b) = n at *
  have KA := Lib.hid (fun w => clone_any (a.extract n a.size) w sA)
  have KB := Lib.hid (fun w => clone_any (b.extract n b.size) w sB)
  clear sA sB
  have hn1 : (n : Int) ≤ (a.size : Int) := by omega
  have hn2 : (n : Int) ≤ (b.size : Int) := by omega
  have hn0 : (0 : Int) ≤ (n : Int) := by omega
  go_enter Try.func11, Try.ntmps11
  go_wp2_with fail
  refine (HC.out _).mono ?_
  rintro e w1 ⟨rfl, hb1⟩
  have HI := hb1
  go_wp2_with fail
  refine wp_region_past (by kernel_rfl) (by kernel_rfl) (Below.refl _ w1) ?_
  repeat (go_big_quiet_step (first | exact Calls.past (KA.out _) | exact Calls.past (KB.out _)))
  refine wpQuiet_nil ?_
  intro p
  have HB2 := Lib.hid (btr hb1 p.h)
  go_wp2
  go_ret2
  exact ⟨by rw [HA.out, HB.out]; rfl, HB2.out⟩

theorem strip_yes (f s : ByteArray) (hf : f.size ≤ 4294967296) (hs : s.size ≤ 4294967296) (h : beg (bl f) (bl s) = true) (w : World) :
    Calls Try.prog 9 #[.string f, .string s] w fun e w' => e = .returned (.tuple #[.string (mkS ((bl s).drop (bl f).length)), .int .i64 0]) ∧ Below w.heap.size w w' := by
  have hl := beg_len h
  rw [bl_length, bl_length] at hl
  have HC := Lib.hid (same_any f s hf hs)
  rw [(beg_lcp _ _).1 h, bl_length] at HC
  have HE := Lib.hid (extract_from s f.size)
  have HF := Lib.hid (bl_length f)
  have sS : (s.extract f.size s.size).size ≤ 281474976710656 := by rw [extract_from, size_mkS, List.length_drop, bl_length]; omega
  have KS := Lib.hid (fun w => clone_any (s.extract f.size s.size) w sS)
  clear h sS
  have h1 : (f.size : Int) ≤ (s.size : Int) := by omega
  have h2 : (0 : Int) ≤ (f.size : Int) := by omega
  go_enter Try.func9, Try.ntmps9
  go_wp2_with fail
  refine (HC.out _).mono ?_
  rintro e w1 ⟨rfl, hb1⟩
  go_wp2_with fail
  refine (KS.out _).mono ?_
  rintro e w2 ⟨rfl, hb2⟩
  have hB2 := btr hb1 hb2
  clear hb1 hb2
  go_wp2
  go_ret2
  exact ⟨by rw [HE.out, HF.out]; rfl, hB2⟩
theorem strip_no (f s : ByteArray) (hf : f.size ≤ 4294967296) (hs : s.size ≤ 4294967296) (h : beg (bl f) (bl s) = false) (w : World) :
    Calls Try.prog 9 #[.string f, .string s] w fun e w' => e = .returned (.tuple #[.string (mkS []), .int .i64 1]) ∧ Below w.heap.size w w' := by
  have HC := Lib.hid (same_any f s hf hs)
  have hlt : lcpN (bl f) (bl s) < f.size := by
    have h1 := lcpN_le_left (bl f) (bl s)
    rw [bl_length] at h1
    have h2 : ¬ lcpN (bl f) (bl s) = f.size := fun e => by
      have := (beg_lcp (bl f) (bl s)).2 (by rw [bl_length]; exact e)
      rw [h] at this; cases this
    omega
  clear h
  generalize lcpN (bl f) (bl s) = n at *
  have h1 : (n : Int) < (f.size : Int) := by omega
  go_enter Try.func9, Try.ntmps9
  go_wp2_with fail
  refine (HC.out _).mono ?_
  rintro e w1 ⟨rfl, hb1⟩
  go_wp2
  go_ret2
  exact ⟨rfl, hb1⟩

theorem far_any (a b : ByteArray) (ha : a.size ≤ 4294967296) (hb : b.size ≤ 4294967296) (w : World) :
    Calls Try.prog 16 #[.string a, .string b] w fun e w' => e = .returned (.int .i64 ((farN (bl a) (bl b) : Nat) : Int)) ∧ Below w.heap.size w w' := by
  have HC := Lib.hid (same_any a b ha hb)
  have h1 := lcpN_le_left (bl a) (bl b)
  have h2 := lcpN_le_right (bl a) (bl b)
  have HF := Lib.hid (show farN (bl a) (bl b) = (bl a).length - lcpN (bl a) (bl b) + ((bl b).length - lcpN (bl a) (bl b)) from rfl)
  rw [bl_length] at h1 h2
  rw [bl_length, bl_length] at HF
  generalize lcpN (bl a) (bl b) = n at *
  generalize farN (bl a) (bl b) = f at *
  have hw1 : IntKind.i64.wrap ((a.size : Int) + (b.size : Int)) = (a.size : Int) + (b.size : Int) := IntWalk.i64_in _ (by omega)
  have hw2 : IntKind.i64.wrap (2 * (n : Int)) = 2 * (n : Int) := IntWalk.i64_in _ (by omega)
  have hw3 : IntKind.i64.wrap ((a.size : Int) + (b.size : Int) - 2 * (n : Int)) = (a.size : Int) + (b.size : Int) - 2 * (n : Int) := IntWalk.i64_in _ (by omega)
  have HE := Lib.hid (show (a.size : Int) + (b.size : Int) - 2 * (n : Int) = (f : Int) by have := HF.out; omega)
  go_enter Try.func16, Try.ntmps16
  go_wp2_with fail
  refine (HC.out _).mono ?_
  rintro e w1 ⟨rfl, hb1⟩
  go_wp2
  go_ret
  exact ⟨ret_int HE.out, hb1⟩

theorem lcpTo_snoc (x : List UInt8) (r : List (List UInt8)) (s : List UInt8) : lcpTo x (r ++ [s]) = (lcpTo x r).take (lcpN (lcpTo x r) s) := by
  induction r generalizing x with
  | nil => rfl
  | cons y r ih => rw [List.cons_append, lcpTo, ih]; rfl
theorem lcpTo_len (x : List UInt8) (r : List (List UInt8)) : (lcpTo x r).length ≤ x.length := ((lcpTo_spec r x).all x (List.mem_cons_self ..)).length_le

set_option maxRecDepth 100000 in
theorem lcp_any (ao : Option Addr) (len cap : Nat) (L : List (List UInt8)) (hl : L.length = len) (hcap : len ≤ cap) (hlen : len ≤ 4294967296) (hx : ∀ l ∈ L, l.length ≤ 4294967296) (w : World) (hS : TAt w ao L w.heap.size) :
    Calls Try.prog 13 #[.slice ao len cap] w fun e w' => e = .returned (.string (mkS (lcpL L))) ∧ Below w.heap.size w w' := by
  have HL := Lib.hid hl
  have HS := Lib.hid hS
  have HX := Lib.hid hx
  clear hS hx
  cases L with
  | nil =>
    obtain rfl : len = 0 := hl.symm
    clear hl
    go_enter Try.func13, Try.ntmps13
    go_wp2
    go_ret
    exact ⟨rfl, Below.refl _ _⟩
  | cons x r =>
    have hlr : r.length + 1 = len := hl
    obtain ⟨g, off, rfl, hg, hc⟩ := HS.out (by rw [HL.out]; omega)
    have c0 := hc 0 (by rw [HL.out]; omega)
    simp only [Nat.add_zero] at c0
    change w.cell? ⟨g, off, none⟩ = some (.string (mkS x)) at c0
    have HC := Lib.hid hc
    have hx0 := HX.out x (List.mem_cons_self ..)
    clear hc hl
    have hl0 : ((len : Int) == 0) = false := by simp; omega
    have hl1 : (0 : Int) < (len : Int) := by omega
    have hl2 : (1 : Int) ≤ (len : Int) := by omega
    have hl3 : (len : Int) ≤ (cap : Int) := by omega
    have hl4 : (1 : Int) ≤ (cap : Int) := by omega
    by_cases hcp : cap = 1
    · obtain rfl : len = 1 := by omega
      obtain rfl : r = [] := List.eq_nil_of_length_eq_zero (by omega)
      subst hcp
      have KX := Lib.hid (fun w => clone_any (mkS x) w (by rw [size_mkS]; omega))
      go_enter Try.func13, Try.ntmps13
      go_wp2
      refine wp_loop_rounds 1 ?_
      rw [rounds_succ]
      go_wp2_with fail
      refine (KX.out _).mono ?_
      rintro e w1 ⟨rfl, hb1⟩
      go_wp2
      go_ret
      exact ⟨rfl, hb1⟩
    · have hcp' : ¬ (cap : Int) = 1 := by omega
      have hcp2 : ¬ 1 = cap := fun e => hcp e.symm
      have hwl : IntKind.i64.wrap ((len : Int) - 1) = (len : Int) - 1 := IntWalk.i64_in _ (by omega)
      go_enter Try.func13, Try.ntmps13
      go_wp2
      go_loopw [3, 15] (fun f i wr => ∃ k : Nat, k ≤ r.length ∧ i = .int .i64 k ∧ f = .string (mkS (lcpTo x (r.take k))) ∧ Below w.heap.size w wr)
        (fun _ i _ => r.length - (intOf i).toNat)
      case atStart => exact ⟨0, Nat.zero_le _, rfl, rfl, Below.refl _ _⟩
      case round =>
        obtain ⟨k, hk, rfl, rfl, hB⟩ := hrel
        by_cases hlt : k < r.length
        · have ck := (hB.cell (p := ⟨g, off + (k + 1), none⟩) hg).trans (HC.out (k + 1) (by rw [HL.out]; omega))
          rw [List.getD_cons_succ] at ck
          have ck' : wr.cell? ⟨g, off + 1 + k, none⟩ = some (.string (mkS (r.getD k []))) := by rw [← ck]; congr 2; omega
          have hst := Lib.hid (show lcpTo x (r.take (k + 1)) = (lcpTo x (r.take k)).take (lcpN (lcpTo x (r.take k)) (r.getD k [])) by
            rw [← lcpTo_snoc, List.take_succ_eq_append_getElem hlt]
            simp [List.getD, hlt])
          have hlk := HX.out (r.getD k []) (List.mem_cons_of_mem _ (by rw [List.getD, List.getElem?_eq_getElem hlt]; exact List.getElem_mem _))
          have hlf := lcpTo_len x (r.take k)
          generalize lcpTo x (r.take k) = f at *
          generalize r.getD k [] = y at *
          have hle := lcpN_le_left f y
          have HCO := Lib.hid (same_any (mkS f) (mkS y) (by rw [size_mkS]; omega) (by rw [size_mkS]; omega))
          rw [bl_mkS, bl_mkS] at HCO
          have hex := Lib.hid (show (mkS f).extract 0 (lcpN f y) = mkS (lcpTo x (r.take (k + 1))) by rw [extract_to, bl_mkS, hst.out])
          have hsf := size_mkS f
          generalize lcpN f y = n at *
          generalize mkS f = sf at *
          generalize mkS y = sy at *
          have hn1 : (n : Int) ≤ (sf.size : Int) := by omega
          have hn0 : (0 : Int) ≤ (n : Int) := by omega
          have hlti : (k : Int) < (len : Int) - 1 := by omega
          clear hsf hst ck
          go_wp2_with fail
          refine (HCO.out wr).mono ?_
          rintro e w1 ⟨rfl, hb1⟩
          have hB1 := btr hB hb1
          clear hb1 ck'
          go_wp2
          go_roundw
          case rel => exact ⟨k + 1, by omega, by go_num, by rw [← hex.out], hB1⟩
          case measure => simp [intOf]; omega
        · obtain rfl : k = r.length := by omega
          have hnl : ¬ ((r.length : Nat) : Int) < (len : Int) - 1 := by omega
          have htk : r.take r.length = r := List.take_length
          have hlf := lcpTo_len x r
          have KX := Lib.hid (fun w => clone_any (mkS (lcpTo x r)) w (by rw [size_mkS]; omega))
          rw [htk]
          go_wp2_with fail
          refine (KX.out _).mono ?_
          rintro e w1 ⟨rfl, hb1⟩
          have hB1 := btr hB hb1
          go_wp2
          go_ret
          exact ⟨rfl, hB1⟩
end Go.Proofs.Ytpcmmbbdpgfdnaa
