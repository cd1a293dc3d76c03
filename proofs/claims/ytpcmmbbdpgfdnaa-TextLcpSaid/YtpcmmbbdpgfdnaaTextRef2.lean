/-
  The walks of the reference's Lag, Far, Count, Texts, Own, Short. Conditions: sizes that each names; the texts lie in memory as a slice.
-/
import Derived.Test.YtpcmmbbdpgfdnaaTextRef
import Derived.Deep.Upon
import Derived.Deep.AppendSrc
import Derived.Maps.OwnSet
namespace Go.Proofs.Ytpcmmbbdpgfdnaa
open Go.RowKit Go.Shelf

theorem two_at (W : World) (a b : ByteArray) : TAt (W.alloc (.cells #[.string a, .string b] 9)) (some ⟨W.heap.size, 0, none⟩) [bl a, bl b] (W.alloc (.cells #[.string a, .string b] 9)).heap.size := by
  intro _
  have hb := Blk.new W 9 #[.string a, .string b]
  refine ⟨W.heap.size, 0, rfl, hb.lt, fun i hi => ?_⟩
  rw [Nat.zero_add, hb.cell]
  match i, hi with
  | 0, _ => simp [mkS_bl]
  | 1, _ => simp [mkS_bl]

theorem reflag_any (a b : ByteArray) (ha : a.size ≤ 9223372036854775807) (w : World) :
    Calls Try.prog 12 #[.string a, .string b] w fun e w' => e = .returned (.tuple #[.string (mkS ((bl a).drop (lcpN (bl a) (bl b)))), .string (mkS ((bl b).drop (lcpN (bl a) (bl b))))]) ∧ Below w.heap.size w w' := by
  have h1 := lcpN_le_left (bl a) (bl b)
  have h2 := lcpN_le_right (bl a) (bl b)
  rw [bl_length] at h1 h2
  have HA := Lib.hid (extract_from a (lcpN (bl a) (bl b)))
  have HB := Lib.hid (extract_from b (lcpN (bl a) (bl b)))
  have hlen : (mkS (lcpL [bl a, bl b])).size = lcpN (bl a) (bl b) := by
    rw [lcpL_two, size_mkS, List.length_take, bl_length]
    omega
  have HC := Lib.hid (fun W => reflcp_any (some ⟨W, 0, none⟩) 2 2 [bl a, bl b] rfl (by decide) (by simp [bl_length]; omega))
  generalize lcpN (bl a) (bl b) = n at *
  generalize mkS (lcpL [bl a, bl b]) = c at *
  subst hlen
  have hn1 : (c.size : Int) ≤ (a.size : Int) := by omega
  have hn2 : (c.size : Int) ≤ (b.size : Int) := by omega
  have hn0 : (0 : Int) ≤ (c.size : Int) := by omega
  go_enter Try.func12, Try.ntmps12
  go_wp2_with fail
  refine (HC.out _ _ (two_at w a b)).mono ?_
  rintro e w1 ⟨rfl, hb1⟩
  have hB1 := btr (bal (Below.refl _ _) _) hb1
  clear hb1
  go_wp2_with fail
  go_quiet (fail)
  go_wp2
  go_ret2
  exact ⟨by rw [HA.out, HB.out]; rfl, below_drewN hB1 _⟩

theorem reffar_any (a b : ByteArray) (ha : a.size ≤ 4294967296) (hb : b.size ≤ 4294967296) (w : World) :
    Calls Try.prog 17 #[.string a, .string b] w fun e w' => e = .returned (.int .i64 ((farN (bl a) (bl b) : Nat) : Int)) ∧ Below w.heap.size w w' := by
  have hx : (mkS ((bl a).drop (lcpN (bl a) (bl b)))).size = (bl a).length - lcpN (bl a) (bl b) := by rw [size_mkS, List.length_drop]
  have hy : (mkS ((bl b).drop (lcpN (bl a) (bl b)))).size = (bl b).length - lcpN (bl a) (bl b) := by rw [size_mkS, List.length_drop]
  have HF := Lib.hid (show farN (bl a) (bl b) = (mkS ((bl a).drop (lcpN (bl a) (bl b)))).size + (mkS ((bl b).drop (lcpN (bl a) (bl b)))).size by rw [hx, hy]; rfl)
  have HL := Lib.hid (reflag_any a b (by omega))
  rw [bl_length] at hx hy
  have hx' : (mkS ((bl a).drop (lcpN (bl a) (bl b)))).size ≤ 4294967296 := by omega
  have hy' : (mkS ((bl b).drop (lcpN (bl a) (bl b)))).size ≤ 4294967296 := by omega
  clear hx hy
  generalize mkS ((bl a).drop (lcpN (bl a) (bl b))) = x at *
  generalize mkS ((bl b).drop (lcpN (bl a) (bl b))) = y at *
  generalize farN (bl a) (bl b) = f at *
  have hw : IntKind.i64.wrap ((x.size : Int) + (y.size : Int)) = (x.size : Int) + (y.size : Int) := IntWalk.i64_in _ (by omega)
  go_enter Try.func17, Try.ntmps17
  go_wp2_with fail
  refine (HL.out w).mono ?_
  rintro e w1 ⟨rfl, hb1⟩
  go_wp2
  go_ret
  exact ⟨by rw [HF.out, Int.natCast_add]; rfl, hb1⟩

set_option maxRecDepth 100000 in
theorem refcount_any (s p : ByteArray) (hs : s.size ≤ 4294967296) (w : World) :
    Calls Try.prog 19 #[.string s, .string p] w fun e w' => e = .returned (.int .i64 ((cntN (bl s) (bl p) (s.size + 1) : Nat) : Int)) ∧ Below w.heap.size w w' := by
  go_enter Try.func19, Try.ntmps19
  go_wp2
  go_loopw [5, 6] (fun n i wr => ∃ k : Nat, k ≤ s.size + 1 ∧ i = .int .i64 k ∧ n = .int .i64 ((cntN (bl s) (bl p) k : Nat) : Int) ∧ Below w.heap.size w wr)
    (fun _ i _ => s.size + 1 - (intOf i).toNat)
  case atStart => exact ⟨0, Nat.zero_le _, rfl, rfl, Below.refl _ _⟩
  case round =>
    obtain ⟨k, hk, rfl, rfl, hB⟩ := hrel
    have hc := cntN_le (bl s) (bl p) k
    by_cases hlt : k ≤ s.size
    · have h1 : (k : Int) ≤ (s.size : Int) := by omega
      have h0 : (0 : Int) ≤ (k : Int) := by omega
      have HBE := Lib.hid (show ∀ w, Calls Try.prog 23 #[.string p, .string (s.extract k s.size)] w fun e w' => e = .returned (.bool (beg (bl p) ((bl s).drop k))) ∧ w' = w from fun w => by
        have := begins_any p (s.extract k s.size) w
        rwa [show bl (s.extract k s.size) = (bl s).drop k by rw [extract_from, bl_mkS]] at this)
      have hst := Lib.hid (show cntN (bl s) (bl p) (k + 1) = cntN (bl s) (bl p) k + if beg (bl p) ((bl s).drop k) then 1 else 0 from rfl)
      generalize cntN (bl s) (bl p) k = c at *
      have hw : IntKind.i64.wrap ((c : Int) + 1) = (c : Int) + 1 := IntWalk.i64_in _ (by omega)
      cases hb : beg (bl p) ((bl s).drop k) with
      | true =>
        rw [hb] at HBE hst
        clear hb
        go_wp2_with fail
        refine (HBE.out wr).mono ?_
        rintro e w1 ⟨rfl, rfl⟩
        go_wp2
        go_roundw
        case rel => exact ⟨k + 1, by omega, by go_num, by rw [hst.out]; go_num, hB⟩
        case measure => simp [intOf]; omega
      | false =>
        rw [hb] at HBE hst
        clear hb
        go_wp2_with fail
        refine (HBE.out wr).mono ?_
        rintro e w1 ⟨rfl, rfl⟩
        go_wp2
        go_roundw
        case rel => exact ⟨k + 1, by omega, by go_num, by rw [hst.out]; rfl, hB⟩
        case measure => simp [intOf]; omega
    · obtain rfl : k = s.size + 1 := by omega
      have hcmp : ¬ ((s.size + 1 : Nat) : Int) ≤ (s.size : Int) := by omega
      go_wp2
      go_ret
      exact ⟨rfl, hB⟩

theorem texts_any (ao bo : Option Addr) (len cap cap' : Nat) (L : List (List UInt8)) (hl : L.length = len) (hlen : len ≤ 1099511627776) (w : World) (ha : TAt w ao L w.heap.size) (hb : TAt w bo L w.heap.size) :
    Calls Try.prog 20 #[.slice ao len cap, .slice bo len cap'] w fun e w' => e = .returned (.bool true) ∧ Below w.heap.size w w' := by
  have HL := Lib.hid hl
  have HA := Lib.hid ha
  have HB := Lib.hid hb
  clear hl ha hb
  go_enter Try.func20, Try.ntmps20
  go_wp2
  go_loopw [5] (fun i wr => ∃ k : Nat, k ≤ len ∧ i = .int .i64 k ∧ Below w.heap.size w wr)
    (fun i _ => len - (intOf i).toNat)
  case atStart => exact ⟨0, Nat.zero_le _, rfl, Below.refl _ _⟩
  case round =>
    obtain ⟨k, hk, rfl, hB⟩ := hrel
    by_cases hlt : k < len
    · obtain ⟨g, off, rfl, hg, hc⟩ := HA.out (by rw [HL.out]; omega)
      obtain ⟨g', off', rfl, hg', hc'⟩ := HB.out (by rw [HL.out]; omega)
      have s0 := (hB.cell (p := ⟨g, off + k, none⟩) hg).trans (hc k (by rw [HL.out]; exact hlt))
      have t0 := (hB.cell (p := ⟨g', off' + k, none⟩) hg').trans (hc' k (by rw [HL.out]; exact hlt))
      clear hc hc'
      generalize mkS (L.getD k []) = x at s0 t0
      have hlti : (k : Int) < (len : Int) := by omega
      have he : (x.toList == x.toList) = true := beq_self_eq_true _
      go_wp2
      go_quiet (fail)
      go_wp2
      go_roundw
      case rel => exact ⟨k + 1, by omega, by go_num, below_drewN hB _⟩
      case measure => simp [intOf]; omega
    · obtain rfl : k = len := by omega
      go_wp2
      go_ret
      exact ⟨rfl, hB⟩

/-- No text is longer than is looked at, and there are not too many. -/
def ShortL (L : List (List UInt8)) : Prop := L.length ≤ 60 ∧ ∀ l ∈ L, l.length ≤ 300
open Classical in
noncomputable def shortB (L : List (List UInt8)) : Bool := decide (ShortL L)
theorem shortB_iff (L : List (List UInt8)) : shortB L = true ↔ ShortL L := by simp [shortB]
theorem shortB_f {L : List (List UInt8)} (h : ¬ ShortL L) : shortB L = false := by simp [shortB, h]

set_option maxRecDepth 100000 in
theorem short_any (ao : Option Addr) (len cap : Nat) (L : List (List UInt8)) (hl : L.length = len) (hlen : len ≤ maxLen) (w : World) (ha : TAt w ao L w.heap.size) :
    Calls Try.prog 7 #[.slice ao len cap] w fun e w' => e = .returned (.bool (shortB L)) ∧ Below w.heap.size w w' := by
  have HL := Lib.hid hl
  have HA := Lib.hid ha
  unfold maxLen at hlen
  clear hl ha
  by_cases h60 : len ≤ 60
  · have hi60 : (len : Int) ≤ 60 := by omega
    go_enter Try.func7, Try.ntmps7
    go_wp2
    go_loopw [3] (fun i wr => ∃ k : Nat, k ≤ len ∧ i = .int .i64 k ∧ Hid (∀ j, j < k → (L.getD j []).length ≤ 300) ∧ Below w.heap.size w wr)
      (fun i _ => len - (intOf i).toNat)
    case atStart => exact ⟨0, Nat.zero_le _, rfl, Lib.hid (fun j h => by omega), Below.refl _ _⟩
    case round =>
      obtain ⟨k, hk, rfl, hall, hB⟩ := hrel
      by_cases hlt : k < len
      · obtain ⟨g, off, rfl, hg, hc⟩ := HA.out (by rw [HL.out]; omega)
        have s0 := (hB.cell (p := ⟨g, off + k, none⟩) hg).trans (hc k (by rw [HL.out]; exact hlt))
        have hm := Lib.hid (show L.getD k [] ∈ L by
          have : k < L.length := by rw [HL.out]; exact hlt
          rw [List.getD, List.getElem?_eq_getElem this]; exact List.getElem_mem this)
        have hsz := size_mkS (L.getD k [])
        clear hc
        generalize hlk : L.getD k [] = lk at *
        have HLK := Lib.hid hlk
        clear hlk
        generalize mkS lk = x at *
        have hlti : (k : Int) < (len : Int) := by omega
        by_cases hx : x.size ≤ 300
        · have hxi : ¬ (300 : Int) < (x.size : Int) := by omega
          have hall' := Lib.hid (show ∀ j, j < k + 1 → (L.getD j []).length ≤ 300 from fun j hj => by
            by_cases e : j = k
            · subst e; rw [HLK.out]; omega
            · exact hall.out j (by omega))
          clear hsz
          go_wp2
          go_roundw
          case rel => exact ⟨k + 1, by omega, by go_num, hall', hB⟩
          case measure => simp [intOf]; omega
        · have hxi : (300 : Int) < (x.size : Int) := by omega
          have hf := Lib.hid (shortB_f (L := L) fun h => by have := h.2 _ hm.out; omega)
          clear hsz
          go_wp2
          go_ret
          exact ⟨ret_bool' hf.out.symm, hB⟩
      · obtain rfl : k = len := by omega
        have ht := Lib.hid ((shortB_iff L).2 ⟨by rw [HL.out]; exact h60, fun l hm => by
          obtain ⟨i, hi, rfl⟩ := List.mem_iff_getElem.1 hm
          have := hall.out i (by rw [← HL.out]; exact hi)
          rwa [List.getD, List.getElem?_eq_getElem hi] at this⟩)
        clear hall
        go_wp2
        go_ret
        exact ⟨ret_bool' ht.out.symm, hB⟩
  · have hi60 : ¬ (len : Int) ≤ 60 := by omega
    have hi0 : (0 : Int) < (len : Int) := by omega
    have hf := Lib.hid (shortB_f (L := L) fun h => by have := h.1; rw [HL.out] at this; exact h60 this)
    go_enter Try.func7, Try.ntmps7
    go_wp2
    refine wp_loop_rounds 1 ?_
    rw [rounds_succ]
    go_wp2
    go_ret
    exact ⟨ret_bool' ((decide_eq_false (by omega)).trans hf.out.symm), Below.refl _ _⟩
end Go.Proofs.Ytpcmmbbdpgfdnaa
