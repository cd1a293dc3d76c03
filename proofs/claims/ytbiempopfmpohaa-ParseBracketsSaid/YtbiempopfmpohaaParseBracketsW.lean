/-
  The walk of the statement ParseBrackets: of any two texts it returns true; nothing that was there before the call has changed. Conditions: none.
-/
import Derived.Test.YtbiempopfmpohaaParseTwo
import Derived.Test.YtbiempopfmpohaaParseDt
import Derived.Test.YtbiempopfmpohaaMems
import Derived.Deep.RegionHeld3
namespace Go.Proofs.Ytbiempopfmpohaa
open Go.RowKit

theorem ReA.any {l : List UInt8} {w w' : World} {e : Ending} (h : ReA l w e w') : ∃ (a : Rx) (ao : Option Addr) (cap q c : Nat), e = .returned (.tuple #[rxV a ao cap, .int .i64 ((q : Nat) : Int), .int .i64 ((c : Nat) : Int)]) ∧ Below w.heap.size w w' := by
  cases hp : reP l with
  | error x =>
    obtain ⟨c, q⟩ := x
    obtain ⟨⟨so, sc, rfl⟩, hb⟩ := ReA.err hp h
    exact ⟨.mk 0 [] noSet [] 0 0, so, sc, q, c, by rw [← lit_eq 0 [] 0 0 so 0 sc rfl], hb⟩
  | ok a =>
    obtain ⟨ao, cap, rfl, _, hb⟩ := ReA.ok hp h
    exact ⟨a, ao, cap, l.length, 0, rfl, hb⟩

abbrev brB (s : ByteArray) : ByteArray := ByteArray.mk #[40] ++ s ++ ByteArray.mk #[10, 41]
theorem bl_brB (s : ByteArray) : bl (brB s) = brS (bl s) := by rw [bl_append, bl_append]; show [40] ++ bl s ++ [10, 41] = _; rw [List.append_assoc]; rfl
theorem brB_size (s : ByteArray) : (brB s).size = s.size + 3 := by rw [ByteArray.size_append, ByteArray.size_append]; show 1 + s.size + 2 = _; omega

set_option maxRecDepth 100000 in
theorem parseBrackets_bad (s t : ByteArray) (hs : s.size ≤ 700) (ht : t.size ≤ 700) (hbad : (∃ x, reP (bl s) = .error x) ∨ (∃ x, reP (bl t) = .error x)) (w : World) :
    Calls Try.prog 3 #[.string s, .string t] w fun e w' => e = .returned (.bool true) ∧ Below w.heap.size w w' := by
  have i1 : ¬ (700 : Int) < (s.size : Int) := by omega
  have i2 : ¬ (700 : Int) < (t.size : Int) := by omega
  have R1 := Lib.hid (re_any s (by omega) w)
  have R2 := Lib.hid (re_any t (by omega))
  cases hp : reP (bl s) with
  | error x =>
    obtain ⟨c, q⟩ := x
    have hne := reP_err hp
    have hd : (((c : Nat) : Int) != 0) = true := by simpa using fun e : c = 0 => hne e
    have hd' : ((c : Int) == 0) = false := by simpa using fun e : c = 0 => hne e
    have A1 := Lib.hid (fun w w' e (h : ReA (bl s) w e w') => ReA.err hp h)
    clear hne hbad hp
    go_enter Try.func3, Try.ntmps3
    go_wp2_with fail
    refine R1.out.mono ?_
    intro e v1 ha
    obtain ⟨⟨so, sc, rfl⟩, hb1⟩ := A1.out _ _ _ ha
    have hB1 := bal hb1 (.cells #[.int .i64 0, .string { data := #[] }, .int .u64 0, .int .u64 0, .int .u64 0, .int .u64 0, .slice so 0 sc, .int .i64 0, .int .i64 0] 27)
    clear ha hb1
    go_wp2_with fail
    refine (R2.out _).mono ?_
    intro e v2 ha
    obtain ⟨b, bo, bc, q2, c2, rfl, hb2⟩ := ReA.any ha
    have hB2 := bal (btr hB1 hb2) (.cells (rxCells b bo bc) 27)
    clear ha hb2
    go_wp2_with fail
    refine (awake_parse _).mono ?_
    rintro e v3 ⟨rfl, hb3⟩
    have hB3 := btr hB2 hb3
    go_wp2
    go_ret
    exact ⟨rfl, hB3⟩
  | ok a =>
    obtain ⟨x, hx⟩ : ∃ x, reP (bl t) = .error x := by
      rcases hbad with ⟨x, h⟩ | h
      · rw [hp] at h; cases h
      · exact h
    obtain ⟨c, q⟩ := x
    have hne := reP_err hx
    have hd : (((c : Nat) : Int) != 0) = true := by simpa using fun e : c = 0 => hne e
    have hd' : ((c : Int) == 0) = false := by simpa using fun e : c = 0 => hne e
    have A1 := Lib.hid (fun w w' e (h : ReA (bl s) w e w') => ReA.ok hp h)
    have A2 := Lib.hid (fun w w' e (h : ReA (bl t) w e w') => ReA.err hx h)
    clear hne hbad hp hx
    go_enter Try.func3, Try.ntmps3
    go_wp2_with fail
    refine R1.out.mono ?_
    intro e v1 ha
    obtain ⟨ao, ac, rfl, hat, hb1⟩ := A1.out _ _ _ ha
    have hB1 := bal hb1 (.cells (rxCells a ao ac) 27)
    clear ha hb1 hat
    go_wp2_with fail
    refine (R2.out _).mono ?_
    intro e v2 ha
    obtain ⟨⟨so, sc, rfl⟩, hb2⟩ := A2.out _ _ _ ha
    have hB2 := bal (btr hB1 hb2) (.cells #[.int .i64 0, .string { data := #[] }, .int .u64 0, .int .u64 0, .int .u64 0, .int .u64 0, .slice so 0 sc, .int .i64 0, .int .i64 0] 27)
    clear ha hb2
    go_wp2_with fail
    refine (awake_parse _).mono ?_
    rintro e v3 ⟨rfl, hb3⟩
    have hB3 := btr hB2 hb3
    go_wp2
    go_ret
    exact ⟨rfl, hB3⟩

/-- What stays while the loop asks about one. -/
abbrev LookT (w3 : World) (A B D K j : Nat) (kn : Int) (a b d : Rx) (ao bo po : Option Addr) (ac bc pc : Nat) (W : World) : Prop :=
  (W.cell? ⟨A, 0, none⟩ = some (.int .i64 a.kind) ∧ W.cell? ⟨A, 1, none⟩ = some (.string (mkS a.text)) ∧ W.cell? ⟨A, 2, none⟩ = some (.int .u64 ((wd a.set 0 : Nat) : Int)) ∧ W.cell? ⟨A, 3, none⟩ = some (.int .u64 ((wd a.set 1 : Nat) : Int)) ∧ W.cell? ⟨A, 4, none⟩ = some (.int .u64 ((wd a.set 2 : Nat) : Int)) ∧ W.cell? ⟨A, 5, none⟩ = some (.int .u64 ((wd a.set 3 : Nat) : Int)) ∧ W.cell? ⟨A, 6, none⟩ = some (.slice ao a.parts.length ac) ∧ W.cell? ⟨A, 7, none⟩ = some (.int .i64 a.lo) ∧ W.cell? ⟨A, 8, none⟩ = some (.int .i64 a.hi)) ∧ (W.cell? ⟨B, 0, none⟩ = some (.int .i64 b.kind) ∧ W.cell? ⟨B, 1, none⟩ = some (.string (mkS b.text)) ∧ W.cell? ⟨B, 2, none⟩ = some (.int .u64 ((wd b.set 0 : Nat) : Int)) ∧ W.cell? ⟨B, 3, none⟩ = some (.int .u64 ((wd b.set 1 : Nat) : Int)) ∧ W.cell? ⟨B, 4, none⟩ = some (.int .u64 ((wd b.set 2 : Nat) : Int)) ∧ W.cell? ⟨B, 5, none⟩ = some (.int .u64 ((wd b.set 3 : Nat) : Int)) ∧ W.cell? ⟨B, 6, none⟩ = some (.slice bo b.parts.length bc) ∧ W.cell? ⟨B, 7, none⟩ = some (.int .i64 b.lo) ∧ W.cell? ⟨B, 8, none⟩ = some (.int .i64 b.hi)) ∧ (W.cell? ⟨D, 0, none⟩ = some (.int .i64 d.kind) ∧ W.cell? ⟨D, 1, none⟩ = some (.string (mkS d.text)) ∧ W.cell? ⟨D, 2, none⟩ = some (.int .u64 ((wd d.set 0 : Nat) : Int)) ∧ W.cell? ⟨D, 3, none⟩ = some (.int .u64 ((wd d.set 1 : Nat) : Int)) ∧ W.cell? ⟨D, 4, none⟩ = some (.int .u64 ((wd d.set 2 : Nat) : Int)) ∧ W.cell? ⟨D, 5, none⟩ = some (.int .u64 ((wd d.set 3 : Nat) : Int)) ∧ W.cell? ⟨D, 6, none⟩ = some (.slice po d.parts.length pc) ∧ W.cell? ⟨D, 7, none⟩ = some (.int .i64 d.lo) ∧ W.cell? ⟨D, 8, none⟩ = some (.int .i64 d.hi)) ∧ W.cell? ⟨K, j, none⟩ = some (.int .i64 kn) ∧ Below w3.heap.size w3 W ∧ (A < w3.heap.size ∧ B < w3.heap.size ∧ D < w3.heap.size ∧ K < w3.heap.size)
theorem LookT.step {w3 : World} {A B D K j : Nat} {kn : Int} {a b d : Rx} {ao bo po : Option Addr} {ac bc pc : Nat} {W W' : World} (h : LookT w3 A B D K j kn a b d ao bo po ac bc pc W) (hb : Below W.heap.size W W') : LookT w3 A B D K j kn a b d ao bo po ac bc pc W' := by
  obtain ⟨ha, hB, hd, hk, hl, hA', hB', hD', hK'⟩ := h
  have h1 : Below w3.heap.size W W' := hb.mono hl.size
  have e1 : R9At W A 0 a ao ac := by simpa only [R9At, Nat.zero_add] using ha
  have e2 : R9At W B 0 b bo bc := by simpa only [R9At, Nat.zero_add] using hB
  have e3 : R9At W D 0 d po pc := by simpa only [R9At, Nat.zero_add] using hd
  have f1 := e1.below h1 hA'
  have f2 := e2.below h1 hB'
  have f3 := e3.below h1 hD'
  simp only [R9At, Nat.zero_add] at f1 f2 f3
  exact ⟨f1, f2, f3, (h1.cell (p := ⟨K, _, none⟩) hK').trans hk, hl.trans h1, hA', hB', hD', hK'⟩
theorem LookT.b {w3 : World} {A B D K j : Nat} {kn : Int} {a b d : Rx} {ao bo po : Option Addr} {ac bc pc : Nat} {W : World} (h : LookT w3 A B D K j kn a b d ao bo po ac bc pc W) : Below w3.heap.size w3 W := h.2.2.2.2.1

/-- The three texts of the loop, and what each says. -/
abbrev brL (s t : ByteArray) : Array Value := #[.string (brB s ++ brB t), .string (brB s ++ ByteArray.mk #[124] ++ brB t), .string (brB s ++ ByteArray.mk #[38] ++ brB t)]
abbrev brK : Array Value := #[.int .i64 4, .int .i64 5, .int .i64 6]
theorem brK_at (j : Nat) (h : j < 3) : brK[j]? = some (.int .i64 (4 + (j : Int))) := by
  match j, h with
  | 0, _ | 1, _ | 2, _ => rfl
theorem brL_at {s t : ByteArray} {a b : Rx} (hs : s.size ≤ 700) (ht : t.size ≤ 700) (ha : reS (bl s) = .ok a) (hb : reS (bl t) = .ok b) (j : Nat) (h : j < 3) :
    ∃ z : ByteArray, (brL s t)[j]? = some (.string z) ∧ z.size ≤ 65536 ∧ (reS (bl z) = .ok (.mk (4 + j) [] noSet [a, b] 0 0) ∨ reS (bl z) = .error 8) := by
  have h1 := brB_size s
  have h2 := brB_size t
  match j, h with
  | 0, _ =>
    refine ⟨_, rfl, by rw [ByteArray.size_append]; omega, ?_⟩
    rw [bl_append, bl_brB, bl_brB]
    exact re_two ha hb
  | 1, _ =>
    refine ⟨_, rfl, by rw [ByteArray.size_append, ByteArray.size_append]; show _ + 1 + _ ≤ _; omega, ?_⟩
    rw [bl_append, bl_append, bl_brB, bl_brB, List.append_assoc]
    exact re_alt ha hb
  | 2, _ =>
    refine ⟨_, rfl, by rw [ByteArray.size_append, ByteArray.size_append]; show _ + 1 + _ ≤ _; omega, ?_⟩
    rw [bl_append, bl_append, bl_brB, bl_brB, List.append_assoc]
    exact re_and ha hb

set_option maxRecDepth 100000 in
set_option maxHeartbeats 1000000 in
theorem parseBrackets_good (s t : ByteArray) (hs : s.size ≤ 700) (ht : t.size ≤ 700) {a b : Rx} (hsa : reP (bl s) = .ok a) (htb : reP (bl t) = .ok b) (w : World) :
    Calls Try.prog 3 #[.string s, .string t] w fun e w' => e = .returned (.bool true) ∧ Below w.heap.size w w' := by
  have i1 : ¬ (700 : Int) < (s.size : Int) := by omega
  have i2 : ¬ (700 : Int) < (t.size : Int) := by omega
  have R1 := Lib.hid (re_any s (by omega) w)
  have R2 := Lib.hid (re_any t (by omega))
  have A1 := Lib.hid (fun w w' e (h : ReA (bl s) w e w') => ReA.ok hsa h)
  have A2 := Lib.hid (fun w w' e (h : ReA (bl t) w e w') => ReA.ok htb h)
  have hxs := brB_size s
  have hys := brB_size t
  have R3 := Lib.hid (fun w => (by
    have h := re_any (ByteArray.mk #[32, 35, 10] ++ brB s ++ ByteArray.mk #[32]) (by rw [ByteArray.size_append, ByteArray.size_append, hxs]; show 3 + (s.size + 3) + 1 ≤ _; omega) w
    rw [bl_append, bl_append, bl_brB] at h
    exact h : Calls Try.prog 6 #[.string (ByteArray.mk #[32, 35, 10] ++ brB s ++ ByteArray.mk #[32])] w fun e w' => ReA (32 :: 35 :: 10 :: (brS (bl s) ++ [32])) w e w'))
  have W3 := re_white (reP_to hsa)
  have HBR := Lib.hid (brL_at hs ht (reP_to hsa) (reP_to htb))
  have HNT := Lib.hid (re_not (reP_to hsa))
  have hgood := reS_good (reP_to hsa)
  have hlen3 : (32 :: 35 :: 10 :: (brS (bl s) ++ [32])).length = s.size + 7 := by simp [brS, bl_length]
  go_enter Try.func3, Try.ntmps3
  go_wp2_with fail
  refine R1.out.mono ?_
  intro e v1 ha
  obtain ⟨ao, ac, rfl, hat, hb1⟩ := A1.out _ _ _ ha
  have hB1 := bal hb1 (.cells (rxCells a ao ac) 27)
  have hat1 := hat.go (bal0 v1 (.cells (rxCells a ao ac) 27))
  have hXa1 := Blk.new v1 27 (rxCells a ao ac)
  clear ha hb1 hat
  go_wp2_with fail
  refine (R2.out _).mono ?_
  intro e v2 ha
  obtain ⟨bo, bc, rfl, hbt, hb2⟩ := A2.out _ _ _ ha
  have hB2 := bal (btr hB1 hb2) (.cells (rxCells b bo bc) 27)
  have hat2 := (hat1.go hb2).go (bal0 v2 (.cells (rxCells b bo bc) 27))
  have hbt2 := hbt.go (bal0 v2 (.cells (rxCells b bo bc) 27))
  have hXa2 := (hXa1.below hb2 hXa1.lt).alloc (.cells (rxCells b bo bc) 27)
  have hXb2 := Blk.new v2 27 (rxCells b bo bc)
  clear ha hB1 hat1 hXa1 hb2 hbt
  go_wp2_with fail
  refine (R3.out _).mono ?_
  intro e v3 ha
  rcases W3 with W3 | W3
  · obtain ⟨co, cc, rfl, hct, hb3⟩ := ReA.ok (reP_of W3) ha
    have hB3 := bal (btr hB2 hb3) (.cells (rxCells a co cc) 27)
    have hat3 := (hat2.go hb3).go (bal0 v3 (.cells (rxCells a co cc) 27))
    have hbt3 := (hbt2.go hb3).go (bal0 v3 (.cells (rxCells a co cc) 27))
    have hct3 := hct.go (bal0 v3 (.cells (rxCells a co cc) 27))
    have hXa3 := (hXa2.below hb3 hXa2.lt).alloc (.cells (rxCells a co cc) 27)
    have hXb3 := (hXb2.below hb3 hXb2.lt).alloc (.cells (rxCells a co cc) 27)
    rw [hlen3, show ((s.size + 7 : Nat) : Int) = ((brB s).size : Int) + 4 by rw [hxs]; omega]
    have HX := Lib.hid (bl_brB s)
    have HY := Lib.hid (bl_brB t)
    clear ha hat2 hbt2 hct hXa2 hXb2 hb3 hB2 R1 R2 R3 A1 A2 hlen3
    have hxb : (brB s).size ≤ 703 := by omega
    have hyb : (brB t).size ≤ 703 := by omega
    have HS := Lib.hid (refsame_any _ a (Nat.lt_succ_self _) co ao cc ac _ hct3 hat3)
    have hXc3 := Blk.new v3 27 (rxCells a co cc)
    obtain ⟨x0, x1, x2, x3, x4, x5, x6, x7, x8⟩ : R9At (v3.alloc (.cells (rxCells a co cc) 27)) v1.heap.size 0 a ao ac := hXa3.r9 fun i hi => by rw [Nat.zero_add]
    simp only [Nat.zero_add] at x1 x2 x3 x4 x5 x6 x7 x8
    clear hxs hys
    go_wp2_with fail
    refine HS.out.mono ?_
    rintro e v4 ⟨rfl, hb4⟩
    have hB4 := btr hB3 hb4
    have hat4 := hat3.go hb4
    have hbt4 := hbt3.go hb4
    have hXa4 := hXa3.below hb4 hXa3.lt
    have hXb4 := hXb3.below hb4 hXb3.lt
    have HK := Lib.hid (check_any a ao ac hgood.1 (by omega) v4 hat4)
    clear x0 x1 x2 x3 x4 x5 x6 x7 x8 HS hXc3 hct3 hB3 hat3 hbt3 hXa3 hXb3 hb4
    obtain ⟨x0, x1, x2, x3, x4, x5, x6, x7, x8⟩ : R9At v4 v1.heap.size 0 a ao ac := hXa4.r9 fun i hi => by rw [Nat.zero_add]
    simp only [Nat.zero_add] at x1 x2 x3 x4 x5 x6 x7 x8
    go_wp2_with fail
    refine HK.out.mono ?_
    rintro e v5 ⟨rfl, hb5⟩
    have hLK := bal (bal0 v5 (.cells (brL s t) 9)) (.cells brK 3)
    have hB5 := btr (btr hB4 hb5) hLK
    have hat5 := (hat4.go hb5).go hLK
    have hbt5 := (hbt4.go hb5).go hLK
    have hXa5 := ((hXa4.below hb5 hXa4.lt).alloc (.cells (brL s t) 9)).alloc (.cells brK 3)
    have hXb5 := ((hXb4.below hb5 hXb4.lt).alloc (.cells (brL s t) 9)).alloc (.cells brK 3)
    have hL5 := (Blk.new v5 9 (brL s t)).alloc (.cells brK 3)
    have hK5 := Blk.new (v5.alloc (.cells (brL s t) 9)) 3 brK
    rw [World.size_alloc] at hK5
    clear x0 x1 x2 x3 x4 x5 x6 x7 x8 HK hB4 hat4 hbt4 hXa4 hXb4 hb5 hLK
    go_wp2
    generalize (v5.alloc (.cells (brL s t) 9)).alloc (.cells brK 3) = W0 at *
    have HB5 := Lib.hid hB5
    clear hB5
    go_loopw [18] (fun i wr => ∃ j : Nat, j ≤ 3 ∧ i = .int .i64 j ∧ Below W0.heap.size W0 wr)
      (fun i _ => 3 - (intOf i).toNat)
    case atStart => exact ⟨0, Nat.zero_le _, rfl, Below.refl _ _⟩
    case round =>
      obtain ⟨j, hj, rfl, hW⟩ := hrel
      by_cases hlt : j < 3
      · obtain ⟨z, hz, hzs, hzr⟩ := HBR.out j hlt
        have l1 : wr.cell? ⟨v5.heap.size, j, none⟩ = some (.string z) := ((hL5.below hW hL5.lt).cell j).trans hz
        have j0 : (0 : Int) ≤ (j : Int) := by omega
        have j3 : (j : Int) < 3 := by omega
        have RZ := Lib.hid (re_any z hzs wr)
        have HK5 := Lib.hid (fun w' (hw : Below W0.heap.size W0 w') => (((hK5.below hw hK5.lt).cell j).trans (brK_at j hlt) : w'.cell? ⟨v5.heap.size + 1, j, none⟩ = some (.int .i64 (4 + (j : Int)))))
        clear hz hzs
        go_wp2_with fail
        refine RZ.out.mono ?_
        intro e w2 h2
        rcases hzr with hzr | hzr
        · obtain ⟨d, hd⟩ : ∃ d, d = Rx.mk (4 + j) [] noSet [a, b] 0 0 := ⟨_, rfl⟩
          rw [← hd] at hzr
          have HD := Lib.hid hd
          obtain ⟨po, pc, rfl, hdt, hb2⟩ := ReA.ok (reP_of hzr) h2
          have hW3 := bal (btr hW hb2) (.cells (rxCells d po pc) 27)
          have hdt3 := hdt.go (bal0 w2 (.cells (rxCells d po pc) 27))
          have hXd3 := Blk.new w2 27 (rxCells d po pc)
          clear h2 hd hzr hdt hb2 hW l1 RZ
          go_wp2_with fail
          generalize w2.alloc (.cells (rxCells d po pc) 27) = w3 at *
          have HI : LookT w3 v1.heap.size v2.heap.size w2.heap.size (v5.heap.size + 1) j (4 + (j : Int)) a b d ao bo po ac bc pc w3.drew := by
            have hW3d : Below W0.heap.size W0 w3.drew := hW3.drew
            have f1 : R9At w3.drew v1.heap.size 0 a ao ac := Blk.r9 (hXa5.below hW3d hXa5.lt) fun i hi => by rw [Nat.zero_add]
            have f2 : R9At w3.drew v2.heap.size 0 b bo bc := Blk.r9 (hXb5.below hW3d hXb5.lt) fun i hi => by rw [Nat.zero_add]
            have f3 : R9At w3.drew w2.heap.size 0 d po pc := Blk.r9 (Blk.drew hXd3) fun i hi => by rw [Nat.zero_add]
            simp only [R9At, Nat.zero_add] at f1 f2 f3
            exact ⟨f1, f2, f3, HK5.out w3.drew hW3d, (Below.refl w3.heap.size w3).drew, Nat.lt_of_lt_of_le hXa5.lt hW3.size, Nat.lt_of_lt_of_le hXb5.lt hW3.size, hXd3.lt, Nat.lt_of_lt_of_le hK5.lt hW3.size⟩
          obtain ⟨kn, hkv⟩ : ∃ kn, kn = (4 + (j : Int)) := ⟨_, rfl⟩
          have HS := Lib.hid (same_two HD.out ao bo po ac bc pc w3 _ (hat5.go hW3) (hbt5.go hW3) hdt3 (Below.refl _ (w3.alloc (.cells (rx2 a ao ac b bo bc) 27))).drew)
          rw [← hkv] at HI HS
          clear hkv
          obtain ⟨⟨x0, x1, x2, x3, x4, x5, x6, x7, x8⟩, ⟨y0, y1, y2, y3, y4, y5, y6, y7, y8⟩, ⟨z0, z1, z2, z3, z4, z5, z6, z7, z8⟩, k1, _⟩ := id HI
          go_region_held3 (fun W' => (W'.cell? ⟨v1.heap.size, 0, none⟩ = some (.int .i64 a.kind) ∧ W'.cell? ⟨v1.heap.size, 1, none⟩ = some (.string (mkS a.text)) ∧ W'.cell? ⟨v1.heap.size, 2, none⟩ = some (.int .u64 ((wd a.set 0 : Nat) : Int)) ∧ W'.cell? ⟨v1.heap.size, 3, none⟩ = some (.int .u64 ((wd a.set 1 : Nat) : Int)) ∧ W'.cell? ⟨v1.heap.size, 4, none⟩ = some (.int .u64 ((wd a.set 2 : Nat) : Int)) ∧ W'.cell? ⟨v1.heap.size, 5, none⟩ = some (.int .u64 ((wd a.set 3 : Nat) : Int)) ∧ W'.cell? ⟨v1.heap.size, 6, none⟩ = some (.slice ao a.parts.length ac) ∧ W'.cell? ⟨v1.heap.size, 7, none⟩ = some (.int .i64 a.lo) ∧ W'.cell? ⟨v1.heap.size, 8, none⟩ = some (.int .i64 a.hi)) ∧ (W'.cell? ⟨v2.heap.size, 0, none⟩ = some (.int .i64 b.kind) ∧ W'.cell? ⟨v2.heap.size, 1, none⟩ = some (.string (mkS b.text)) ∧ W'.cell? ⟨v2.heap.size, 2, none⟩ = some (.int .u64 ((wd b.set 0 : Nat) : Int)) ∧ W'.cell? ⟨v2.heap.size, 3, none⟩ = some (.int .u64 ((wd b.set 1 : Nat) : Int)) ∧ W'.cell? ⟨v2.heap.size, 4, none⟩ = some (.int .u64 ((wd b.set 2 : Nat) : Int)) ∧ W'.cell? ⟨v2.heap.size, 5, none⟩ = some (.int .u64 ((wd b.set 3 : Nat) : Int)) ∧ W'.cell? ⟨v2.heap.size, 6, none⟩ = some (.slice bo b.parts.length bc) ∧ W'.cell? ⟨v2.heap.size, 7, none⟩ = some (.int .i64 b.lo) ∧ W'.cell? ⟨v2.heap.size, 8, none⟩ = some (.int .i64 b.hi)) ∧ (W'.cell? ⟨w2.heap.size, 0, none⟩ = some (.int .i64 d.kind) ∧ W'.cell? ⟨w2.heap.size, 1, none⟩ = some (.string (mkS d.text)) ∧ W'.cell? ⟨w2.heap.size, 2, none⟩ = some (.int .u64 ((wd d.set 0 : Nat) : Int)) ∧ W'.cell? ⟨w2.heap.size, 3, none⟩ = some (.int .u64 ((wd d.set 1 : Nat) : Int)) ∧ W'.cell? ⟨w2.heap.size, 4, none⟩ = some (.int .u64 ((wd d.set 2 : Nat) : Int)) ∧ W'.cell? ⟨w2.heap.size, 5, none⟩ = some (.int .u64 ((wd d.set 3 : Nat) : Int)) ∧ W'.cell? ⟨w2.heap.size, 6, none⟩ = some (.slice po d.parts.length pc) ∧ W'.cell? ⟨w2.heap.size, 7, none⟩ = some (.int .i64 d.lo) ∧ W'.cell? ⟨w2.heap.size, 8, none⟩ = some (.int .i64 d.hi)) ∧ W'.cell? ⟨v5.heap.size + 1, j, none⟩ = some (.int .i64 kn) ∧ Below w3.heap.size w3 W' ∧ (v1.heap.size < w3.heap.size ∧ v2.heap.size < w3.heap.size ∧ w2.heap.size < w3.heap.size ∧ v5.heap.size + 1 < w3.heap.size))
            ((first | with_reducible exact HI | exact LookT.step (by assumption) (by assumption) | exact LookT.step (by assumption) (bal0 _ _)))
            (first
              | (go_at_call 8; refine HS.out.mono ?_; rintro e w4 ⟨rfl, hb4⟩))
          have HB := Lib.hid (LookT.b (w3 := w3) (A := v1.heap.size) (B := v2.heap.size) (D := w2.heap.size) (K := v5.heap.size + 1) (j := j) (kn := kn) (a := a) (b := b) (d := d) (ao := ao) (bo := bo) (po := po) (ac := ac) (bc := bc) (pc := pc) (by assumption))
          clear HI x0 x1 x2 x3 x4 x5 x6 x7 x8 y0 y1 y2 y3 y4 y5 y6 y7 y8 z0 z1 z2 z3 z4 z5 z6 z7 z8 k1 HS
          go_wp2
          go_roundw
          case rel => exact ⟨j + 1, by omega, by go_num, btr hW3 HB.out⟩
          case measure => simp [intOf]; omega
        · obtain ⟨p3, hp3⟩ := reP_bad hzr
          obtain ⟨⟨so, sc, rfl⟩, hb2⟩ := ReA.err hp3 h2
          have hW3 := bal (btr hW hb2) (.cells #[.int .i64 0, .string { data := #[] }, .int .u64 0, .int .u64 0, .int .u64 0, .int .u64 0, .slice so 0 sc, .int .i64 0, .int .i64 0] 27)
          clear h2 hzr hb2 hW l1 RZ
          go_wp2_with fail
          go_quiet (fail)
          go_wp2
          go_roundw
          case rel => exact ⟨j + 1, by omega, by go_num, below_drewN hW3 _⟩
          case measure => simp [intOf]; omega
      · obtain rfl : j = 3 := by omega
        have R4 := Lib.hid (by
          have h := re_any (ByteArray.mk #[33] ++ brB s ++ ByteArray.mk #[42]) (by rw [ByteArray.size_append, ByteArray.size_append]; show 1 + _ + 1 ≤ _; omega) wr
          rw [bl_append, bl_append, HX.out] at h
          exact h : Calls Try.prog 6 #[.string (ByteArray.mk #[33] ++ brB s ++ ByteArray.mk #[42])] wr fun e w' => ReA (33 :: (brS (bl s) ++ [42])) wr e w')
        have hXa6 := hXa5.below hW hXa5.lt
        have hat6 := hat5.go hW
        have hB6 := btr HB5.out hW
        clear hXa5 hXb5 hat5 hbt5 hL5 hK5 hW
        rcases HNT.out with hnt | hnt
        · go_wp2_with fail
          refine R4.out.mono ?_
          intro e w2 h2
          obtain ⟨d, hd⟩ : ∃ d, d = (Rx.rep 0 (-1) a).not := ⟨_, rfl⟩
          rw [← hd] at hnt
          have HD := Lib.hid hd
          clear hd
          obtain ⟨po, pc, rfl, hdt, hb2⟩ := ReA.ok (reP_of hnt) h2
          have hB7 := bal (btr hB6 hb2) (.cells (rxCells d po pc) 27)
          have hdt7 := hdt.go (bal0 w2 (.cells (rxCells d po pc) 27))
          have hXd7 := Blk.new w2 27 (rxCells d po pc)
          have hXa7 := (hXa6.below hb2 hXa6.lt).alloc (.cells (rxCells d po pc) 27)
          have hat7 := (hat6.go hb2).go (bal0 w2 (.cells (rxCells d po pc) 27))
          clear h2 hnt hb2 hdt hXa6 hat6 hB6 R4
          obtain ⟨x0, x1, x2, x3, x4, x5, x6, x7, x8⟩ : R9At (w2.alloc (.cells (rxCells d po pc) 27)) v1.heap.size 0 a ao ac := hXa7.r9 fun i hi => by rw [Nat.zero_add]
          simp only [Nat.zero_add] at x1 x2 x3 x4 x5 x6 x7 x8
          have hP1 := bal0 (w2.alloc (.cells (rxCells d po pc) 27)) (.cells (rxCells a ao ac) 27)
          have hP2 := bal hP1 (.cells (rxCells (.mk 8 [] noSet [a] 0 (-1)) (some ⟨(w2.alloc (.cells (rxCells d po pc) 27)).heap.size, 0, none⟩) 1) 27)
          have hR8 := (built_one 8 a ao ac 0 (-1) (w2.alloc (.cells (rxCells d po pc) 27)) hat7).go (bal0 _ (.cells (rxCells (.mk 8 [] noSet [a] 0 (-1)) (some ⟨(w2.alloc (.cells (rxCells d po pc) 27)).heap.size, 0, none⟩) 1) 27))
          have hXr8 := Blk.new ((w2.alloc (.cells (rxCells d po pc) 27)).alloc (.cells (rxCells a ao ac) 27)) 27 (rxCells (.mk 8 [] noSet [a] 0 (-1)) (some ⟨(w2.alloc (.cells (rxCells d po pc) 27)).heap.size, 0, none⟩) 1)
          have hB8 := btr hB7 hP2
          have hXd8 := hXd7.below hP2 hXd7.lt
          have hdt8 := hdt7.go hP2
          clear hP1 hP2 hB7 hXd7 hdt7 hXa7 hat7
          have hz1 : (w2.alloc (.cells (rxCells d po pc) 27)).heap.size = w2.heap.size + 1 := World.size_alloc _ _
          simp only [World.size_alloc] at hXr8
          simp only [lit_cells 8 [a] 0 (-1) _ 1 1 rfl, hz1] at hR8 hXr8 hB8 hXd8 hdt8
          clear hz1
          go_wp2_with fail
          refine (awake_parse _).mono ?_
          rintro e w9 ⟨rfl, hb9⟩
          have hB9 := btr hB8 hb9
          have hXd9 := hXd8.below hb9 hXd8.lt
          have hXr9 := hXr8.below hb9 hXr8.lt
          have HS := Lib.hid (same_one (k := 7) (lo := 0) (hi := 0) HD.out (some ⟨w2.heap.size + 1, 0, none⟩) po 1 pc w9 _ (hR8.go hb9) (hdt8.go hb9) (Below.refl _ (w9.alloc (.cells (rxCells (.mk 8 [] noSet [a] 0 (-1)) (some ⟨w2.heap.size + 1, 0, none⟩) 1) 27))))
          rw [lit_cells 8 [a] 0 (-1) _ 1 1 rfl] at HS
          have hB10 := bal hB9 (.cells #[.int .i64 8, .string { data := #[] }, .int .u64 0, .int .u64 0, .int .u64 0, .int .u64 0, .slice (some ⟨w2.heap.size + 1, 0, none⟩) 1 1, .int .i64 0, .int .i64 (-1)] 27)
          clear x0 x1 x2 x3 x4 x5 x6 x7 x8 hB8 hXd8 hXr8 hR8 hdt8 hb9 hB9
          obtain ⟨x0, x1, x2, x3, x4, x5, x6, x7, x8⟩ : R9At w9 w2.heap.size 0 d po pc := hXd9.r9 fun i hi => by rw [Nat.zero_add]
          simp only [Nat.zero_add] at x1 x2 x3 x4 x5 x6 x7 x8
          have y0 := hXr9.cell 0
          have y1 := hXr9.cell 1
          have y2 := hXr9.cell 2
          have y3 := hXr9.cell 3
          have y4 := hXr9.cell 4
          have y5 := hXr9.cell 5
          have y6 := hXr9.cell 6
          have y7 := hXr9.cell 7
          have y8 := hXr9.cell 8
          simp only [List.getElem?_toArray, List.getElem?_cons_zero, List.getElem?_cons_succ] at y0 y1 y2 y3 y4 y5 y6 y7 y8
          clear hXd9 hXr9
          go_wp2_with fail
          refine HS.out.mono ?_
          rintro e w11 ⟨rfl, hb11⟩
          have hB11 := btr hB10 hb11
          clear x0 x1 x2 x3 x4 x5 x6 x7 x8 y0 y1 y2 y3 y4 y5 y6 y7 y8 HS
          go_wp2
          go_ret
          exact ⟨rfl, hB11⟩
        · obtain ⟨p3, hp3⟩ := reP_bad hnt
          go_wp2_with fail
          refine R4.out.mono ?_
          intro e w2 h2
          obtain ⟨⟨so, sc, rfl⟩, hb2⟩ := ReA.err hp3 h2
          have hXa7 := (hXa6.below hb2 hXa6.lt).alloc (.cells #[.int .i64 0, .string { data := #[] }, .int .u64 0, .int .u64 0, .int .u64 0, .int .u64 0, .slice so 0 sc, .int .i64 0, .int .i64 0] 27)
          have hB7 := bal (btr hB6 hb2) (.cells #[.int .i64 0, .string { data := #[] }, .int .u64 0, .int .u64 0, .int .u64 0, .int .u64 0, .slice so 0 sc, .int .i64 0, .int .i64 0] 27)
          clear h2 hnt hp3 hb2 hXa6 hat6 hB6 R4
          obtain ⟨x0, x1, x2, x3, x4, x5, x6, x7, x8⟩ : R9At (w2.alloc (.cells #[.int .i64 0, .string { data := #[] }, .int .u64 0, .int .u64 0, .int .u64 0, .int .u64 0, .slice so 0 sc, .int .i64 0, .int .i64 0] 27)) v1.heap.size 0 a ao ac := hXa7.r9 fun i hi => by rw [Nat.zero_add]
          simp only [Nat.zero_add] at x1 x2 x3 x4 x5 x6 x7 x8
          have hB8 := bal (bal hB7 (.cells (rxCells a ao ac) 27)) (.cells #[.int .i64 8, .string { data := #[] }, .int .u64 0, .int .u64 0, .int .u64 0, .int .u64 0, .slice (some ⟨w2.heap.size + 1, 0, none⟩) 1 1, .int .i64 0, .int .i64 (-1)] 27)
          clear hXa7 hB7
          go_wp2_with fail
          refine (awake_parse _).mono ?_
          rintro e w9 ⟨rfl, hb9⟩
          have hB9 := btr hB8 hb9
          go_wp2
          go_ret
          exact ⟨rfl, hB9⟩
  · obtain ⟨p3, hp3⟩ := reP_bad W3
    obtain ⟨⟨so, sc, rfl⟩, hb3⟩ := ReA.err hp3 ha
    have hB3 := bal (btr hB2 hb3) (.cells #[.int .i64 0, .string { data := #[] }, .int .u64 0, .int .u64 0, .int .u64 0, .int .u64 0, .slice so 0 sc, .int .i64 0, .int .i64 0] 27)
    clear ha hat2 hbt2 hXa2 hXb2 hb3 hB2 R1 R2 R3 A1 A2
    go_wp2_with fail
    refine (awake_parse _).mono ?_
    rintro e v4 ⟨rfl, hb4⟩
    have hB4 := btr hB3 hb4
    go_wp2
    go_ret
    exact ⟨rfl, hB4⟩

set_option maxRecDepth 100000 in
theorem parseBrackets_walk (s t : ByteArray) (w : World) :
    Calls Try.prog 3 #[.string s, .string t] w fun e w' => e = .returned (.bool true) ∧ Below w.heap.size w w' := by
  by_cases h1 : s.size ≤ 700
  · by_cases h2 : t.size ≤ 700
    · cases hs : reP (bl s) with
      | error x => exact parseBrackets_bad s t h1 h2 (.inl ⟨x, hs⟩) w
      | ok a =>
        cases ht : reP (bl t) with
        | error x => exact parseBrackets_bad s t h1 h2 (.inr ⟨x, ht⟩) w
        | ok b => exact parseBrackets_good s t h1 h2 hs ht w
    · have i1 : ¬ (700 : Int) < (s.size : Int) := by omega
      have i2 : (700 : Int) < (t.size : Int) := by omega
      go_enter Try.func3, Try.ntmps3
      go_wp2
      go_ret
      exact ⟨rfl, Below.refl _ _⟩
  · have i1 : (700 : Int) < (s.size : Int) := by omega
    go_enter Try.func3, Try.ntmps3
    go_wp2
    go_ret
    exact ⟨rfl, Below.refl _ _⟩
end Go.Proofs.Ytbiempopfmpohaa
