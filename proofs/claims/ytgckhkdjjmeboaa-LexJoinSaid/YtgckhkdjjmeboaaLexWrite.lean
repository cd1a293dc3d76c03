/-
  The lexer writes a byte of a text or a set behind a slice of the caller's own. Conditions: sizes that each names.
-/
import Derived.Test.YtgckhkdjjmeboaaLexNA
import Derived.Test.YtgckhkdjjmeboaaLexBackM
import Derived.Maps.AppendAt
import Derived.Deep.RegionLaw
namespace Go.Proofs.Ytgckhkdjjmeboaa
open Go.RowKit

/-- An append to a row of the caller's own, as one step of a region that draws its order; and where it lies. -/
theorem step_append_place {P : Program} {ops : Array Oper} {o : Oper} {a : Act} {w : World} {K : Act → World → Prop} {Q : Exit → Act → World → Prop} {E : Prop}
    (hg : o.guard = none) (s x : Operand) (t : TypeId) (hop : o.op = Op.call { callee := Callee.builtin Builtin.append, args := #[s, x], argTypes := #[t, t] })
    (base : Nat) (e : TypeId) (i : TypeInfo) (z : Value) (size bytes : Nat) (h1 : P.underlying t = some (.slice e)) (h2 : P.info? e = some i) (h3 : i.zero = some z) (h4 : i.size = size) (h5 : i.bytes = bytes) (h6 : z.cells.size = size) (h7 : 0 < size)
    (v : Value) (k : Nat) (xs : List Value) (hs : a.eval s = v) (hown : w.ownsRow base e size v k xs) (ad : Addr) (m c : Nat) (news : List Value) (hx : a.eval x = .slice (some ad) m c) (hn : news.length = m * size)
    (hc : ∀ j u, news[j]? = some u → w.cell? (ad.add j) = some u) (h1c : ∀ u ∈ news, u.oneCell' = true) (b1 : k + m ≤ maxLen) (b2 : (k + m) * bytes ≤ 140737488355328) (b3 : base ≤ w.heap.size)
    (hK : ∀ v' w', w'.ownsRow base e size v' (k + m) (xs ++ news) → w.grownBy w' v.ownBlock → (v'.ownBlock = v.ownBlock ∨ v'.ownBlock = some w.heap.size) → K (a.put o.dst v') w') :
    if Region.wanted o (yielded ops a.tmps) = true then Oper.wp P o a w K Q else E := by
  have hw : Region.wanted o (yielded ops a.tmps) = true := by simp [Region.wanted, hg]
  rw [if_pos hw]
  obtain ⟨v', w', hrun, r1, r2, _, r3⟩ := run_append_own_at (P := P) w base t o.type e i z size bytes h1 h2 h3 h4 h5 h6 h7 v k xs hown ad m c news hn hc h1c b1 b2 b3
  have := hK v' w' r1 r2 r3
  unfold Oper.wp
  simp [execOp, hop, resolve, invoke, builtin, hs, hx, hrun, Result.andThen]
  exact this
/-- The own row lies where it lay, or in a new block. -/
def Placed (w : World) (v v' : Value) : Prop := v'.ownBlock = v.ownBlock ∨ ∃ g, v'.ownBlock = some g ∧ w.heap.size ≤ g
theorem Placed.of {w : World} {o : Obj} {v v' : Value} (h : v'.ownBlock = v.ownBlock ∨ v'.ownBlock = some (w.alloc o).heap.size) : Placed w v v' := by
  rcases h with h | h
  · exact .inl h
  · exact .inr ⟨_, h, by rw [World.size_alloc]; omega⟩
theorem grown_two {a b c : World} {v v1 : Value} (h : a.grownBy b v.ownBlock) (hp : Placed a v v1) (k : b.grownBy c v1.ownBlock) : a.grownBy c v.ownBlock := by
  refine ⟨k.os.trans h.os, k.tape.trans h.tape, k.output.trans h.output, Nat.le_trans h.size k.size, fun i hi hne => (k.block i (Nat.lt_of_lt_of_le hi h.size) ?_).trans (h.block i hi hne)⟩
  rcases hp with e | ⟨g, e, hg⟩
  · rw [e]; exact hne
  · rw [e]; intro e2; have := Option.some.inj e2; omega
theorem grown_pre {a c : World} {v : Value} (o : Obj) (k : (a.alloc o).grownBy c v.ownBlock) : a.grownBy c v.ownBlock :=
  ⟨k.os.trans (World.grownBy_alloc a o v.ownBlock).os, k.tape.trans (World.grownBy_alloc a o v.ownBlock).tape, k.output.trans (World.grownBy_alloc a o v.ownBlock).output, Nat.le_trans (World.grownBy_alloc a o v.ownBlock).size k.size, fun i hi hne => (k.block i (Nat.lt_of_lt_of_le hi (World.grownBy_alloc a o v.ownBlock).size) hne).trans ((World.grownBy_alloc a o v.ownBlock).block i hi hne)⟩
theorem placed_two {a b : World} {v v1 v2 : Value} (h : Placed a v v1) (k : Placed b v1 v2) (hs : a.heap.size ≤ b.heap.size) : Placed a v v2 := by
  rcases k with k | ⟨g, k, hg⟩
  · rcases h with h | ⟨g, h, hg⟩
    · exact .inl (k.trans h)
    · exact .inr ⟨g, k.trans h, hg⟩
  · exact .inr ⟨g, k, by omega⟩
theorem u8Cells_snoc (bs cs : List UInt8) : u8Cells bs ++ u8Cells cs = u8Cells (bs ++ cs) := by simp [u8Cells]
theorem breaks_is (c : UInt8) : Lib.indexByte (bl { data := #[10, 9, 13] }) c = if c = 10 then 0 else if c = 9 then 1 else if c = 13 then 2 else -1 := by
  refine all_bytes (p := fun c => Lib.indexByte (bl { data := #[10, 9, 13] }) c = if c = 10 then 0 else if c = 9 then 1 else if c = 13 then 2 else -1) ?_ c
  decide +kernel
theorem and15 (n : Nat) (h : n < 256) : bits BinOp.and IntKind.u8 (n : Int) 15 = ((n % 16 : Nat) : Int) := by
  have hall : ∀ k : Fin 256, bits BinOp.and IntKind.u8 ((k.val : Nat) : Int) 15 = ((k.val % 16 : Nat) : Int) := by decide +kernel
  exact hall ⟨n, h⟩
abbrev sixT : ByteArray := { data := #[48, 49, 50, 51, 52, 53, 54, 55, 56, 57, 97, 98, 99, 100, 101, 102] }
theorem sixT_is : ∀ a, (h : a < 16) → sixT[a]'h = hexD a := by decide +kernel
/-- What write says of its answer. -/
def WriteA (base : Nat) (bs : List UInt8) (v : Value) (c : UInt8) (w : World) (e : Ending) (w' : World) : Prop :=
  ∃ v', e = .returned v' ∧ w'.ownsRow base 5 1 v' (bs ++ byteL c).length (u8Cells (bs ++ byteL c)) ∧ w.grownBy w' v.ownBlock ∧ Placed w v v'

set_option maxRecDepth 100000 in
set_option maxHeartbeats 2000000 in
theorem write_any (base : Nat) (bs : List UInt8) (v : Value) (c : UInt8) (hl : bs.length ≤ 1099511627776) (w : World) (hown : w.ownsRow base 5 1 v bs.length (u8Cells bs)) (hb : base ≤ w.heap.size) :
    Calls Try.prog 22 #[v, .int .u8 ((c.toNat : Nat) : Int)] w fun e w' => WriteA base bs v c w e w' := by
  obtain ⟨ii, hi, hz0, hz1, hz2⟩ := info_parts info_u8t
  have HI := Lib.hid (fun W => ixb_any { data := #[10, 9, 13] } c W)
  have HM := Lib.hid (fun W => lhas_any { data := #[92, 34, 91, 93, 94, 45] } c W)
  have HP := Lib.hid (fun W => isplain_any c W)
  rw [breaks_is] at HI
  rw [marks_is] at HM
  have hpl := plain_is c
  have nc := UInt8.toNat_lt c
  obtain ⟨vo, vc, rfl, hvc⟩ := owns_form hown
  cases hm : sixB c with
  | true =>
    rw [hm] at HM hpl
    rw [Bool.not_true, Bool.and_false] at hpl
    have HY := Lib.hid (show byteL c = [92, c] by unfold byteL; rw [hpl, hm]; rfl)
    obtain ⟨x, hx⟩ : ∃ x, (if c = 10 then (0 : Int) else if c = 9 then 1 else if c = 13 then 2 else -1) = x := ⟨_, rfl⟩
    rw [hx] at HI
    clear hpl hm hx HP
    go_enter Try.func22, Try.ntmps22
    go_wp2_with fail
    refine (HI.out _).mono ?_
    rintro e w1 ⟨rfl, hw1⟩; subst w1
    go_wp2_with fail
    refine (HM.out _).mono ?_
    rintro e w1 ⟨rfl, hw1⟩; subst w1
    go_wp2_with (first | (at_builtin; refine wpList_append_own_at _ rfl _ _ 42 rfl base 5 ii (.int .u8 0) 1 1 Try.underlying42 hi hz0 hz1 hz2 rfl (by decide) _ _ _ rfl (hown.alloc _) ⟨w.heap.size, 0, none⟩ 1 1 [.int .u8 92] rfl rfl (cell_one_new _ _ _) (by simp [Value.oneCell']) (by unfold maxLen; omega) (by omega) (by simp; omega) ?_; intro v1 w3 hown3 hg3 _ hp3; have hg1 := grown_pre _ hg3; have hp1 := Placed.of hp3; have hs3 := hg1.size; clear hg3 hp3; obtain ⟨vo1, vc1, rfl, hvc1⟩ := owns_form hown3) | (at_builtin; refine wpList_append_own_at _ rfl _ _ 42 rfl base 5 ii (.int .u8 0) 1 1 Try.underlying42 hi hz0 hz1 hz2 rfl (by decide) _ _ _ rfl (hown3.alloc _) ⟨w3.heap.size, 0, none⟩ 1 1 [.int .u8 ((c.toNat : Nat) : Int)] rfl rfl (cell_one_new _ _ _) (by simp [Value.oneCell']) (by unfold maxLen; omega) (by omega) (by simp; omega) ?_; intro v2 w5 hown5 hg5 _ hp5; have hg2 := grown_pre _ hg5; have hp2 := Placed.of hp5; clear hg5 hp5) | fail)
    go_ret
    refine ⟨v2, rfl, ?_, grown_two hg1 hp1 hg2, placed_two hp1 hp2 hs3⟩
    rw [HY.out]
    simpa [u8Cells] using hown5
  | false =>
  rw [hm] at HM hpl
  rw [Bool.not_false, Bool.and_true] at hpl
  cases hr : rangeB c with
  | true =>
    rw [hr] at HP hpl
    have HY := Lib.hid (show byteL c = [c] by unfold byteL; rw [hpl]; rfl)
    obtain ⟨x, hx⟩ : ∃ x, (if c = 10 then (0 : Int) else if c = 9 then 1 else if c = 13 then 2 else -1) = x := ⟨_, rfl⟩
    rw [hx] at HI
    clear hpl hm hx hr
    go_enter Try.func22, Try.ntmps22
    go_wp2_with fail
    refine (HI.out _).mono ?_
    rintro e w1 ⟨rfl, hw1⟩; subst w1
    go_wp2_with fail
    refine (HM.out _).mono ?_
    rintro e w1 ⟨rfl, hw1⟩; subst w1
    go_wp2_with fail
    refine (HP.out _).mono ?_
    rintro e w1 ⟨rfl, hw1⟩; subst w1
    go_wp2_with (first | (at_builtin; refine wpList_append_own_at _ rfl _ _ 42 rfl base 5 ii (.int .u8 0) 1 1 Try.underlying42 hi hz0 hz1 hz2 rfl (by decide) _ _ _ rfl (hown.alloc _) ⟨w.heap.size, 0, none⟩ 1 1 [.int .u8 ((c.toNat : Nat) : Int)] rfl rfl (cell_one_new _ _ _) (by simp [Value.oneCell']) (by unfold maxLen; omega) (by omega) (by simp; omega) ?_; intro v2 w5 hown5 hg5 _ hp5; have hg2 := grown_pre _ hg5; have hp2 := Placed.of hp5; clear hg5 hp5) | fail)
    go_ret
    refine ⟨v2, rfl, ?_, hg2, hp2⟩
    rw [HY.out]
    simpa [u8Cells] using hown5
  | false =>
  rw [hr] at HP hpl
  have hbr : ∀ (x d : UInt8) (j : Int) (_ : byteL c = [92, d]) (_ : (if c = 10 then (0 : Int) else if c = 9 then 1 else if c = 13 then 2 else -1) = j) (k : Nat) (hk : k < 3) (_ : j = (k : Int)) (_ : (ByteArray.mk #[110, 116, 114])[k]'hk = d),
      Calls Try.prog 22 #[.slice vo bs.length vc, .int .u8 ((c.toNat : Nat) : Int)] w fun e w' => WriteA base bs (.slice vo bs.length vc) c w e w' := by
    intro _ d j hy hj k hk hjk hd
    have HY := Lib.hid hy
    rw [hj] at HI
    subst hjk
    have HD := Lib.hid hd
    have hk0 : (0 : Int) ≤ (k : Int) := by omega
    have hk3 : (k : Int) < 3 := by omega
    clear hy hj hd hpl hm hr
    go_enter Try.func22, Try.ntmps22
    go_wp2_with fail
    refine (HI.out _).mono ?_
    rintro e w1 ⟨rfl, hw1⟩; subst w1
    go_wp2_with fail
    refine (HM.out _).mono ?_
    rintro e w1 ⟨rfl, hw1⟩; subst w1
    go_wp2_with fail
    refine (HP.out _).mono ?_
    rintro e w1 ⟨rfl, hw1⟩; subst w1
    go_wp2_with (first | (at_builtin; refine wpList_append_own_at _ rfl _ _ 42 rfl base 5 ii (.int .u8 0) 1 1 Try.underlying42 hi hz0 hz1 hz2 rfl (by decide) _ _ _ rfl (hown.alloc _) ⟨w.heap.size, 0, none⟩ 2 2 [.int .u8 92, .int .u8 ((d.toNat : Nat) : Int)] rfl rfl (by rw [← HD.out]; exact cells_new w 5 [_, _]) (by simp [Value.oneCell']) (by unfold maxLen; omega) (by omega) (by simp; omega) ?_; intro v2 w5 hown5 hg5 _ hp5; have hg2 := grown_pre _ hg5; have hp2 := Placed.of hp5; clear hg5 hp5) | fail)
    go_ret
    refine ⟨v2, rfl, ?_, hg2, hp2⟩
    rw [HY.out]
    simpa [u8Cells] using hown5
  by_cases h10 : c = 10
  · exact hbr c 110 0 (by rw [h10]; rfl) (by rw [if_pos h10]) 0 (by decide) rfl rfl
  by_cases h9 : c = 9
  · exact hbr c 116 1 (by rw [h9]; rfl) (by rw [if_neg h10, if_pos h9]) 1 (by decide) rfl rfl
  by_cases h13 : c = 13
  · exact hbr c 114 2 (by rw [h13]; rfl) (by rw [if_neg h10, if_neg h9, if_pos h13]) 2 (by decide) rfl rfl
  rw [if_neg h10, if_neg h9, if_neg h13] at HI
  have HY := Lib.hid (show byteL c = [92, 120, hexD (c.toNat / 16), hexD (c.toNat % 16)] by unfold byteL; rw [hpl, hm, if_neg h10, if_neg h9, if_neg h13]; rfl)
  clear hbr hpl hm hr h10 h9 h13
  go_enter Try.func22, Try.ntmps22
  go_wp2_with fail
  refine (HI.out _).mono ?_
  rintro e w1 ⟨rfl, hw1⟩; subst w1
  go_wp2_with fail
  refine (HM.out _).mono ?_
  rintro e w1 ⟨rfl, hw1⟩; subst w1
  go_wp2_with fail
  refine (HP.out _).mono ?_
  rintro e w1 ⟨rfl, hw1⟩; subst w1
  obtain ⟨n, hn⟩ : ∃ n, c.toNat = n := ⟨_, rfl⟩
  rw [hn] at HY nc ⊢
  clear hn
  obtain ⟨a, ha⟩ : ∃ a, n / 16 = a := ⟨_, rfl⟩
  obtain ⟨b, hb16⟩ : ∃ b, n % 16 = b := ⟨_, rfl⟩
  have hba := and15 n nc
  have hdiv : (n : Int) / 16 = (a : Int) := by omega
  have a0 : (0 : Int) ≤ (a : Int) := by omega
  have a1 : (a : Int) < 16 := by omega
  have b0 : (0 : Int) ≤ (b : Int) := by omega
  have b1 : (b : Int) < 16 := by omega
  have na : a < 16 := by omega
  have nb : b < 16 := by omega
  rw [ha, hb16] at HY
  rw [hb16] at hba
  clear ha hb16 nc
  have HXA := Lib.hid (sixT_is a na)
  have HXB := Lib.hid (sixT_is b nb)
  have hownD : w.drew.ownsRow base 5 1 (.slice vo bs.length vc) bs.length (u8Cells bs) := hown
  go_wp2_with fail
  go_region_law (refine step_append_place rfl _ _ 42 rfl base 5 ii (.int .u8 0) 1 1 Try.underlying42 hi hz0 hz1 hz2 rfl (by decide) (.slice vo bs.length vc) bs.length (u8Cells bs) rfl (hownD.alloc _) ⟨w.drew.heap.size, 0, none⟩ 4 4 [.int .u8 92, .int .u8 120, .int .u8 (((sixT[a]'na).toNat : Nat) : Int), .int .u8 (((sixT[b]'nb).toNat : Nat) : Int)] rfl rfl (cells_new w.drew 5 [_, _, _, _]) (by simp [Value.oneCell']) (by unfold maxLen; omega) (by omega) (Nat.le_trans hb (World.grownBy_alloc w.drew _ none).size) ?_; intro v2 w5 hown5 hg5 hp5; have hg2 : w.grownBy w5 (Value.slice vo bs.length vc).ownBlock := grown_pre (v := .slice vo bs.length vc) (.cells #[.int .u8 92, .int .u8 120, .int .u8 (((sixT[a]'na).toNat : Nat) : Int), .int .u8 (((sixT[b]'nb).toNat : Nat) : Int)] 5) ⟨hg5.os, hg5.tape, hg5.output, hg5.size, hg5.block⟩; have hp2 : Placed w (.slice vo bs.length vc) v2 := Placed.of hp5; clear hg5 hp5)
  all_goals
    go_wp2
    go_ret
    refine ⟨v2, rfl, ?_, hg2, hp2⟩
    rw [HY.out]
    rw [HXA.out, HXB.out] at hown5
    simpa [u8Cells] using hown5
end Go.Proofs.Ytgckhkdjjmeboaa
