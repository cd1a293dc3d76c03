/-
  A new row is noted in the landed table. Conditions: the row is not there yet, and there are fewer than 4096.
-/
import Derived.Test.YtbnnfhpphelmfaaInternTab
import Derived.Laws.Cover3
namespace Go.Proofs.Ytbnnfhpphelmfaa
open Go.RowKit Go.Maps

theorem But.one {w w' : World} {row : Option Nat} {F : Nat → Prop} (h : w.grownBy w' row) (hF : ∀ k, row = some k → F k) : But F w w' :=
  ⟨h.os, h.tape, h.output, h.size, fun k hk hn => h.block k hk fun e => hn (hF k e.symm)⟩
theorem But.put {w : World} {F : Nat → Prop} (a : Addr) (u : Value) (hF : F a.block) : But F w (w.setCell a u) :=
  ⟨rfl, rfl, rfl, by simp, fun k _ hn => Below.heap_setCell w a u k fun e => hn (by rw [e]; exact hF)⟩
theorem But.new (w : World) (o : Obj) (F : Nat → Prop) : But F w (w.alloc o) := But.of_below (bal0 w o)
/-- One behind the other, both of one kind. -/
theorem But.then {F : Nat → Prop} {a b c : World} (h : But F a b) (k : But F b c) : But F a c := h.trans k fun _ f => .inl f

theorem tm_blk {W W2 W4 : World} {a b : Nat} {sv : Value} {L : List (List Int)} {D : DataW Unit} {F : Nat → Prop} (hT : Tm W a b sv L D F) (hg2 : W.grownBy W2 (some b)) (o : Obj) (hg4 : (W2.alloc o).grownBy W4 sv.ownBlock) : Blk W4 a 53 #[.map (some b), sv] := by
  have h1 : Blk W2 a 53 #[.map (some b), sv] := (hg2.block a (hT.lt a hT.fa) fun e => hT.ne (by cases e; rfl)).trans hT.blk
  have h2 := h1.alloc o
  exact (hg4.block a h2.lt fun e => (hT.fs a e.symm).2 rfl).trans h2
/-- Of the table with its map made: behind the map's and the slice's change. -/
theorem tab_done {W W2 W4 : World} {a b : Nat} {sv v : Value} {L : List (List Int)} {D : DataW Unit} {F : Nat → Prop} {s : List Int} (hT : Tm W a b sv L D F) (hs : Rng s) (hm : s.length ≤ 1000) (hn : posTo s L = none) (good : ∀ r ∈ L, Rng r ∧ r.length ≤ 1000)
    (hmap2 : W2.ownsMap Try.prog 9 (plainElem Try.prog 3) b (L.length + 1) (D.put (.string (keyT s)) (.lit (.int .i64 (L.length : Int))))) (hg2 : W.grownBy W2 (some b)) (o : Obj)
    (hown4 : W4.ownsRow 0 9 1 v (L.length + 1) (strCells L ++ [.string (strOfNums (keyI s))])) (hg4 : (W2.alloc o).grownBy W4 sv.ownBlock) (hat : v.ownBlock = sv.ownBlock ∨ v.ownBlock = some (W2.alloc o).heap.size) :
    ∃ F', Tb (W4.setCell ⟨a, 1, none⟩ v) a (L ++ [s]) F' ∧ But F W (W4.setCell ⟨a, 1, none⟩ v) ∧ (∀ k, F' k → F k ∨ W.heap.size ≤ k) := by
  have b2 : But F W W2 := But.one hg2 fun k e => by cases e; exact hT.fb
  have b3 : But F W2 (W2.alloc o) := But.new _ _ _
  have b4 : But F (W2.alloc o) W4 := But.one hg4 fun k e => (hT.fs k e).1
  have b5 : But F W4 (W4.setCell ⟨a, 1, none⟩ v) := But.put _ _ hT.fa
  have s2 := b2.size
  have s3 := b3.size
  have s4 := b4.size
  have hnew : ∀ k, v.ownBlock = some k → F k ∧ k ≠ a ∨ W.heap.size ≤ k := fun k e => by
    rcases hat with h | h
    · exact .inl (hT.fs k (h ▸ e))
    · rw [h] at e; cases e; exact .inr (by omega)
  have hla := hT.lt a hT.fa
  have hva : ∀ k, v.ownBlock = some k → k ≠ a := fun k e => by
    rcases hnew k e with h | h
    · exact h.2
    · omega
  have h3 := tm_blk hT hg2 o hg4
  have h4 := h3.set 1 v
  have hne := map_row hT.map hT.own
  have m4 := ((hmap2.alloc o).kept hg4 hne).setCell (a := ⟨a, 1, none⟩) hT.ne v
  have hsz : (W4.setCell ⟨a, 1, none⟩ v).heap.size = W4.heap.size := by simp
  have o5 : (W4.setCell ⟨a, 1, none⟩ v).ownsRow 0 9 1 v (L.length + 1) (strCells L ++ [.string (strOfNums (keyI s))]) := But.owns (F := fun k => k = a) (But.put _ _ rfl) hown4 fun k e h => hva k e h
  refine ⟨fun k => F k ∨ v.ownBlock = some k, ⟨⟨.map (some b), v, h4, ?_, fun k e => ⟨.inr e, hva k e⟩, .inr ⟨b, _, rfl, .inl hT.fb, hT.ne, ?_, hT.inv.new hs hn⟩⟩, .inl hT.fa, ?_, ?_⟩, ((b2.then b3).then b4).then b5, ?_⟩
  · rw [List.length_append, List.length_singleton, strCells, List.map_append]
    exact o5
  · rw [List.length_append, List.length_singleton]
    exact m4
  · rintro k (f | e)
    · have := hT.lt k f; omega
    · exact (o5.lt k e).2
  · intro r hr
    rcases List.mem_append.1 hr with h | h
    · exact good r h
    · rw [List.mem_singleton.1 h]; exact ⟨hs, hm⟩
  · rintro k (f | e)
    · exact .inl f
    · rcases hnew k e with h | h
      · exact .inl h.1
      · exact .inr h

set_option maxRecDepth 100000 in
set_option maxHeartbeats 1000000 in
theorem add_old {a b : Nat} {sv : Value} {L : List (List Int)} {D : DataW Unit} {F : Nat → Prop} {s : List Int} {w : World} (hT : Tm w a b sv L D F) (hs : Rng s) (hm : s.length ≤ 1000) (hn : posTo s L = none) (good : ∀ r ∈ L, Rng r ∧ r.length ≤ 1000) (hL : L.length < 4096) :
    Calls Try.prog 31 #[.pointer (some ⟨a, 0, none⟩), .string (strOfNums (keyI s))] w fun e w' => e = .returned (.int .i64 (L.length : Int)) ∧ ∃ F', Tb w' a (L ++ [s]) F' ∧ But F w w' ∧ (∀ k, F' k → F k ∨ w.heap.size ≤ k) := by
  obtain ⟨i0, hi, hz0, hz1, hz2⟩ := info_parts info_str
  have hq : ∀ W : World, (binOp .eql 48 (.map (some b)) (.map none)).run Try.prog W = .ok (.bool false) W := fun W => by simp [binOp, run_equal_map_nil W 48 _ _ (some b) Try.underlying48]
  have hkey := key_of s hm
  have c0 := hT.blk.cell 0
  have c1 := hT.blk.cell 1
  obtain ⟨so, sc, rfl, hsc⟩ := owns_form hT.own
  have hmap := hT.map
  have hown := hT.own
  have hne := map_row hmap hown
  have HT := Lib.hid hT
  have hla := hT.lt a hT.fa
  have HS := Lib.hid hs
  have HG := Lib.hid good
  have HN := Lib.hid hn
  obtain ⟨key, hk⟩ : ∃ k, strOfNums (keyI s) = k := ⟨_, rfl⟩
  have HK := Lib.hid hk
  rw [hk] at hkey ⊢
  clear hT hs hn good hk
  go_enter Try.func31, Try.ntmps31
  go_wp2_with (first | (at_mapUpdate; refine wpList_mapUpdate_own _ rfl _ _ _ 48 rfl 9 3 law_str Try.underlying48 (plainElem Try.prog 3) b L.length D rfl hmap (by unfold maxLen; omega) _ _ (.string (keyT s)) rfl rfl hkey (.lit (.int .i64 (L.length : Int))) [] (plainElem_int Try.underlying3 (WalkArith.wf_i64 (by omega))) ?_; intro w2 hmap2 hg2; have hown2 := hown.kept hg2 (.inr hne.symm); have c2 : w2.cell? ⟨a, 1, none⟩ = some (.slice so L.length sc) := (World.cell?_of_block (hg2.block a hla fun e => HT.out.ne (by cases e; rfl))).trans c1) | (at_builtin; refine wpList_append_own_at _ rfl _ _ 49 rfl 0 9 i0 (.string ByteArray.empty) 1 16 Try.underlying49 hi hz0 hz1 hz2 rfl (by decide) (.slice so L.length sc) L.length (strCells L) rfl (hown2.alloc (.cells #[.string key] 9)) ⟨w2.heap.size, 0, none⟩ 1 1 [.string key] rfl rfl (cell_one_new _ _ _) (by simp [Value.oneCell']) (by unfold maxLen; omega) (by omega) (Nat.zero_le _) ?_; intro v w4 hown4 hg4 _ hat; obtain ⟨vo, vc, rfl, _⟩ := owns_form hown4; have hbk := tm_blk HT.out hg2 (.cells #[.string key] 9) hg4; have d1 := hbk.cell 1; have d2 := hbk.frozen 1; clear hbk) | fail)
  go_wp2
  go_ret
  refine ⟨rfl, ?_⟩
  rw [← HK.out] at hown4
  exact tab_done HT.out HS.out hm HN.out HG.out hmap2 hg2 _ hown4 hg4 hat
/-- A table without a map. -/
structure Tn (W : World) (a : Nat) (sv : Value) (F : Nat → Prop) : Prop where
  blk : Blk W a 53 #[.map none, sv]
  own : W.ownsRow 0 9 1 sv 0 (strCells [])
  fs : ∀ k, sv.ownBlock = some k → F k ∧ k ≠ a
  fa : F a
  lt : ∀ k, F k → k < W.heap.size
/-- The world behind its making. -/
abbrev withMap (w : World) (a : Nat) : World := (w.setCell ⟨a, 0, none⟩ (.map (some w.heap.size))).alloc (.map #[] 0)
theorem Tn.size {w : World} {a : Nat} {sv : Value} {F : Nat → Prop} (_h : Tn w a sv F) : (withMap w a).heap.size = w.heap.size + 1 := by simp
theorem Tn.but {w : World} {a : Nat} {sv : Value} {F : Nat → Prop} (h : Tn w a sv F) : But F w (withMap w a) := (But.put _ _ h.fa).then (But.new _ _ F)
theorem Tn.tm {w : World} {a : Nat} {sv : Value} {F : Nat → Prop} (h : Tn w a sv F) : Tm (withMap w a) a w.heap.size sv [] (.map []) (fun k => F k ∨ k = w.heap.size) := by
  have hla := h.lt a h.fa
  refine ⟨(h.blk.set 0 (.map (some w.heap.size))).alloc (.map #[] 0), ?_, fun k e => ⟨.inl (h.fs k e).1, (h.fs k e).2⟩, .inr rfl, by omega, ?_, .zero, .inl h.fa, ?_⟩
  · exact But.owns (F := fun _ => False) (But.new _ _ _) (But.owns (F := fun k => k = a) (But.put _ _ rfl) h.own fun k e q => (h.fs k e).2 q) fun _ _ f => f
  · have := World.ownsMap_made (H := Unit) (w.setCell ⟨a, 0, none⟩ (.map (some w.heap.size))) Try.prog 9 (plainElem Try.prog 3)
    rwa [show (w.setCell ⟨a, 0, none⟩ (.map (some w.heap.size))).heap.size = w.heap.size by simp] at this
  · rintro k (f | f)
    · have := h.lt k f; have := h.size; omega
    · have := h.size; omega

set_option maxRecDepth 100000 in
set_option maxHeartbeats 1000000 in
theorem add_new {a : Nat} {sv : Value} {F : Nat → Prop} {s : List Int} {w : World} (hN : Tn w a sv F) (hs : Rng s) (hm : s.length ≤ 1000) :
    Calls Try.prog 31 #[.pointer (some ⟨a, 0, none⟩), .string (strOfNums (keyI s))] w fun e w' => e = .returned (.int .i64 0) ∧ ∃ F', Tb w' a [s] F' ∧ But F w w' ∧ (∀ k, F' k → F k ∨ w.heap.size ≤ k) := by
  obtain ⟨i0, hi, hz0, hz1, hz2⟩ := info_parts info_str
  have hq : ∀ W : World, (binOp .eql 48 (.map none) (.map none)).run Try.prog W = .ok (.bool true) W := fun W => by simp [binOp, run_equal_map_nil W 48 _ _ none Try.underlying48]
  have hkey := key_of s hm
  have hmm := @run_makeMap Try.prog
  have c0 := hN.blk.cell 0
  have c1 := (hN.blk.alloc (.map #[] 0)).cell 0
  have f1 := (hN.blk.alloc (.map #[] 0)).frozen 0
  have hT := hN.tm
  have c3 : ((w.setCell ⟨a, 0, none⟩ (.map (some w.heap.size))).alloc (.map #[] 0)).cell? ⟨a, 1, none⟩ = some sv := hT.blk.cell 1
  have hb0 := hN.but
  have hsz0 := hN.size
  have hla0 := hN.lt a hN.fa
  obtain ⟨so, sc, rfl, hsc⟩ := owns_form hN.own
  have hmap := hT.map
  have hown := hT.own
  have hne := map_row hmap hown
  have HT := Lib.hid hT
  have hla := hT.lt a hT.fa
  have HS := Lib.hid hs
  obtain ⟨key, hk⟩ : ∃ k, strOfNums (keyI s) = k := ⟨_, rfl⟩
  have HK := Lib.hid hk
  rw [hk] at hkey ⊢
  clear hT hs hN hk
  go_enter Try.func31, Try.ntmps31
  go_wp2_with (first | (at_mapUpdate; refine wpList_mapUpdate_own _ rfl _ _ _ 48 rfl 9 3 law_str Try.underlying48 (plainElem Try.prog 3) w.heap.size 0 (.map []) rfl hmap (by unfold maxLen; omega) _ _ (.string (keyT s)) rfl rfl hkey (.lit (.int .i64 0)) [] (plainElem_int Try.underlying3 (WalkArith.wf_i64 (by omega))) ?_; intro w2 hmap2 hg2; have hown2 := hown.kept hg2 (.inr hne.symm); have c2 : w2.cell? ⟨a, 1, none⟩ = some (.slice so 0 sc) := (World.cell?_of_block (hg2.block a hla fun e => HT.out.ne (by cases e; rfl))).trans c3) | (at_builtin; refine wpList_append_own_at _ rfl _ _ 49 rfl 0 9 i0 (.string ByteArray.empty) 1 16 Try.underlying49 hi hz0 hz1 hz2 rfl (by decide) (.slice so 0 sc) 0 (strCells []) rfl (hown2.alloc (.cells #[.string key] 9)) ⟨w2.heap.size, 0, none⟩ 1 1 [.string key] rfl rfl (cell_one_new _ _ _) (by simp [Value.oneCell']) (by unfold maxLen; omega) (by omega) (Nat.zero_le _) ?_; intro v w4 hown4 hg4 _ hat; obtain ⟨vo, vc, rfl, _⟩ := owns_form hown4; have hbk := tm_blk HT.out hg2 (.cells #[.string key] 9) hg4; have d1 := hbk.cell 1; have d2 := hbk.frozen 1; clear hbk) | fail)
  go_wp2
  go_ret
  refine ⟨rfl, ?_⟩
  rw [← HK.out] at hown4
  obtain ⟨F', t1, t2, t3⟩ := tab_done HT.out HS.out hm rfl (by simp) hmap2 hg2 _ hown4 hg4 hat
  refine ⟨F', t1, hb0.trans t2 fun k f => ?_, fun k f => ?_⟩
  · rcases f with f | f
    · exact .inl f
    · exact .inr (by omega)
  · rcases t3 k f with (f | f) | f
    · exact .inl f
    · exact .inr (by omega)
    · exact .inr (by omega)
end Go.Proofs.Ytbnnfhpphelmfaa
