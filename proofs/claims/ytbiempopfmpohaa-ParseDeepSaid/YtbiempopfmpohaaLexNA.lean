/-
The lexer's next token. Conditions: the place lies within the text.
The lexer's tokens, all of them. Conditions: the text has at most 65536 bytes.
-/
import Derived.Test.YtbiempopfmpohaaLexListed
namespace Go.Proofs.Ytbiempopfmpohaa
open Go.RowKit

/-- A token stored into a block of its own: the other blocks are as they were. -/
theorem wp_tok2 {ops : Array Oper} {rest : List Oper} {op : Oper} {a : Act} {w : World} {Q : Exit → Act → World → Prop} (hg : op.guard = none) (x y : Operand) (ho : op.op = .store 65 x y) (B : Nat) (t : Tk) (v : Int) (cs : Array Value)
    (hx : a.eval x = .pointer (some ⟨B, 0, none⟩)) (hy : a.eval y = .agg (tokCells t v)) (hK : Blk w B 65 cs) (h8 : cs.size = 8)
    (h : ∀ w', Blk w' B 65 (tokCells t v) → (∀ (W0 : World) (n : Nat), n ≤ B → Below n W0 w → Below n W0 w') → (∀ (B' : Nat) (ty : TypeId) (vs : Array Value), B' ≠ B → Blk w B' ty vs → Blk w' B' ty vs) → wpList Try.prog ops Q rest (a.put op.dst undef) w') : wpList Try.prog ops Q (op :: rest) a w := by
  refine wpList_store_row hg 65 x y ho B (tokCells t v) hx hy 65 cs hK (by rw [size_tok]; rfl) (by rw [h8]; rfl) (by simp [Value.oneCell']) (h _ (setRow_heap _ _ _ _ _ _ hK) (fun W0 n hn hb => ?_) (fun B' ty vs hne hb => ?_))
  · refine ⟨hb.os, hb.tape, hb.output, by simpa [World.setRow] using hb.size, fun k hk => ?_⟩
    rw [← hb.block k hk]
    simp [World.setRow, Array.getElem?_modify, show B ≠ k by omega]
  · have hb' : w.heap[B']? = some (.cells vs ty (0, 0)) := hb
    show (World.setRow _ _ _).heap[B']? = _
    simp [World.setRow, Array.getElem?_modify, show B ≠ B' from fun e => hne e.symm, hb']
theorem partV_form (l : List UInt8) (p : Nat) : ∃ (t : Tk) (q er : Int), partV l p = .tuple #[tokV t 0, .int .i64 q, .int .i64 er] := by
  cases h : tokL l with
  | error e => exact ⟨_, _, _, partV_err h⟩
  | ok x => exact ⟨_, _, _, partV_ok (t := x.1) (n := x.2) h⟩

set_option maxRecDepth 100000 in
set_option maxHeartbeats 2000000 in
theorem token_any (s : ByteArray) (p : Nat) (hp : p ≤ s.size) (hs : s.size ≤ 140737488355328) (w : World) :
    Calls Try.prog 55 #[.string s, .int .i64 (p : Int)] w fun e w' => e = .returned (partV ((bl s).drop p) p) ∧ Below w.heap.size w w' := by
  have p0 : (0 : Int) ≤ (p : Int) := by omega
  have hK := Blk.new w 65 (tokCells Tk.none 0)
  have hB := bal0 w (.cells (tokCells Tk.none 0) 65)
  rw [none_cells] at hK hB
  by_cases hlt : p < s.size
  case neg =>
    have HV := Lib.hid (show partV ((bl s).drop p) p = _ from partV_ok (t := Tk.none) (n := 0) (by rw [drop_end s p (by omega)]; rfl))
    have hge : (((p : Nat) : Int) == (s.size : Int)) = true := by simp; omega
    clear hlt
    go_enter Try.func55, Try.ntmps55
    go_wp2_with (first | (refine wp_tok rfl _ _ rfl w.heap.size Tk.none 0 (tokCells Tk.none 0) rfl (by rw [none_cells]; rfl) hK rfl ?_; intro w5 hK5 hkp; have hB5 := hkp _ _ (Nat.le_refl _) hB; obtain ⟨c0, c1, c2, c3, c4, c5, c6, c7⟩ := tok8 hK5) | fail)
    refine bodyPost_ret (v := .tuple #[tokV Tk.none 0, .int .i64 ((p + 0 : Nat) : Int), .int .i64 0]) (by simp [results, Try.results55, go_sem, c0, c1, c2, c3, c4, c5, c6, c7]) rfl ⟨by rw [HV.out], hB5⟩
  have hlti : (p : Int) < (s.size : Int) := by omega
  have hge : (((p : Nat) : Int) == (s.size : Int)) = false := by simp; omega
  have np := UInt8.toNat_lt (s[p]'hlt)
  have HL := Lib.hid (fun W => isletter_any (s[p]'hlt) W)
  have HD := Lib.hid (fun W => isdigit_any (s[p]'hlt) W)
  cases hl : letterB (s[p]'hlt) with
  | true =>
    rw [hl] at HL
    have HC := Lib.hid (fun W => name_any s p hlt hs hl W)
    clear hl
    obtain ⟨t, q, er, hV⟩ := partV_form ((bl s).drop p) p
    rw [hV] at HC ⊢
    clear hV
    go_enter Try.func55, Try.ntmps55
    go_wp2_with fail
    refine (HL.out _).mono ?_
    rintro e w1 ⟨rfl, rfl⟩
    go_wp2_with fail
    refine (HC.out _).mono ?_
    rintro e w2 ⟨rfl, hb2⟩
    have hB2 := btr hB hb2
    have hK2 := hK.below hb2 hK.lt
    go_wp2_with (first | (refine wp_tok rfl _ _ rfl w.heap.size t 0 _ rfl rfl hK2 rfl ?_; intro w5 hK5 hkp; have hB5 := hkp _ _ (Nat.le_refl _) hB2; obtain ⟨c0, c1, c2, c3, c4, c5, c6, c7⟩ := tok8 hK5) | fail)
    refine bodyPost_ret (v := .tuple #[tokV t 0, .int .i64 q, .int .i64 er]) (by simp [results, Try.results55, go_sem, c0, c1, c2, c3, c4, c5, c6, c7]) rfl ⟨rfl, hB5⟩
  | false =>
  rw [hl] at HL
  cases hd : digitB (s[p]'hlt) with
  | true =>
    rw [hd] at HD
    have HC := Lib.hid (fun W => number_any s p hlt hs hd W)
    clear hl hd
    obtain ⟨t, q, er, hV⟩ := partV_form ((bl s).drop p) p
    rw [hV] at HC ⊢
    clear hV
    go_enter Try.func55, Try.ntmps55
    go_wp2_with fail
    refine (HL.out _).mono ?_
    rintro e w1 ⟨rfl, rfl⟩
    go_wp2_with fail
    refine (HD.out _).mono ?_
    rintro e w1 ⟨rfl, rfl⟩
    go_wp2_with fail
    refine (HC.out _).mono ?_
    rintro e w2 ⟨rfl, hb2⟩
    have hB2 := btr hB hb2
    have hK2 := hK.below hb2 hK.lt
    go_wp2_with (first | (refine wp_tok rfl _ _ rfl w.heap.size t 0 _ rfl rfl hK2 rfl ?_; intro w5 hK5 hkp; have hB5 := hkp _ _ (Nat.le_refl _) hB2; obtain ⟨c0, c1, c2, c3, c4, c5, c6, c7⟩ := tok8 hK5) | fail)
    refine bodyPost_ret (v := .tuple #[tokV t 0, .int .i64 q, .int .i64 er]) (by simp [results, Try.results55, go_sem, c0, c1, c2, c3, c4, c5, c6, c7]) rfl ⟨rfl, hB5⟩
  | false =>
  rw [hd] at HD
  by_cases h34 : s[p]'hlt = 34
  · obtain ⟨d1, d2⟩ := byte_is (n := 34) h34 (by decide)
    have HC := Lib.hid (fun W => quoted_any s p (p + 1) rfl hlt hs h34 W)
    rw [show ((p + 1 : Nat) : Int) = (p : Int) + 1 from rfl] at HC
    clear h34 hl hd
    obtain ⟨t, q, er, hV⟩ := partV_form ((bl s).drop p) p
    rw [hV] at HC ⊢
    clear hV
    go_enter Try.func55, Try.ntmps55
    go_wp2_with fail
    refine (HL.out _).mono ?_
    rintro e w1 ⟨rfl, rfl⟩
    go_wp2_with fail
    refine (HD.out _).mono ?_
    rintro e w1 ⟨rfl, rfl⟩
    go_wp2_with fail
    refine (HC.out _).mono ?_
    rintro e w2 ⟨rfl, hb2⟩
    have hB2 := btr hB hb2
    have hK2 := hK.below hb2 hK.lt
    go_wp2_with (first | (refine wp_tok rfl _ _ rfl w.heap.size t 0 _ rfl rfl hK2 rfl ?_; intro w5 hK5 hkp; have hB5 := hkp _ _ (Nat.le_refl _) hB2; obtain ⟨c0, c1, c2, c3, c4, c5, c6, c7⟩ := tok8 hK5) | fail)
    refine bodyPost_ret (v := .tuple #[tokV t 0, .int .i64 q, .int .i64 er]) (by simp [results, Try.results55, go_sem, c0, c1, c2, c3, c4, c5, c6, c7]) rfl ⟨rfl, hB5⟩
  obtain ⟨d1, d2⟩ := byte_no (n := 34) h34 (by decide)
  by_cases h91 : s[p]'hlt = 91
  · obtain ⟨d3, d4⟩ := byte_is (n := 91) h91 (by decide)
    have HC := Lib.hid (fun W => listed_any s p (p + 1) rfl hlt hs h91 W)
    rw [show ((p + 1 : Nat) : Int) = (p : Int) + 1 from rfl] at HC
    clear h34 h91 hl hd
    obtain ⟨t, q, er, hV⟩ := partV_form ((bl s).drop p) p
    rw [hV] at HC ⊢
    clear hV
    go_enter Try.func55, Try.ntmps55
    go_wp2_with fail
    refine (HL.out _).mono ?_
    rintro e w1 ⟨rfl, rfl⟩
    go_wp2_with fail
    refine (HD.out _).mono ?_
    rintro e w1 ⟨rfl, rfl⟩
    go_wp2_with fail
    refine (HC.out _).mono ?_
    rintro e w2 ⟨rfl, hb2⟩
    have hB2 := btr hB hb2
    have hK2 := hK.below hb2 hK.lt
    go_wp2_with (first | (refine wp_tok rfl _ _ rfl w.heap.size t 0 _ rfl rfl hK2 rfl ?_; intro w5 hK5 hkp; have hB5 := hkp _ _ (Nat.le_refl _) hB2; obtain ⟨c0, c1, c2, c3, c4, c5, c6, c7⟩ := tok8 hK5) | fail)
    refine bodyPost_ret (v := .tuple #[tokV t 0, .int .i64 q, .int .i64 er]) (by simp [results, Try.results55, go_sem, c0, c1, c2, c3, c4, c5, c6, c7]) rfl ⟨rfl, hB5⟩
  obtain ⟨d3, d4⟩ := byte_no (n := 91) h91 (by decide)
  have HC := Lib.hid (fun W => sign_any s p hlt hs h34 h91 hl hd W)
  clear h34 h91 hl hd
  obtain ⟨t, q, er, hV⟩ := partV_form ((bl s).drop p) p
  rw [hV] at HC ⊢
  clear hV
  go_enter Try.func55, Try.ntmps55
  go_wp2_with fail
  refine (HL.out _).mono ?_
  rintro e w1 ⟨rfl, rfl⟩
  go_wp2_with fail
  refine (HD.out _).mono ?_
  rintro e w1 ⟨rfl, rfl⟩
  go_wp2_with fail
  refine (HC.out _).mono ?_
  rintro e w2 ⟨rfl, hb2⟩
  have hB2 := btr hB hb2
  have hK2 := hK.below hb2 hK.lt
  go_wp2_with (first | (refine wp_tok rfl _ _ rfl w.heap.size t 0 _ rfl rfl hK2 rfl ?_; intro w5 hK5 hkp; have hB5 := hkp _ _ (Nat.le_refl _) hB2; obtain ⟨c0, c1, c2, c3, c4, c5, c6, c7⟩ := tok8 hK5) | fail)
  refine bodyPost_ret (v := .tuple #[tokV t 0, .int .i64 q, .int .i64 er]) (by simp [results, Try.results55, go_sem, c0, c1, c2, c3, c4, c5, c6, c7]) rfl ⟨rfl, hB5⟩

theorem nextV_bad {l : List UInt8} {p e : Nat} (h : tokL (l.drop (p + skipN (l.drop p))) = .error e) : nextV l p = .tuple #[tokV Tk.none 0, .int .i64 ((p + skipN (l.drop p) : Nat) : Int), .int .i64 ((e : Nat) : Int)] := by unfold nextV; rw [h]
theorem nextV_yes {l : List UInt8} {p n : Nat} {t : Tk} (h : tokL (l.drop (p + skipN (l.drop p))) = .ok (t, n)) : nextV l p = .tuple #[tokV t ((p + skipN (l.drop p) : Nat) : Int), .int .i64 ((p + skipN (l.drop p) + n : Nat) : Int), .int .i64 0] := by unfold nextV; rw [h]

set_option maxRecDepth 100000 in
set_option maxHeartbeats 2000000 in
theorem nextl_any (s : ByteArray) (p : Nat) (hp : p ≤ s.size) (hs : s.size ≤ 140737488355328) (w : World) :
    Calls Try.prog 40 #[.string s, .int .i64 (p : Int)] w fun e w' => e = .returned (nextV (bl s) p) ∧ Below w.heap.size w w' := by
  have p0 : (0 : Int) ≤ (p : Int) := by omega
  have p1 : ¬ (p : Int) < 0 := by omega
  have p2 : ¬ (s.size : Int) < (p : Int) := by omega
  have HSK := Lib.hid (fun W => white_any s p hp hs W)
  have hK := Blk.new w 65 (tokCells Tk.none 0)
  have hB := bal0 w (.cells (tokCells Tk.none 0) 65)
  rw [none_cells] at hK hB
  have HNE := Lib.hid (fun e h => nextV_bad (l := bl s) (p := p) (e := e) h)
  have HNO := Lib.hid (fun t n h => nextV_yes (l := bl s) (p := p) (t := t) (n := n) h)
  obtain ⟨r, hr⟩ : ∃ r, p + skipN ((bl s).drop p) = r := ⟨_, rfl⟩
  have hrs : r ≤ s.size := by have := skipN_le ((bl s).drop p); rw [List.length_drop, bl_length] at this; omega
  rw [hr] at HSK HNE HNO
  clear hr
  have HTK := Lib.hid (fun W => token_any s r hrs hs W)
  have r0 : (0 : Int) ≤ (r : Int) := by omega
  cases ht : tokL ((bl s).drop r) with
  | error er =>
    rw [partV_err ht] at HTK
    have hne : (((er : Nat) : Int) != 0) = true := by simpa using tokL_err ht
    have HV := Lib.hid (HNE.out er ht)
    clear ht
    go_enter Try.func40, Try.ntmps40
    go_wp2_with fail
    refine (HSK.out _).mono ?_
    rintro e w1 ⟨rfl, rfl⟩
    go_wp2_with fail
    refine (HTK.out _).mono ?_
    rintro e w2 ⟨rfl, hb2⟩
    have hB2 := btr hB hb2
    have hK2 := hK.below hb2 hK.lt
    have hR2 := Blk.new w2 65 (tokCells Tk.none 0)
    rw [none_cells] at hR2
    have hw2 : w.heap.size < w2.heap.size := hK2.lt
    go_wp2_with (first | (refine wp_tok2 rfl _ _ rfl w2.heap.size Tk.none 0 _ rfl rfl hR2 rfl ?_; intro w3 hR3 hkp3 hko3; have hB3 := hkp3 _ _ (by omega) (bal hB2 _); have hK3 := hko3 _ _ _ (by omega) (hK2.alloc _)) | (refine wp_tok rfl _ _ rfl w.heap.size Tk.none 0 _ rfl (by rw [none_cells]; rfl) hK3 rfl ?_; intro w5 hK5 hkp; have hB5 := hkp _ _ (Nat.le_refl _) hB3; obtain ⟨c0, c1, c2, c3, c4, c5, c6, c7⟩ := tok8 hK5) | fail)
    refine bodyPost_ret (v := .tuple #[tokV Tk.none 0, .int .i64 ((r : Nat) : Int), .int .i64 ((er : Nat) : Int)]) (by simp [results, Try.results40, go_sem, c0, c1, c2, c3, c4, c5, c6, c7]) rfl ⟨by rw [HV.out], hB5⟩
  | ok x =>
    obtain ⟨t, n⟩ := x
    rw [partV_ok ht] at HTK
    have HV := Lib.hid (HNO.out t n ht)
    clear ht
    go_enter Try.func40, Try.ntmps40
    go_wp2_with fail
    refine (HSK.out _).mono ?_
    rintro e w1 ⟨rfl, rfl⟩
    go_wp2_with fail
    refine (HTK.out _).mono ?_
    rintro e w2 ⟨rfl, hb2⟩
    have hB2 := btr hB hb2
    have hK2 := hK.below hb2 hK.lt
    have hR2 := Blk.new w2 65 (tokCells Tk.none 0)
    rw [none_cells] at hR2
    have hw2 : w.heap.size < w2.heap.size := hK2.lt
    go_wp2_with (first | (refine wp_tok2 rfl _ _ rfl w2.heap.size t 0 _ rfl rfl hR2 rfl ?_; intro w3 hR3 hkp3 hko3; have hB3 := (hkp3 _ _ (by omega) (bal hB2 _)).setCell (p := ⟨w2.heap.size, 7, none⟩) (by simp only; omega) (.int .i64 ((r : Nat) : Int)); have hK3 := (hko3 _ _ _ (by omega) (hK2.alloc _)).other ⟨w2.heap.size, 7, none⟩ (.int .i64 ((r : Nat) : Int)) (by simp only; omega); obtain ⟨d0, d1, d2, d3, d4, d5, d6, d7⟩ := tok8 hR3; have df := hR3.frozen 7) | (refine wp_tok rfl _ _ rfl w.heap.size t ((r : Nat) : Int) _ rfl rfl hK3 rfl ?_; intro w5 hK5 hkp; have hB5 := hkp _ _ (Nat.le_refl _) hB3; obtain ⟨c0, c1, c2, c3, c4, c5, c6, c7⟩ := tok8 hK5) | fail)
    refine bodyPost_ret (v := .tuple #[tokV t ((r : Nat) : Int), .int .i64 ((r + n : Nat) : Int), .int .i64 0]) (by simp [results, Try.results40, go_sem, c0, c1, c2, c3, c4, c5, c6, c7]) rfl ⟨by rw [HV.out], hB5⟩
end Go.Proofs.Ytbiempopfmpohaa
namespace Go.Proofs.Ytbiempopfmpohaa
open Go.RowKit

/-- The cells of these tokens. -/
def tokC : List (Tk × Nat) → List Value
  | [] => []
  | x :: r => .int .i64 ((x.1.kind : Nat) : Int) :: .string (mkS x.1.text) :: .int .u64 ((wd x.1.set 0 : Nat) : Int) :: .int .u64 ((wd x.1.set 1 : Nat) : Int) :: .int .u64 ((wd x.1.set 2 : Nat) : Int) :: .int .u64 ((wd x.1.set 3 : Nat) : Int) :: .int .i64 ((x.1.num : Nat) : Int) :: .int .i64 ((x.2 : Nat) : Int) :: tokC r
theorem tokC_append : ∀ A L, tokC (A ++ L) = tokC A ++ tokC L
  | [], L => rfl
  | x :: A, L => by simp [tokC, tokC_append A L]
theorem tokC_get : ∀ (L : List (Tk × Nat)) (i : Nat), i < L.length → ∀ k, k < 8 → (tokC L)[i * 8 + k]? = (tokCells (L.getD i (Tk.none, 0)).1 (((L.getD i (Tk.none, 0)).2 : Nat) : Int))[k]?
  | [], i, h, _, _ => by simp at h
  | x :: r, 0, _, k, hk => by
    rw [Nat.zero_mul, Nat.zero_add, List.getD_cons_zero]
    match k, hk with
    | 0, _ => rfl
    | 1, _ => rfl
    | 2, _ => rfl
    | 3, _ => rfl
    | 4, _ => rfl
    | 5, _ => rfl
    | 6, _ => rfl
    | 7, _ => rfl
    | k + 8, h => omega
  | x :: r, i + 1, h, k, hk => by
    have := tokC_get r i (by simpa using h) k hk
    rw [List.getD_cons_succ, ← this, show (i + 1) * 8 + k = i * 8 + k + 8 by omega]
    rfl
theorem KAt.of_owns {W : World} {base : Nat} {v : Value} {L : List (Tk × Nat)} (h : W.ownsRow base 65 8 v L.length (tokC L)) : ∃ ao cap, v = .slice ao L.length cap ∧ L.length ≤ cap ∧ KAt W ao L W.heap.size := by
  obtain ⟨hl, h⟩ := h
  rcases h with ⟨rfl, h0⟩ | ⟨g, cap, cur, rfl, _, hb, hn, hcm, hsz, ht⟩
  · exact ⟨none, 0, by rw [h0], by omega, fun hp => by omega⟩
  · refine ⟨_, cap, rfl, hn, fun _ => ⟨g, 0, rfl, lt_of_block hb, fun i hi => ?_⟩⟩
    have hget : ∀ j, j < L.length * 8 → W.cell? ⟨g, j, none⟩ = (tokC L)[j]? := by
      intro j hj
      have : W.cell? ⟨g, j, none⟩ = cur[j]? := by simp [World.cell?, hb]
      rw [this, ← ht, List.getElem?_take_of_lt hj]
      simp
    have hk := fun k (h8 : k < 8) => (hget (i * 8 + k) (by omega)).trans (tokC_get L i hi k h8)
    rw [Nat.zero_add]
    exact ⟨hk 0 (by decide), hk 1 (by decide), hk 2 (by decide), hk 3 (by decide), hk 4 (by decide), hk 5 (by decide), hk 6 (by decide), hk 7 (by decide)⟩
theorem info_tok : (Try.prog.info? 65).map (fun i => (i.zero, i.size, i.bytes)) = some (some (.agg #[.int .i64 0, .string { data := #[] }, .int .u64 0, .int .u64 0, .int .u64 0, .int .u64 0, .int .i64 0, .int .i64 0]), 8, 72) := by kernel_rfl
/-- What a new block holds, cell by cell. -/
theorem cells_new (w : World) (t : TypeId) (vs : List Value) : ∀ j u, vs[j]? = some u → (w.alloc (.cells vs.toArray t)).cell? ((⟨w.heap.size, 0, none⟩ : Addr).add j) = some u := by
  intro j u h
  rw [WideShapes.add_plain, (Blk.new w t vs.toArray).cell, ← h, Nat.zero_add]
  simp
/-- What is gathered so far, and what is left. -/
def joinA (A : List (Tk × Nat)) : Except (Nat × Nat) (List (Tk × Nat)) → Except (Nat × Nat) (List (Tk × Nat))
  | .error x => .error x
  | .ok r => .ok (A ++ r)
theorem joinA_nil (x : Except (Nat × Nat) (List (Tk × Nat))) : joinA [] x = x := by cases x <;> rfl
theorem allL_bad {l : List UInt8} {p e : Nat} (h : tokL (l.drop (skipN l)) = .error e) : allL l p = .error (e, p + skipN l) := by rw [allL_eq, h]
theorem allL_done {l : List UInt8} {p n : Nat} {t : Tk} (h : tokL (l.drop (skipN l)) = .ok (t, n)) (hk : t.kind = 0) : allL l p = .ok [] := by rw [allL_eq, h]; simp only [if_pos hk]
theorem allL_go {l : List UInt8} {p n : Nat} {t : Tk} (h : tokL (l.drop (skipN l)) = .ok (t, n)) (hk : t.kind ≠ 0) (A : List (Tk × Nat)) : joinA A (allL l p) = joinA (A ++ [(t, p + skipN l)]) (allL (l.drop (skipN l + n)) (p + skipN l + n)) := by
  rw [allL_eq, h]
  simp only [if_neg hk]
  cases allL (l.drop (skipN l + n)) (p + skipN l + n) with
  | error x => rfl
  | ok r => simp [joinA]

/-- What All answers: a slice of the call's own. -/
def AllO (l : List UInt8) (w : World) (e : Ending) (w' : World) : Prop := match allL l 0 with
  | .error x => (∃ so sc, e = .returned (.tuple #[.slice so 0 sc, .int .i64 ((x.2 : Nat) : Int), .int .i64 ((x.1 : Nat) : Int)])) ∧ Below w.heap.size w w'
  | .ok A => ∃ v, e = .returned (.tuple #[v, .int .i64 ((l.length : Nat) : Int), .int .i64 0]) ∧ w'.ownsRow w.heap.size 65 8 v A.length (tokC A) ∧ Below w.heap.size w w'
theorem AllO.all {l : List UInt8} {w w' : World} {e : Ending} (h : AllO l w e w') : AllA l w e w' := by
  unfold AllO at h
  unfold AllA
  cases hA : allL l 0 with
  | error x => rw [hA] at h; exact h
  | ok A =>
    rw [hA] at h
    obtain ⟨v, rfl, ho, hb⟩ := h
    obtain ⟨ao, cap, rfl, hc, hat⟩ := KAt.of_owns ho
    exact ⟨_, _, rfl, hc, hat, hb⟩

set_option maxRecDepth 100000 in
set_option maxHeartbeats 2000000 in
theorem allo_any (s : ByteArray) (hs : s.size ≤ 65536) (w : World) :
    Calls Try.prog 20 #[.string s] w fun e w' => AllO (bl s) w e w' := by
  have h0 : ¬ (65536 : Int) < (s.size : Int) := by omega
  obtain ⟨ii, hi, hz0, hz1, hz2⟩ := info_parts info_tok
  go_enter Try.func20, Try.ntmps20
  go_wp2
  go_loopw [5, 6] (fun v i wr => ∃ (q : Nat) (A : List (Tk × Nat)), q ≤ s.size ∧ A.length ≤ q ∧ i = .int .i64 q ∧ Hid (joinA A (allL ((bl s).drop q) q) = allL (bl s) 0) ∧ wr.ownsRow w.heap.size 65 8 v A.length (tokC A) ∧ Below w.heap.size w wr)
    (fun _ i _ => s.size - (intOf i).toNat)
  case atStart => exact ⟨0, [], Nat.zero_le _, Nat.le_refl _, rfl, Lib.hid (joinA_nil _), World.ownsRow_nil _ _ _ _, Below.refl _ _⟩
  case round =>
    obtain ⟨q, A, hq, hA, rfl, HJ, hown, hB⟩ := hrel
    have i0 : (0 : Int) ≤ (q : Int) := by omega
    have hB2 : w.heap.size ≤ wr.heap.size := hB.size
    obtain ⟨vo, vc, rfl, hvc⟩ := owns_form hown
    have HN := Lib.hid (fun W => nextl_any s q hq (by omega) W)
    have HNE := Lib.hid (fun e h => nextV_bad (l := bl s) (p := q) (e := e) h)
    have HNO := Lib.hid (fun t n h => nextV_yes (l := bl s) (p := q) (t := t) (n := n) h)
    have hsk := skipN_le ((bl s).drop q)
    rw [List.length_drop, bl_length] at hsk
    have hdd : ((bl s).drop q).drop (skipN ((bl s).drop q)) = (bl s).drop (q + skipN ((bl s).drop q)) := List.drop_drop
    cases ht : tokL ((bl s).drop (q + skipN ((bl s).drop q))) with
    | error er =>
      rw [HNE.out er ht] at HN
      have hne : (((er : Nat) : Int) != 0) = true := by simpa using tokL_err ht
      have HAL := Lib.hid (show allL (bl s) 0 = .error (er, q + skipN ((bl s).drop q)) by
        rw [← HJ.out, allL_bad (by rw [hdd]; exact ht)]
        rfl)
      clear ht hdd HNE HNO
      generalize q + skipN ((bl s).drop q) = r at *
      go_wp2_with fail
      refine (HN.out _).mono ?_
      rintro e w1 ⟨rfl, hb1⟩
      have hB1 := btr hB hb1
      have hR1 := Blk.new w1 65 (tokCells Tk.none 0)
      rw [none_cells] at hR1
      have hw1 : w.heap.size ≤ w1.heap.size := hB1.size
      go_wp2_with (first | (refine wp_tok2 rfl _ _ rfl w1.heap.size Tk.none ((r : Nat) : Int) _ rfl rfl hR1 rfl ?_; intro w3 hR3 hkp3 hko3; have hB3 := hkp3 _ _ (by omega) (bal hB1 _)) | (refine wp_tok2 rfl _ _ rfl w1.heap.size Tk.none 0 _ rfl rfl hR1 rfl ?_; intro w3 hR3 hkp3 hko3; have hB3 := hkp3 _ _ (by omega) (bal hB1 _)) | fail)
      go_ret3
      unfold AllO
      rw [HAL.out]
      exact ⟨⟨none, 0, rfl⟩, hB3⟩
    | ok x =>
      obtain ⟨t, n⟩ := x
      rw [HNO.out t n ht] at HN
      by_cases hk : t.kind = 0
      · have HAL := Lib.hid (show allL (bl s) 0 = .ok A by
          rw [← HJ.out, allL_done (by rw [hdd]; exact ht) hk]
          simp [joinA])
        have HPN := Lib.hid (show ((q + skipN ((bl s).drop q) + n : Nat) : Int) = ((bl s).length : Int) by
          have h1 := tokL_kind ht hk
          have h2 := congrArg List.length h1
          rw [List.length_drop, bl_length] at h2
          rw [h1] at ht
          cases ht
          rw [bl_length]
          simp only [List.length_nil] at h2
          omega)
        have hk0 : (((t.kind : Nat) : Int) == 0) = true := by rw [hk]; rfl
        clear ht hdd HNE HNO hk
        rw [HPN.out] at HN
        generalize q + skipN ((bl s).drop q) = r at *
        go_wp2_with fail
        refine (HN.out _).mono ?_
        rintro e w1 ⟨rfl, hb1⟩
        have hB1 := btr hB hb1
        have hown1 := owns_keep hown hb1
        have hR1 := Blk.new w1 65 (tokCells Tk.none 0)
        rw [none_cells] at hR1
        have hw1 : w.heap.size ≤ w1.heap.size := hB1.size
        have hwn : ∀ k, Value.ownBlock (.slice vo A.length vc) = some k → k < w1.heap.size := fun k hk => (hown1.lt k hk).2
        go_wp2_with (first | (refine wp_tok2 rfl _ _ rfl w1.heap.size t ((r : Nat) : Int) _ rfl rfl hR1 rfl ?_; intro w3 hR3 hkp3 hko3; have hB3 := hkp3 _ _ (by omega) (bal hB1 _); have hB13 := hkp3 w1 w1.heap.size (Nat.le_refl _) (bal0 w1 _); have hown3 := owns_keep hown1 hB13; obtain ⟨d0, d1, d2, d3, d4, d5, d6, d7⟩ := tok8 hR3) | fail)
        go_ret3
        unfold AllO
        rw [HAL.out]
        exact ⟨_, rfl, hown3, hB3⟩
      · have hne := tokL_pos (l := (bl s).drop (q + skipN ((bl s).drop q))) (fun e => hk (by rw [e, tokL_end] at ht; cases ht; rfl)) ht
        rw [List.length_drop, bl_length] at hne
        have HJ2 := Lib.hid (show joinA (A ++ [(t, q + skipN ((bl s).drop q))]) (allL ((bl s).drop (q + skipN ((bl s).drop q) + n)) (q + skipN ((bl s).drop q) + n)) = allL (bl s) 0 by
          have hgo := allL_go (l := (bl s).drop q) (p := q) (by rw [hdd]; exact ht) hk A
          rw [List.drop_drop, ← Nat.add_assoc] at hgo
          rw [← HJ.out, hgo])
        have hk0 : (((t.kind : Nat) : Int) == 0) = false := by simpa using hk
        obtain ⟨r, hr⟩ : ∃ r, q + skipN ((bl s).drop q) = r := ⟨_, rfl⟩
        have hqr : q ≤ r := by omega
        rw [hr] at HN HJ2 hne
        clear ht hdd HNE HNO hk hr HJ hsk
        have hn0 : 0 < n := hne.1
        have hnl : r + n ≤ s.size := by omega
        go_wp2_with fail
        refine (HN.out _).mono ?_
        rintro e w1 ⟨rfl, hb1⟩
        have hB1 := btr hB hb1
        have hown1 := owns_keep hown hb1
        have hR1 := Blk.new w1 65 (tokCells Tk.none 0)
        rw [none_cells] at hR1
        have hw1 : w.heap.size ≤ w1.heap.size := hB1.size
        clear hB hown
        go_wp2_with (first | (refine wp_tok2 rfl _ _ rfl w1.heap.size t ((r : Nat) : Int) _ rfl rfl hR1 rfl ?_; intro w3 hR3 hkp3 hko3; have hB3 := hkp3 _ _ (by omega) (bal hB1 _); have hB13 := hkp3 w1 w1.heap.size (Nat.le_refl _) (bal0 w1 _); have hown3 := owns_keep hown1 hB13; obtain ⟨d0, d1, d2, d3, d4, d5, d6, d7⟩ := tok8 hR3) | (at_builtin; refine wpList_append_own _ rfl _ _ 59 rfl w.heap.size 65 ii (.agg #[.int .i64 0, .string { data := #[] }, .int .u64 0, .int .u64 0, .int .u64 0, .int .u64 0, .int .i64 0, .int .i64 0]) 8 72 Try.underlying59 hi hz0 hz1 hz2 rfl (by decide) _ _ _ rfl (hown3.alloc _) ⟨w3.heap.size, 0, none⟩ 1 1 (tokC [(t, r)]) rfl rfl (cells_new w3 65 (tokC [(t, r)])) (by simp [tokC, Value.oneCell']) (by unfold maxLen; omega) (by omega) (by have := hB3.size; simp; omega) ?_; intro v' w4 hown4 hg4 _; have hlow := grown_keep (hown3.alloc _) (by have := hB3.size; simp; omega) hg4) | fail)
        go_roundw
        case rel =>
          refine ⟨r + n, A ++ [(t, r)], hnl, by simp; omega, rfl, HJ2, ?_, ?_⟩
          · rw [tokC_append, List.length_append]; exact hown4
          · exact (bal hB3 _).trans hlow
        case measure => simp [intOf]; omega
theorem alll_any (s : ByteArray) (hs : s.size ≤ 65536) (w : World) :
    Calls Try.prog 20 #[.string s] w fun e w' => AllA (bl s) w e w' := (allo_any s hs w).mono fun _ _ h => h.all
end Go.Proofs.Ytbiempopfmpohaa
