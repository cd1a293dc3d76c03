/-
  The walk of the statement InternDoes: of any two rows of rows and any number it returns true; nothing that was there before the call has changed. Conditions: the rows lie in memory as slices.
-/
import Derived.Test.YtbnnfhpphelmfaaInternFew
import Derived.Test.YtbnnfhpphelmfaaPast
namespace Go.Proofs.Ytbnnfhpphelmfaa
open Go.RowKit

/-- A table and the reference's, of the same rows, in blocks apart from one another, none older than n0. -/
structure Both (n0 : Nat) (W : World) (a b : Nat) (P : List (List Int)) : Prop where
  two : ∃ F G, Tb W a P F ∧ RT W b P G ∧ (∀ k, F k → ¬ G k) ∧ (∀ k, F k → n0 ≤ k) ∧ (∀ k, G k → n0 ≤ k)
theorem Both.below {n0 : Nat} {W W' : World} {a b : Nat} {P : List (List Int)} (h : Both n0 W a b P) (hb : Below W.heap.size W W') : Both n0 W' a b P := by
  obtain ⟨F, G, h1, h2, h3, h4, h5⟩ := h.two
  exact ⟨F, G, h1.below hb, h2.below hb, h3, h4, h5⟩
/-- Put, in both. -/
theorem both_put {n0 a b : Nat} {P : List (List Int)} {so : Option Addr} {ln sc : Nat} {xs : List Int} (hl : xs.length = ln) (hm : ln ≤ 60) (hR : Rng xs) (hP : P.length ≤ 4096) {w : World} (hn : n0 ≤ w.heap.size) (h : Both n0 w a b P) (hA : IAt w so xs n0) :
    Calls Try.prog 18 #[.pointer (some ⟨a, 0, none⟩), .slice so ln sc] w fun e w' => e = .returned (.tuple #[.int .i64 (putN P (srt xs)), .bool (putB P (srt xs)), .int .i64 (putE P (srt xs))]) ∧ Below n0 w w' ∧
      Calls Try.prog 19 #[.pointer (some ⟨b, 0, none⟩), .slice so ln sc] w' fun e' w'' => e' = .returned (.tuple #[.int .i64 (putN P (srt xs)), .bool (putB P (srt xs)), .int .i64 (putE P (srt xs))]) ∧ Below n0 w w'' ∧ Both n0 w'' a b (putL P (srt xs)) := by
  obtain ⟨F, G, h1, h2, h3, h4, h5⟩ := h.two
  refine (put_any a P F so ln sc xs hl (by omega) hR hP w h1 (hA.mono hn)).mono ?_
  rintro e w' ⟨rfl, F2, t2, u2, f2⟩
  have hb2 := u2.below hn h4
  refine ⟨rfl, hb2, ?_⟩
  have r2 := h2.but u2 fun k g f => h3 k f g
  refine (refput_any b P G so ln sc xs hl (by omega) hP w' r2 ((hA.below hb2 (Nat.le_refl _)).mono (Nat.le_trans hn u2.size))).mono ?_
  rintro e' w'' ⟨rfl, G3, r3, u3, g3⟩
  have hb3 := u3.below (Nat.le_trans hn u2.size) h5
  have hd : ∀ k, F2 k → ¬ G k := fun k f g => by
    rcases f2 k f with f | f
    · exact h3 k f g
    · have := h2.lt k g; omega
  have hF2 : ∀ k, F2 k → n0 ≤ k := fun k f => by
    rcases f2 k f with f | f
    · exact h4 k f
    · omega
  refine ⟨rfl, hb2.trans hb3, ⟨F2, G3, t2.but u3 hd, r3, fun k f g => ?_, hF2, fun k g => ?_⟩⟩
  · rcases g3 k g with g | g
    · exact hd k f g
    · have := t2.lt k f; omega
  · rcases g3 k g with g | g
    · exact h5 k g
    · have := u2.size; omega
end Go.Proofs.Ytbnnfhpphelmfaa
