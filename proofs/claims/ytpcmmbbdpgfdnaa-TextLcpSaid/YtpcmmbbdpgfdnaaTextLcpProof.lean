/-
  The statement TextLcp, proved, for a row that lists no variable: of any two rows of texts and any two texts, whatever memory they lie in, the law returns true and changes nothing. Conditions: those of the given row, no others.
-/
import Derived.Test.YtpcmmbbdpgfdnaaTextLcpW
import Derived.Test.YtpcmmbbdpgfdnaaTextPost
namespace Go.Proofs.Ytpcmmbbdpgfdnaa.textLcp
open Go.ChangeShapes Go.WideShapes Go.ChangeAt Go.RowKit

theorem readable : ∀ t ∈ Try.f6.params.toList, Try.prog.readableRec t = true ∧ t < Try.prog.types.size := by
  rw [Try.params6]
  intro t ht
  simp only [List.mem_cons, List.not_mem_nil, or_false] at ht
  rcases ht with rfl | rfl | rfl | rfl <;> exact ⟨by kernel_rfl, of_decide_eq_true (by kernel_rfl)⟩

theorem contract (H : Type) (enc : TypeId × Value → H) (W : World) (base : Nat) (args : Array Value) (ds gs : List (DataW H)) (before : List MemPlace)
    (hval : ∀ (j : Nat) t v, Try.f6.params[j]? = some t → args[j]? = some v → Value.okWide Try.prog W .any base t v)
    (hW : DataW.Whole enc Try.prog Try.f6.params.toList Rows.textLcpSpec.vars false W args.toList ds gs before)
    (hz : (DataW.weightsEach Try.prog (Try.f6.params.toList ++ Rows.textLcpSpec.plain.varTypes Try.prog) (ds ++ gs)).all (· ≤ reachBytes) = true) :
    Calls Try.prog 6 args W fun e W' => ∃ v, e = .returned v ∧ Rows.textLcpSpec.post enc Try.prog Try.f6 false true false false W args v W' := by
  have hW' := hW
  obtain ⟨p, q, hA, hV, _, _, _⟩ := hW
  rw [Try.params6] at hA hval hz
  obtain ⟨v0, v1, v2, v3, d0, d1, d2, d3, p0, p1, p2, p3, rfl, rfl, rfl, h0, h1, h2, h3⟩ := trodAll_four hA
  obtain ⟨ao, len, cap, L, rfl, hl, hm, hc, hs⟩ := open_texts (hval 0 22 v0 rfl rfl) h0
  obtain ⟨ao2, len2, cap2, L2, rfl, hl2, hm2, hc2, hs2⟩ := open_texts (hval 1 22 v1 rfl rfl) h1
  obtain ⟨a, rfl, rfl⟩ := open_text (hval 2 9 v2 rfl rfl) h2
  obtain ⟨b, rfl, rfl⟩ := open_text (hval 3 9 v3 rfl rfl) h3
  refine (textLcp_walk ao ao2 len cap len2 cap2 L L2 a b hl hl2 hc hc2 hm hm2 (text_size hz 2 rfl rfl) (text_size hz 3 rfl rfl) W hs hs2).mono fun e W' ⟨he, hb⟩ => ?_
  subst he
  exact ⟨_, rfl, law_post rfl (by kernel_rfl) rfl readable hW' hb⟩

def args0 : Array Value := #[.slice none 0 0, .slice none 0 0, .string ByteArray.empty, .string ByteArray.empty]
theorem laid_met (os : Os) : laidMet Try.prog Rows.textLcpRow.laid ((plainWorld os).forCall (fun _ _ => 0) ⟨#[], args0, []⟩).memory :=
  laidMet_of_run' 8 (by kernel_rfl) (by kernel_rfl)
theorem reads (os : Os) {H : Type} (enc : TypeId × Value → H) : ∃ ds places, DataW.whole enc Try.prog ((plainWorld os).forCall (fun _ _ => 0) ⟨#[], args0, []⟩).memory Try.f6.params.toList Rows.textLcpSpec.vars false args0.toList 8 = some (ds, [], places) :=
  ⟨[.nil, .nil, .lit (.string []), .lit (.string [])], [], by kernel_rfl⟩

set_option maxRecDepth 100000 in
theorem lifted (os : Os) (started : os.Started) (H : Type) (enc : TypeId × Value → H) (F : Stop.Interp) :
    ReturnsInHanded {} Try.checked os 6 .any ((OpenSpec.ofChange Rows.textLcpSpec).preRow enc Try.prog Try.f6 Rows.textLcpRow.domain false Rows.textLcpRow.laid) (((OpenSpec.ofChange Rows.textLcpSpec).at F).post enc Try.prog Try.f6 false true false false) := by
  obtain ⟨ds, places, hx⟩ := reads os enc
  refine returnsInHanded_of_row (C := Try.checked) (s := OpenSpec.ofChange Rows.textLcpSpec) own started (by kernel_rfl) Try.func6
    (witness_row_at (enc := enc) (C := Try.checked) false (plainWorld os) args0 rfl (by kernel_rfl) (by kernel_rfl) (by kernel_rfl)
      (OpenSpec.preRow_of_cond 8 hx (by kernel_rfl) (fun k hk => by cases hk) (by kernel_rfl) (laid_met os))) ?_
  intro W base args ds gs before hval hW _ _ hz _ _ _
  exact contract H enc W base args ds gs before hval hW hz

theorem said : Rows.TextLcpSaid :=
  OpenClaim.holds_of_cond 6 Try.f6 rfl rfl rfl rfl rfl rfl rfl ⟨rfl, rfl, rfl, rfl, rfl⟩ rfl rfl rfl rfl rfl (by kernel_rfl) Try.func6 (by kernel_rfl)
    (of_decide_eq_true (by kernel_rfl)) (by unfold Func.isWrapper; first | (rw [if_pos (by decide +kernel)]; kernel_rfl) | (rw [if_neg (by decide +kernel)]; exact ⟨rfl, rfl⟩))
    (fun os started H enc _ F => by rw [OpenClaim.pre_eq_preRow]; exact lifted os started H enc F)
end Go.Proofs.Ytpcmmbbdpgfdnaa.textLcp
