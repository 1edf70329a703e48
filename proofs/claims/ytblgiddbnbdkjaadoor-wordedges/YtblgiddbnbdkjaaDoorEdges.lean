/- WordEdges (P1.1: the least and the greatest numbers) is proved: for every number of 64 bits it answers true and leaves its argument as it was; the table of words is taken as the program's text lays it, which the card ties. -/
import Derived.Test.YtblgiddbnbdkjaaDoorAwake
import Derived.Test.YtblgiddbnbdkjaaDoorLaid
import Derived.Test.YtblgiddbnbdkjaaDoorTie
import Derived.Test.YtblgiddbnbdkjaaDoorCards
import Derived.SevenTiedAt
namespace Go.Proofs.YtblgiddbnbdkjaaDoor
open Go.ChangeShapes Go.WideShapes Go.ChangeAt Go.RowKit

namespace Edges
theorem f1 : (doV 3 (-9223372036854775808) (-1) == -9223372036854775808) = true := by decide +kernel
theorem f2 : (doV 4 (-9223372036854775808) (-1) == 0) = true := by decide +kernel
theorem f3 : (doV 1 0 (-9223372036854775808) == -9223372036854775808) = true := by decide +kernel
theorem f4 : (doV 0 9223372036854775807 1 == -9223372036854775808) = true := by decide +kernel
theorem f5 (a : Int) : (doV 2 a (-1) == doV 1 0 a) = true := by
  have h1 : doV 2 a (-1) = wrap64 (a * (-1)) := rfl
  have h2 : doV 1 0 a = wrap64 (0 - a) := rfl
  rw [h1, h2]; simp
theorem b1 : doB 3 (-1) = true := by decide +kernel
theorem b2 : doB 4 (-1) = true := by decide +kernel
theorem b3 : doB 4 0 = false := by decide +kernel
end Edges

set_option maxHeartbeats 800000 in
theorem edges_walk (a : Int) (w : World) (hw : Words w) :
    Calls Tryd.prog 7 #[.int .i64 a] w fun e w' => e = .returned (.bool true) ∧ w = w' := by
  have g1 := Edges.f1
  have g2 := Edges.f2
  have g3 := Edges.f3
  have g4 := Edges.f4
  have g5 := Edges.f5 a
  have c1 := Edges.b1
  have c2 := Edges.b2
  have c3 := Edges.b3
  go_enter Tryd.func7, Tryd.ntmps7
  go_wp2_with (first | (go_at_call 8; refine (awake _ hw).mono ?_; rintro e w' ⟨rfl, rfl⟩) | (go_at_call 9; refine (do_any _ _ _ (by omega) _).mono ?_; rintro e w' ⟨rfl, rfl⟩))
  go_ret
  exact ⟨rfl, rfl⟩

set_option maxRecDepth 100000 in
theorem edges_lifted (os : Os) (started : os.Started) (H : Type) (enc : TypeId × Value → H) :
    ReturnsInHanded {} Tryd.checked os 7 .any (fun w args => (Rows.wordEdgesSpec.pre enc Tryd.prog Tryd.f7 [] false w args ∧ laidMetH Tryd.prog lay w) ∧ sizedMet enc Tryd.prog Tryd.f7 (OpenSpec.ofChange Rows.wordEdgesSpec) false w args)
      (Rows.wordEdgesSpec.post enc Tryd.prog Tryd.f7 false true false false) := by
  refine returnsInHanded_of_change_and (C := Tryd.checked) (X := fun w _ => laidMetH Tryd.prog lay w) (fun _ _ _ hh h => h.of_heap hh) own started (by kernel_rfl) Tryd.func7
    (ChangeSpec.witness_shaped (enc := enc) (C := Tryd.checked) (os := os) (X := fun w _ => laidMetH Tryd.prog lay w) false (World.doorLaid Tryd.prog 14 os) #[.int .i64 0] 8 rfl (World.shaped_of_RefB (by kernel_rfl) (by kernel_rfl)) (by kernel_rfl) (by kernel_rfl) (by kernel_rfl) (door_met os _)) ?_
  intro W base args ds gs before hval0 hW _ _ hL _
  have hval : ∀ (j : Nat) t v, Tryd.f7.params[j]? = some t → args[j]? = some v → Value.okWide Tryd.prog W .any base t v := hval0
  have hW' := hW
  obtain ⟨p, q, hA0, hV, rfl, hfz, hnd⟩ := hW
  have hA : DataW.TrodAll enc Tryd.prog W 0 (fun _ => true) true Tryd.f7.params.toList args.toList ds p := hA0
  rw [Tryd.params7] at hA hval
  obtain ⟨v0, d0, rfl, rfl, h0⟩ := trodAll_one hA
  obtain ⟨rfl, rfl⟩ := trodVars_none hV
  obtain ⟨a0, rfl, rfl, rfl, w0⟩ := open_int Tryd.underlying2 (hval 0 2 v0 rfl rfl) h0
  have hWords := words_of_laid hL
  clear hA0 hval0
  simp only [List.append_nil] at hW'
  refine (edges_walk a0 W hWords).mono fun e W' ⟨he, hw⟩ => ?_
  subst he; subst hw
  exact ⟨_, rfl, post_of_same (pa := []) (pv := []) hW' (fun _ _ _ => trodAll_mk1 (shut_bool Tryd.underlying4 _)) (fun sp _ => trodAll_mk1 (shut_int Tryd.underlying2 w0)) (fun _ _ => rfl) rfl
    (World.keptBut_refl _ _) (fun _ => rfl) (ok_one (by kernel_rfl) rfl (okWide_bool_mk Tryd.underlying4 _))⟩

theorem edges_holds : Rows.WordEdgesSaid :=
  OpenClaim.holds_of_wide 7 Tryd.f7 rfl rfl rfl rfl rfl rfl rfl ⟨rfl, rfl, rfl, rfl, rfl⟩ rfl rfl rfl rfl rfl (by kernel_rfl) Tryd.func7 (by kernel_rfl)
    (of_decide_eq_true (by kernel_rfl)) (by unfold Func.isWrapper; first | (rw [if_pos (by decide +kernel)]; kernel_rfl) | (rw [if_neg (by decide +kernel)]; exact ⟨rfl, rfl⟩))
    (fun os started H enc _ => edges_lifted os started H enc)

theorem edges_card : Rows.WordEdgesCardSaid :=
  Claim7.holds_tied_plain_at .later [] [.data] true Rows.wordEdgesCard.stood.harness false
    edges_holds (fun _ h => by cases h) (by kernel_rfl) (fun _ h => by cases h) wordEdges_row_tie rfl ⟨rfl, rfl⟩ (by kernel_rfl) rfl
    (fun f fn hf hfn => by
      obtain rfl : f = 7 := Option.some.inj ((show Tryd.prog.funcNamed Rows.wordEdgesRow.func = some 7 by kernel_rfl).symm.trans hf) |>.symm
      obtain rfl : fn = Tryd.f7 := (Option.some.inj (Tryd.func7.symm.trans hfn)).symm
      exact ⟨by kernel_rfl, fun j t ht => by
        rw [Tryd.params7] at ht
        have hm : t ∈ [2] := by simpa using Array.mem_of_getElem? ht
        have hall : ([2].all fun u => !Tryd.prog.wantsStandIn u) = true := by kernel_rfl
        exact (show Tryd.prog.wantsStandIn t = false by simpa using List.all_eq_true.1 hall t hm)⟩)
    (by kernel_rfl)
#print axioms edges_card
end Go.Proofs.YtblgiddbnbdkjaaDoor
