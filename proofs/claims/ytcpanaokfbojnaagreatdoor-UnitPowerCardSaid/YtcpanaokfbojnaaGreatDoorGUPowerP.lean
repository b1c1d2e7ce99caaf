/- UnitPower: for all numbers, lists of acts and losses of power, in whatever memory, the law answers true: a unit whose device loses power in the midst of the last of its acts has, when it is opened, all that it had told ahead of it, and, of that act, all or nothing. The condition: the nineteen errors lie as the text of the program lays them (the card ties that to the text). -/
import Derived.Test.YtcpanaokfbojnaaGreatDoorGUpW
import Derived.Test.YtcpanaokfbojnaaGreatDoorGOpenU
import Derived.Test.YtcpanaokfbojnaaGreatDoorGDgZ
import Derived.Test.YtcpanaokfbojnaaGreatDoorGLaidE
import Derived.Test.YtcpanaokfbojnaaGreatDoorGKeep
import Derived.Test.YtcpanaokfbojnaaGreatDoorGUmod
import Derived.Test.YtcpanaokfbojnaaGreatDoorTie
import Derived.Test.YtcpanaokfbojnaaGreatDoorCards
import Derived.SevenTiedAt
import Derived.Lay
namespace Go.Proofs.YtcpanaokfbojnaaGreatDoor
open Go Go.ChangeShapes Go.WideShapes Go.ChangeAt Go.RowKit

set_option maxRecDepth 100000 in
theorem unitPowerLifted (os : Os) (started : os.Started) (H : Type) (enc : TypeId × Value → H) :
    ReturnsInHanded {} Tryz.checked os 4 .any (fun w args => (Rows.unitPowerSpec.pre enc Tryz.prog Tryz.f4 [] false w args ∧ laidMetH Tryz.prog Rows.unitPowerRow.laid w) ∧ sizedMet enc Tryz.prog Tryz.f4 (OpenSpec.ofChange Rows.unitPowerSpec) false w args)
      (Rows.unitPowerSpec.post enc Tryz.prog Tryz.f4 false true false false) := by
  refine returnsInHanded_of_change_and (C := Tryz.checked) (X := fun w _ => laidMetH Tryz.prog Rows.unitPowerRow.laid w) (fun _ _ _ hh h => h.of_heap hh) own started (by kernel_rfl) Tryz.func4
    (ChangeSpec.witness_shaped (enc := enc) (C := Tryz.checked) (os := os) (X := fun w _ => laidMetH Tryz.prog Rows.unitPowerRow.laid w) false (World.laidAll Tryz.prog os Rows.unitPowerRow.laid) #[.int .i64 0, .slice none 0 0, .agg #[.int .i64 0, .int .u64 0, .int .i64 0, .int .i64 0]] 8 (World.laidAll_os _ _ _) (World.shaped_of_ZipB (by kernel_rfl) (by kernel_rfl)) (by kernel_rfl) (by kernel_rfl) (by kernel_rfl) (by rw [MakeChecks.laidMetH_plain _ _ _ (by kernel_rfl)]; exact laidMet_laidAll _ (by kernel_rfl) (by kernel_rfl))) ?_
  intro W base args ds gs before hval0 hW _ _ hL _
  have hval : ∀ (j : Nat) t v, Tryz.f4.params[j]? = some t → args[j]? = some v → Value.okWide Tryz.prog W .any base t v := hval0
  have hW' := hW
  obtain ⟨p, q, hA0, hV, rfl, hfz, hnd⟩ := hW
  have hA : DataW.TrodAll enc Tryz.prog W 0 (fun _ => true) true Tryz.f4.params.toList args.toList ds p := hA0
  rw [Tryz.params4] at hA hval
  obtain ⟨v0, v1, v2, d0, d1, d2, p0, p1, p2, rfl, rfl, rfl, h0, h1, h2⟩ := trodAll_three hA
  obtain ⟨n, rfl, rfl, rfl, _⟩ := open_int Tryz.underlying3 (hval 0 3 v0 rfl rfl) h0
  obtain ⟨ks, hb1⟩ := open_actsU Tryz.underlying22 Tryz.underlying30 (by kernel_rfl) (by kernel_rfl) Tryz.underlying3 Tryz.underlying3 Tryz.underlying3 Tryz.underlying3 Tryz.underlying5 (hval 1 22 v1 rfl rfl) h1
  obtain ⟨af, kv, torn, cut, rfl, haf⟩ := open_loss Tryz.underlying41 (by kernel_rfl) (by kernel_rfl) Tryz.underlying3 Tryz.underlying39 Tryz.underlying3 Tryz.underlying3 (hval 2 41 v2 rfl rfl) h2
  rw [MakeChecks.laidMetH_plain _ _ _ (by kernel_rfl)] at hL
  obtain ⟨a, hE, _⟩ := errs_of_laid (rest := []) hL
  clear hA0 hval0
  refine (unitPower_law (dvSpec (three a)) hE n _ ks hb1 (open_room Tryz.underlying22 (hval 1 22 v1 rfl rfl) h1) af haf kv torn cut).mono fun e W' ⟨he, hb⟩ => ?_
  subst he
  exact ⟨_, rfl, post_true hW' rfl (by kernel_rfl) rfl (fun ds' hl => by
    match ds', hl with
    | [_, _, _], _ => rfl) hb⟩

theorem unitPower_holds : Rows.UnitPowerSaid :=
  OpenClaim.holds_of_wide 4 Tryz.f4 rfl rfl rfl rfl rfl rfl rfl ⟨rfl, rfl, rfl, rfl, rfl⟩ rfl rfl rfl rfl rfl (by kernel_rfl) Tryz.func4 (by kernel_rfl)
    (of_decide_eq_true (by kernel_rfl)) (by unfold Func.isWrapper; first | (rw [if_pos (by decide +kernel)]; kernel_rfl) | (rw [if_neg (by decide +kernel)]; exact ⟨rfl, rfl⟩))
    (fun os started H enc _ => unitPowerLifted os started H enc)

theorem unitPower_card : Rows.UnitPowerCardSaid :=
  Claim7.holds_tied_plain_at .later [] [.sentinel, .sentinel, .sentinel, .sentinel, .sentinel, .sentinel, .sentinel, .sentinel, .sentinel, .sentinel, .sentinel, .sentinel, .sentinel, .sentinel, .sentinel, .sentinel, .sentinel, .sentinel, .sentinel] true _ true
    unitPower_holds (fun _ h => by cases h) (by kernel_rfl) (fun _ h => by cases h) unitPower_row_tie rfl ⟨rfl, rfl⟩ (by kernel_rfl) rfl
    (fun f fn hf hfn => by
      obtain rfl : f = 4 := Option.some.inj ((show Tryz.prog.funcNamed "tidewater/tidewaterlaw09.UnitPower" = some 4 by kernel_rfl).symm.trans hf) |>.symm
      obtain rfl : fn = Tryz.f4 := (Option.some.inj (Tryz.func4.symm.trans hfn)).symm
      exact ⟨by kernel_rfl, fun j t ht => by
        rw [Tryz.params4] at ht
        have hm : t ∈ [3, 22, 41] := by simpa using Array.mem_of_getElem? ht
        have hall : ([3, 22, 41].all fun u => !Tryz.prog.wantsStandIn u) = true := by kernel_rfl
        exact (show Tryz.prog.wantsStandIn t = false by simpa using List.all_eq_true.1 hall t hm)⟩)
    (by kernel_rfl)
#print axioms unitPower_card
end Go.Proofs.YtcpanaokfbojnaaGreatDoor
