/- PageJunk: for all bytes, entries and backs, in whatever memory, the law answers true: junk is no page, and a page whose first byte is another is none. The condition: the nineteen errors lie as the text of the program lays them (the card ties that to the text); the library's two tables of UTF-8 may hold whatever they hold. -/
import Derived.Test.YtcddgllckadodaaDoorGPgB
import Derived.Test.YtcddgllckadodaaDoorGOpenB
import Derived.Test.YtcddgllckadodaaDoorGOpen
import Derived.Test.YtcddgllckadodaaDoorGValT
import Derived.Test.YtcddgllckadodaaDoorGLaidE
import Derived.Test.YtcddgllckadodaaDoorTie
import Derived.Test.YtcddgllckadodaaDoorCards
import Derived.SevenTiedAt
import Derived.Deep.DeepHandedRow
import Derived.Lay
namespace Go.Proofs.YtcddgllckadodaaDoor
open Go Go.ChangeShapes Go.WideShapes Go.ChangeAt Go.RowKit

theorem pageJunkWitness (os : Os) (H : Type) (enc : TypeId × Value → H) :
    ∃ (w : World) (tape : Tape) (i : Input), w.os = os ∧ (w.forCall tape i).Shaped Tryd.checked.prog ∧ i.vars = [] ∧ Input.okWide Tryd.checked.prog (w.forCall tape i) .any w.heap.size 3 i ∧
      (OpenSpec.ofChange Rows.pageJunkSpec).preRow enc Tryd.checked.prog Tryd.f3 Rows.pageJunkRow.domain Rows.pageJunkRow.apart Rows.pageJunkRow.laid (w.forCall tape i).memory i.args ∧ (({} : Assume)).holds Tryd.checked.prog (lone (Frame.enter Tryd.checked.prog 3 i.args .normal) [] (w.forCall tape i)) := by
  obtain ⟨w, tape, i, h1, h2, h3, h4, h5, h6⟩ := ChangeSpec.witness_shaped (enc := enc) (C := Tryd.checked) (os := os) (f := 3) (fn := Tryd.f3) (s := Rows.pageJunkSpec) (conds := []) (apart := false) (X := fun w _ => laidMetH Tryd.prog Rows.pageJunkRow.laid w) false (World.laidAll Tryd.prog os Rows.pageJunkRow.laid) #[.slice none 0 0, .agg #[.int .i64 0, .int .i64 0, .int .i64 0, .int .i64 0, .int .i64 0, .int .i64 0, .slice none 0 0, .string ⟨#[]⟩, .int .i64 0, .int .i64 0, .int .i64 0, .slice none 0 0], .slice none 0 0] 8 (World.laidAll_os _ _ _) (World.shaped_of_ZipB (by kernel_rfl) (by kernel_rfl)) (by kernel_rfl) (by kernel_rfl) (by kernel_rfl) (by rw [MakeChecks.laidMetH_plain _ _ _ (by kernel_rfl)]; exact laidMet_laidAll _ (by kernel_rfl) (by kernel_rfl))
  exact ⟨w, tape, i, h1, h2, h3, h4, by rw [← OpenClaim.pre_eq_preRow]; exact h5, h6⟩

set_option maxRecDepth 100000 in
theorem pageJunkLifted (os : Os) (started : os.Started) (H : Type) (enc : TypeId × Value → H) (F0 : Stop.Interp) :
    ReturnsInHanded {} Tryd.checked os 3 .any ((OpenSpec.ofChange Rows.pageJunkSpec).preRow enc Tryd.checked.prog Tryd.f3 Rows.pageJunkRow.domain Rows.pageJunkRow.apart Rows.pageJunkRow.laid)
      (((OpenSpec.ofChange Rows.pageJunkSpec).at F0).post enc Tryd.checked.prog Tryd.f3 false true false false) := by
  refine returnsInHanded_of_row (C := Tryd.checked) (s := OpenSpec.ofChange Rows.pageJunkSpec) own started (by kernel_rfl) Tryd.func3 (pageJunkWitness os H enc) ?_
  intro W base args ds gs before hval0 hW _ _ _ hL hsh _
  have hval : ∀ (j : Nat) t v, Tryd.f3.params[j]? = some t → args[j]? = some v → Value.okWide Tryd.prog W .any base t v := hval0
  have hW' := hW
  obtain ⟨p, q, hA0, hV, rfl, hfz, hnd⟩ := hW
  have hA : DataW.TrodAll enc Tryd.prog W 0 (fun _ => true) true Tryd.f3.params.toList args.toList ds p := hA0
  rw [Tryd.params3] at hA hval
  obtain ⟨v0, v1, v2, d0, d1, d2, p0, p1, p2, rfl, rfl, rfl, h0, h1, h2⟩ := trodAll_three hA
  obtain ⟨l, hb0⟩ := open_bytes Tryd.underlying22 Tryd.underlying5 (by kernel_rfl) (hval 0 22 v0 rfl rfl) h0
  obtain ⟨e, vo, vd, rfl, he1⟩ := open_ent Tryd.underlying25 (by kernel_rfl) (by kernel_rfl) Tryd.underlying3 Tryd.underlying3 Tryd.underlying3 Tryd.underlying3 Tryd.underlying3 Tryd.underlying3 Tryd.underlying3 Tryd.underlying3 Tryd.underlying3 Tryd.underlying9 rfl Tryd.underlying23 Tryd.underlying40 (by kernel_rfl) (by kernel_rfl) Tryd.underlying3 Tryd.underlying9 Tryd.underlying9 Tryd.underlying9 Tryd.underlying3 rfl Tryd.underlying22 Tryd.underlying5 (by kernel_rfl) (hval 1 25 v1 rfl rfl) h1
  obtain ⟨bs, hb2⟩ := open_backs Tryd.underlying26 Tryd.underlying43 (by kernel_rfl) (by kernel_rfl) Tryd.underlying3 Tryd.underlying41 Tryd.underlying3 (by kernel_rfl) (hval 2 26 v2 rfl rfl) h2
  rw [MakeChecks.laidMetH_plain _ _ _ (by kernel_rfl)] at hL
  obtain ⟨a, hE, _⟩ := errs_of_laid (rest := []) hL
  obtain ⟨f, lo, hi, hT⟩ := tabs_open hsh
  clear hA0 hval0
  refine (pageJunk_law a _ _ l v0 e vo vd v2 bs W hb0 he1 hb2 ⟨keySpec_tabs a f lo hi, hT, hE⟩).mono fun en W' ⟨he, hb⟩ => ?_
  subst he
  exact ⟨_, rfl, post_true (s := Rows.pageJunkSpec) hW' rfl (by kernel_rfl) rfl (fun ds' hl => by
    match ds', hl with
    | [_, _, _], _ => rfl) hb⟩

theorem pageJunk_holds : Rows.PageJunkSaid :=
  OpenClaim.holds_of_cond 3 Tryd.f3 rfl rfl rfl rfl rfl rfl rfl ⟨rfl, rfl, rfl, rfl, rfl⟩ rfl rfl rfl rfl rfl (by kernel_rfl) Tryd.func3 (by kernel_rfl)
    (of_decide_eq_true (by kernel_rfl)) (by unfold Func.isWrapper; first | (rw [if_pos (by decide +kernel)]; kernel_rfl) | (rw [if_neg (by decide +kernel)]; exact ⟨rfl, rfl⟩))
    (fun os started H enc _ F0 => by rw [OpenClaim.pre_eq_preRow]; exact pageJunkLifted os started H enc F0)

theorem pageJunk_card : Rows.PageJunkCardSaid :=
  Claim7.holds_tied_plain_at .later [] [.sentinel, .sentinel, .sentinel, .sentinel, .sentinel, .sentinel, .sentinel, .sentinel, .sentinel, .sentinel, .sentinel, .sentinel, .sentinel, .sentinel, .sentinel, .sentinel, .sentinel, .sentinel, .sentinel] true _ true
    pageJunk_holds (fun _ h => by cases h) (by kernel_rfl) (fun _ h => by cases h) pageJunk_row_tie rfl ⟨rfl, rfl⟩ (by kernel_rfl) rfl
    (fun f fn hf hfn => by
      obtain rfl : f = 3 := Option.some.inj ((show Tryd.prog.funcNamed "tidewater/tidewaterlaw06.PageJunk" = some 3 by kernel_rfl).symm.trans hf) |>.symm
      obtain rfl : fn = Tryd.f3 := (Option.some.inj (Tryd.func3.symm.trans hfn)).symm
      exact ⟨by kernel_rfl, fun j t ht => by
        rw [Tryd.params3] at ht
        have hm : t ∈ [22, 25, 26] := by simpa using Array.mem_of_getElem? ht
        have hall : ([22, 25, 26].all fun u => !Tryd.prog.wantsStandIn u) = true := by kernel_rfl
        exact (show Tryd.prog.wantsStandIn t = false by simpa using List.all_eq_true.1 hall t hm)⟩)
    (by kernel_rfl)
#print axioms pageJunk_card
end Go.Proofs.YtcddgllckadodaaDoor
