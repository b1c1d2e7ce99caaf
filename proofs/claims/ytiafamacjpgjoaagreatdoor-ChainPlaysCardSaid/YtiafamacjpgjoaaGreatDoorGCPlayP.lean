/- ChainPlays: for every plan and list of acts, in whatever memory, the law answers true: chains of units answer as the document's own ones do, in every order, whichever units are down or sealed. The condition: the nineteen errors lie as the text of the program lays them (the card ties that to the text). -/
import Derived.Test.YtiafamacjpgjoaaGreatDoorGCjO
import Derived.Test.YtiafamacjpgjoaaGreatDoorGDgZ
import Derived.Test.YtiafamacjpgjoaaGreatDoorGLaidE
import Derived.Test.YtiafamacjpgjoaaGreatDoorGOpenG
import Derived.Test.YtiafamacjpgjoaaGreatDoorGKeep
import Derived.Test.YtiafamacjpgjoaaGreatDoorTie
import Derived.Test.YtiafamacjpgjoaaGreatDoorCards
import Derived.Test.YtiafamacjpgjoaaGreatDoorGMem
import Derived.SevenTiedAt
import Derived.Lay
import Derived.WalkKit
import Derived.Deep.Matrix
namespace Go.Proofs.YtiafamacjpgjoaaGreatDoor
open Go Go.ChangeShapes Go.WideShapes Go.ChangeAt Go.RowKit
set_option maxRecDepth 100000 in
theorem chainPlaysLifted (os:Os) (started:os.Started) (H:Type) (enc:TypeId × Value->H):
 ReturnsInHanded {} Tryz.checked os 3 .any (λw args=>(Rows.chainPlaysSpec.pre enc Tryz.prog Tryz.f3 [] false w args/\laidMetH Tryz.prog Rows.chainPlaysRow.laid w)/\sizedMet enc Tryz.prog Tryz.f3 (OpenSpec.ofChange Rows.chainPlaysSpec) false w args)
  (Rows.chainPlaysSpec.post enc Tryz.prog Tryz.f3 false true false false):=by
 refine returnsInHanded_of_change_and (C:=Tryz.checked) (X:=λw _=>laidMetH Tryz.prog Rows.chainPlaysRow.laid w) (λ_ _ _ hh h=>h.of_heap hh) own started (by kernel_rfl) Tryz.func3
  (ChangeSpec.witness_shaped (enc:=enc) (C:=Tryz.checked) (os:=os) (X:=λw _=>laidMetH Tryz.prog Rows.chainPlaysRow.laid w) false (World.laidAll Tryz.prog os Rows.chainPlaysRow.laid) #[.agg #[.int .i64 0,.slice none 0 0],.slice none 0 0] 8 (World.laidAll_os _ _ _) (World.shaped_of_ZipB (by kernel_rfl) (by kernel_rfl)) (by kernel_rfl) (by kernel_rfl) (by kernel_rfl) (by rw[MakeChecks.laidMetH_plain _ _ _ (by kernel_rfl)];exact laidMet_laidAll _ (by kernel_rfl) (by kernel_rfl))) ?_
 intro W base args ds gs before hval0 hW _ _ hL _;have hval:∀ (j:Nat) t v,Tryz.f3.params[j]? =some t->args[j]? =some v->Value.okWide Tryz.prog W .any base t v:=hval0;have hW':=hW;obtain⟨p,q,hA0,hV,rfl,hfz,hnd⟩:=hW;have hA:DataW.TrodAll enc Tryz.prog W 0 (λ_=>true) true Tryz.f3.params.toList args.toList ds p:=hA0;rw[Tryz.params3]at hA hval;obtain⟨v0,v1,d0,d1,p0,p1,rfl,rfl,rfl,h0,h1⟩:=trodAll_two hA;obtain⟨ep,u0,cs,rfl,hg⟩:=AR Tryz.underlying24 (by kernel_rfl) (by kernel_rfl) Tryz.underlying3 Tryz.underlying22 Tryz.underlying41 Tryz.underlying3 (by kernel_rfl) (by kernel_rfl) (hval 0 24 v0 rfl rfl) h0;obtain⟨ks,hk1⟩:=AN Tryz.underlying25 Tryz.underlying38 (by kernel_rfl) (by kernel_rfl) Tryz.underlying3 Tryz.underlying3 Tryz.underlying3 Tryz.underlying9 (hval 1 25 v1 rfl rfl) h1;rw[MakeChecks.laidMetH_plain _ _ _ (by kernel_rfl)]at hL;obtain⟨E,hE,_⟩:=yk (rest:= []) hL;clear hA0 hval0;refine(wR (x7 (three E)) hE ep cs ks u0 v1 hg hk1).mono λe W' ⟨he,hb⟩=> ?_;subst he;exact⟨_,rfl,Bv hW' rfl (by kernel_rfl) rfl (λds' hl=>by
  match ds',hl with
  | [_,_],_=>rfl) hb⟩
theorem chainPlays_holds:Rows.ChainPlaysSaid:=
 OpenClaim.holds_of_wide 3 Tryz.f3 rfl rfl rfl rfl rfl rfl rfl ⟨rfl,rfl,rfl,rfl,rfl⟩ rfl rfl rfl rfl rfl (by kernel_rfl) Tryz.func3 (by kernel_rfl)
  (of_decide_eq_true (by kernel_rfl)) (by unfold Func.isWrapper;first|(rw[if_pos (by decide+kernel)];kernel_rfl)|(rw[if_neg (by decide+kernel)];exact⟨rfl,rfl⟩))
  (λos started H enc _=>chainPlaysLifted os started H enc)
theorem chainPlays_card:Rows.ChainPlaysCardSaid:=
 Claim7.holds_tied_plain_at .later [] [.sentinel,.sentinel,.sentinel,.sentinel,.sentinel,.sentinel,.sentinel,.sentinel,.sentinel,.sentinel,.sentinel,.sentinel,.sentinel,.sentinel,.sentinel,.sentinel,.sentinel,.sentinel,.sentinel] true _ true
  chainPlays_holds (λ_ h=>by cases h) (by kernel_rfl) (λ_ h=>by cases h) chainPlays_row_tie rfl ⟨rfl,rfl⟩ (by kernel_rfl) rfl
  (λf fn hf hfn=>by
    obtain rfl:f=3:=Option.some.inj ((show Tryz.prog.funcNamed "tidewater/tidewaterlaw14.ChainPlays" =some 3 by kernel_rfl).symm.trans hf) |>.symm;obtain rfl:fn=Tryz.f3:=(Option.some.inj (Tryz.func3.symm.trans hfn)).symm;exact⟨by kernel_rfl,λj t ht=>by
     rw[Tryz.params3]at ht;have hm:t ∈ [24,25]:=by simpa using Array.mem_of_getElem? ht
     have hall:([24,25].all λu=> !Tryz.prog.wantsStandIn u)=true:=by kernel_rfl
     exact(show Tryz.prog.wantsStandIn t=false by simpa using List.all_eq_true.1 hall t hm)⟩)
  (by kernel_rfl)
#print axioms chainPlays_card
end Go.Proofs.YtiafamacjpgjoaaGreatDoor
