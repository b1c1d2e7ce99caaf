/- WriterRises: for every plan and list of acts, in whatever memory, the law answers true: what is appended one behind the other has addresses one behind the other, from 0 on, and the sequencer's next address is the one behind them. The conditions: the nineteen errors lie as the text of the program lays them (the card ties that to the text); the library's two tables of UTF-8 may hold whatever they hold. -/
import Derived.Test.YtdilnodbfnlhdaaGreatDoorGWrB
import Derived.Test.YtdilnodbfnlhdaaGreatDoorGOpenR
import Derived.Test.YtdilnodbfnlhdaaGreatDoorGOpenAg
import Derived.Test.YtdilnodbfnlhdaaGreatDoorGDgZ
import Derived.Test.YtdilnodbfnlhdaaGreatDoorGUmod
import Derived.Test.YtdilnodbfnlhdaaGreatDoorGValT
import Derived.Test.YtdilnodbfnlhdaaGreatDoorGLaidE
import Derived.Test.YtdilnodbfnlhdaaGreatDoorTie
import Derived.Test.YtdilnodbfnlhdaaGreatDoorCards
import Derived.SevenTiedAt
import Derived.Deep.DeepHandedRow
import Derived.Lay
namespace Go.Proofs.YtdilnodbfnlhdaaGreatDoor
open Go Go.ChangeShapes Go.WideShapes Go.ChangeAt Go.RowKit
theorem writerRisesWitness (os:Os) (H:Type) (enc:TypeId × Value->H):
 ∃ (w:World) (tape:Tape) (i:Input),w.os=os/\(w.forCall tape i).Shaped Tryz.checked.prog/\i.vars= []/\Input.okWide Tryz.checked.prog (w.forCall tape i) .any w.heap.size 5 i/\
   (OpenSpec.ofChange Rows.writerRisesSpec).preRow enc Tryz.checked.prog Tryz.f5 Rows.writerRisesRow.domain Rows.writerRisesRow.apart Rows.writerRisesRow.laid (w.forCall tape i).memory i.args/\(({}:Assume)).holds Tryz.checked.prog (lone (Frame.enter Tryz.checked.prog 5 i.args .normal) [] (w.forCall tape i)):=by
 obtain⟨w,tape,i,h1,h2,h3,h4,h5,h6⟩:=ChangeSpec.witness_shaped (enc:=enc) (C:=Tryz.checked) (os:=os) (f:=5) (fn:=Tryz.f5) (s:=Rows.writerRisesSpec) (conds:= []) (apart:=false) (X:=λw _=>laidMetH Tryz.prog Rows.writerRisesRow.laid w) false (World.laidAll Tryz.prog os Rows.writerRisesRow.laid) #[.agg #[.int .i64 0,.slice none 0 0],.slice none 0 0] 8 (World.laidAll_os _ _ _) (World.shaped_of_ZipB (by kernel_rfl) (by kernel_rfl)) (by kernel_rfl) (by kernel_rfl) (by kernel_rfl) (by rw[MakeChecks.laidMetH_plain _ _ _ (by kernel_rfl)];exact laidMet_laidAll _ (by kernel_rfl) (by kernel_rfl));exact⟨w,tape,i,h1,h2,h3,h4,by rw[<-OpenClaim.pre_eq_preRow];exact h5,h6⟩
set_option maxRecDepth 100000 in
theorem writerRisesLifted (os:Os) (started:os.Started) (H:Type) (enc:TypeId × Value->H) (F0:Stop.Interp):
 ReturnsInHanded {} Tryz.checked os 5 .any ((OpenSpec.ofChange Rows.writerRisesSpec).preRow enc Tryz.checked.prog Tryz.f5 Rows.writerRisesRow.domain Rows.writerRisesRow.apart Rows.writerRisesRow.laid)
  (((OpenSpec.ofChange Rows.writerRisesSpec).at F0).post enc Tryz.checked.prog Tryz.f5 false true false false):=by
 refine returnsInHanded_of_row (C:=Tryz.checked) (s:=OpenSpec.ofChange Rows.writerRisesSpec) own started (by kernel_rfl) Tryz.func5 (writerRisesWitness os H enc) ?_;intro W base args ds gs before hval0 hW _ _ _ hL hsh _;have hval:∀ (j:Nat) t v,Tryz.f5.params[j]? =some t->args[j]? =some v->Value.okWide Tryz.prog W .any base t v:=hval0;have hW':=hW;obtain⟨p,q,hA0,hV,rfl,hfz,hnd⟩:=hW;have hA:DataW.TrodAll enc Tryz.prog W 0 (λ_=>true) true Tryz.f5.params.toList args.toList ds p:=hA0;rw[Tryz.params5]at hA hval;obtain⟨v0,v1,d0,d1,p0,p1,rfl,rfl,rfl,h0,h1⟩:=trodAll_two hA;obtain⟨ep,u0,cs,rfl,hg⟩:=zU Tryz.underlying24 (by kernel_rfl) (by kernel_rfl) Tryz.underlying3 Tryz.underlying22 Tryz.underlying71 Tryz.underlying3 (by kernel_rfl) (by kernel_rfl) (hval 0 24 v0 rfl rfl) h0;obtain⟨ks,hk1⟩:=zP Tryz.underlying25 Tryz.underlying42 (by kernel_rfl) ⟨rfl,by kernel_rfl⟩ ⟨rfl,by kernel_rfl⟩ ⟨rfl,by kernel_rfl⟩ ⟨rfl,by kernel_rfl⟩ Tryz.underlying3 Tryz.underlying3 Tryz.underlying3 rfl Tryz.underlying40 (by kernel_rfl) Tryz.underlying3 Tryz.underlying3 Tryz.underlying3 Tryz.underlying3 Tryz.underlying3 Tryz.underlying3 Tryz.underlying3 Tryz.underlying3 Tryz.underlying3 Tryz.underlying9 rfl Tryz.underlying37 Tryz.underlying91 (by kernel_rfl) (by kernel_rfl) Tryz.underlying3 Tryz.underlying9 Tryz.underlying9 Tryz.underlying9 Tryz.underlying3 rfl Tryz.underlying38 Tryz.underlying5 (by kernel_rfl) (hval 1 25 v1 rfl rfl) h1;rw[MakeChecks.laidMetH_plain _ _ _ (by kernel_rfl)]at hL;obtain⟨a,hE,_⟩:=xd (rest:= []) hL;obtain⟨f,lo,hi,hT⟩:=DO hsh;clear hA0 hval0;refine(EX (wR (three a)) ⟨yC a f lo hi,hT,hE⟩ ep cs ks u0 v1 hg hk1).mono λen W' ⟨he,hb⟩=> ?_;subst he;exact⟨_,rfl,AV (s:=Rows.writerRisesSpec) hW' rfl (by kernel_rfl) rfl (λds' hl=>by
  match ds',hl with
  | [_,_],_=>rfl) hb⟩
theorem writerRises_holds:Rows.WriterRisesSaid:=
 OpenClaim.holds_of_cond 5 Tryz.f5 rfl rfl rfl rfl rfl rfl rfl ⟨rfl,rfl,rfl,rfl,rfl⟩ rfl rfl rfl rfl rfl (by kernel_rfl) Tryz.func5 (by kernel_rfl)
  (of_decide_eq_true (by kernel_rfl)) (by unfold Func.isWrapper;first|(rw[if_pos (by decide+kernel)];kernel_rfl)|(rw[if_neg (by decide+kernel)];exact⟨rfl,rfl⟩))
  (λos started H enc _ F0=>by rw[OpenClaim.pre_eq_preRow];exact writerRisesLifted os started H enc F0)
theorem writerRises_card:Rows.WriterRisesCardSaid:=
 Claim7.holds_tied_plain_at .later [] [.sentinel,.sentinel,.sentinel,.sentinel,.sentinel,.sentinel,.sentinel,.sentinel,.sentinel,.sentinel,.sentinel,.sentinel,.sentinel,.sentinel,.sentinel,.sentinel,.sentinel,.sentinel,.sentinel] true _ true
  writerRises_holds (λ_ h=>by cases h) (by kernel_rfl) (λ_ h=>by cases h) writerRises_row_tie rfl ⟨rfl,rfl⟩ (by kernel_rfl) rfl
  (λf fn hf hfn=>by
    obtain rfl:f=5:=Option.some.inj ((show Tryz.prog.funcNamed "tidewater/tidewaterlaw15.WriterRises" =some 5 by kernel_rfl).symm.trans hf) |>.symm;obtain rfl:fn=Tryz.f5:=(Option.some.inj (Tryz.func5.symm.trans hfn)).symm;exact⟨by kernel_rfl,λj t ht=>by
     rw[Tryz.params5]at ht;have hm:t ∈ [24,25]:=by simpa using Array.mem_of_getElem? ht
     have hall:([24,25].all λu=> !Tryz.prog.wantsStandIn u)=true:=by kernel_rfl
     exact(show Tryz.prog.wantsStandIn t=false by simpa using List.all_eq_true.1 hall t hm)⟩)
  (by kernel_rfl)
#print axioms writerRises_card
end Go.Proofs.YtdilnodbfnlhdaaGreatDoor
