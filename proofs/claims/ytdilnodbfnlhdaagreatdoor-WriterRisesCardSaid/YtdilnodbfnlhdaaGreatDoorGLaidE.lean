import Derived.Test.YtdilnodbfnlhdaaGreatDoorGErr
import Derived.LaidLaws
namespace Go.Proofs.YtdilnodbfnlhdaaGreatDoor
open Go Go.ChangeShapes Go.WideShapes Go.ChangeAt Go.RowKit
def qo (x:String × List UInt8):String × DataW Unit:=(x.1,.iface "*errors.errorString" (.ptr (.agg [.lit (.string x.2)])))
def ko:List (String × List UInt8):= [
 ("tidewater/api.ErrRange", [116,105,100,101,119,97,116,101,114,58,32,114,97,110,103,101]),
 ("tidewater/api.ErrShort", [116,105,100,101,119,97,116,101,114,58,32,115,104,111,114,116]),
 ("tidewater/api.ErrLong", [116,105,100,101,119,97,116,101,114,58,32,108,111,110,103]),
 ("tidewater/api.ErrForm", [116,105,100,101,119,97,116,101,114,58,32,102,111,114,109]),
 ("tidewater/api.ErrSum", [116,105,100,101,119,97,116,101,114,58,32,115,117,109]),
 ("tidewater/api.ErrRune", [116,105,100,101,119,97,116,101,114,58,32,114,117,110,101]),
 ("tidewater/api.ErrName", [116,105,100,101,119,97,116,101,114,58,32,110,97,109,101]),
 ("tidewater/api.ErrSealed", [116,105,100,101,119,97,116,101,114,58,32,115,101,97,108,101,100]),
 ("tidewater/api.ErrWritten", [116,105,100,101,119,97,116,101,114,58,32,119,114,105,116,116,101,110]),
 ("tidewater/api.ErrUnwritten", [116,105,100,101,119,97,116,101,114,58,32,117,110,119,114,105,116,116,101,110]),
 ("tidewater/api.ErrTrimmed", [116,105,100,101,119,97,116,101,114,58,32,116,114,105,109,109,101,100]),
 ("tidewater/api.ErrDown", [116,105,100,101,119,97,116,101,114,58,32,100,111,119,110]),
 ("tidewater/api.ErrFull", [116,105,100,101,119,97,116,101,114,58,32,102,117,108,108]),
 ("tidewater/api.ErrEpoch", [116,105,100,101,119,97,116,101,114,58,32,101,112,111,99,104]),
 ("tidewater/api.ErrMoved", [116,105,100,101,119,97,116,101,114,58,32,109,111,118,101,100]),
 ("tidewater/api.ErrNone", [116,105,100,101,119,97,116,101,114,58,32,110,111,110,101]),
 ("tidewater/api.ErrState", [116,105,100,101,119,97,116,101,114,58,32,115,116,97,116,101]),
 ("tidewater/api.ErrClash", [116,105,100,101,119,97,116,101,114,58,32,99,108,97,115,104]),
 ("tidewater/api.ErrStale", [116,105,100,101,119,97,116,101,114,58,32,115,116,97,108,101])]
theorem sU {P:Program} {W:World} {ti tp te ts:TypeId} {ms:Array (String × TypeId)} {f:Field} (hi:P.underlying ti=some (.interface ms)) (hrow:∀u,P.typeName? 3 u=some "*errors.errorString" ->u=tp)
 (hp:P.underlying tp=some (.pointer te)) (he:P.underlying te=some (.struct #[f])) (hft:f.type=ts) (hfo:f.offset=0) (hs:P.underlying ts=some .string) (hc:P.cellsOf te=1) (hcs:P.cellsOf ts=1)
 (rest:List (String × DataW Unit)):∀ (l:List (String × List UInt8)) (gs:List Nat),l.length=gs.length->(∀ (i:Nat) x g,l[i]? =some x->gs[i]? =some g->P.globalNamed x.1=some g/\(P.globals[g]?).map (·.type)=some ti)->
   ∀ps,DataW.LaidVars P W (l.map qo ++ rest) ps->ps.Nodup->
    (∀b off,MemPlace.cell b off ∈ ps->(∃c t,W.heap[b]? =some (.cells c t (0,0)))/\∀u v,W.cell? ⟨b,off,none⟩=some (.iface u v)->Value.okWide P W .any 0 u v)->
    ∃ads:List Addr,ads.length=l.length/\ads.Nodup/\(∀ (i:Nat) a g,ads[i]? =some a->gs[i]? =some g->W.cell? ⟨g,0,none⟩=some (.iface tp (.pointer (some a))))/\
     (∀a ∈ ads,MemPlace.cell a.block a.off ∈ ps/\∃c t,W.heap[a.block]? =some (.cells c t (0,0)))/\
     ∃q,DataW.LaidVars P W rest q/\q.Nodup/\∀x ∈ q,x ∈ ps
 | [],gs,_,_,ps,hv,hnd,_=>⟨[],rfl,List.nodup_nil,λi a g h=>by simp at h,λa h=>by simp at h,ps,hv,hnd,λ_ h=>h⟩
 | x :: l, [],hl,_,_,_,_,_=>by simp at hl
 | x :: l,g :: gs,hl,hg,ps,hv,hnd,hrows=>by
   obtain⟨g0,t0,cs0,f0,p0,q0,hg0,ht0,hv0,hd0,hq,rfl⟩:=hv;obtain⟨hg1,ht1⟩:=hg 0 x g rfl rfl;obtain rfl:=Option.some.inj (hg1.symm.trans hg0);obtain rfl:=Option.some.inj (ht1.symm.trans ht0);obtain⟨l0⟩:=cs0;have ok0:∀u v,l0= [.iface u v]->Value.okWide P W .any 0 u v:=λu v e=>by subst e;exact(hrows g 0 (by simp[MemPlace.row])).2 u v (by simpa using World.var?_cell hg0 hv0 0)
   obtain⟨a0,s0,rfl,hc0,hs0,hz0,rfl⟩:=errorString_of_trod hi hrow hp he hft hfo hs hc hcs hd0 ok0;have hnd2:q0.Nodup:=List.Nodup.sublist (List.sublist_append_right _ _) hnd;have hrows2:∀b off,MemPlace.cell b off ∈ q0->(∃c t,W.heap[b]? =some (.cells c t (0,0)))/\∀u v,W.cell? ⟨b,off,none⟩=some (.iface u v)->Value.okWide P W .any 0 u v:=λb off hm=>hrows b off (List.mem_append_right _ hm);obtain⟨ads,h1,h2,h3,h4,q,h5,h6,h7⟩:=sU hi hrow hp he hft hfo hs hc hcs rest l gs (by simpa using hl) (λi x g hx hg'=>hg (i+1) x g hx hg') q0 hq hnd2 hrows2;refine⟨a0 :: ads,by simp[h1],List.nodup_cons.2 ⟨λhm=> ?_,h2⟩,?_,?_,q,h5,h6,λy hy=>List.mem_append_right _ (h7 y hy)⟩
   · have h8:=(h4 a0 hm).1;rw[List.nodup_append]at hnd;exact hnd.2.2 (MemPlace.cell a0.block a0.off) (by simp[MemPlace.row]) _ h8 rfl
   · intro i a g' ha hg';cases i with
     | zero=>simp at ha hg';subst ha hg';simpa using World.var?_cell hg0 hv0 0
     | succ i=>exact h3 i a g' ha hg'
   · intro a ha;rcases List.mem_cons.1 ha with rfl|ha
     · have hm:MemPlace.cell a.block a.off ∈ (MemPlace.row ⟨g,0,none⟩ 1 ++ MemPlace.row a 1 ++ q0):=by simp[MemPlace.row]
       exact⟨hm,(hrows _ _ hm).1⟩
     · exact⟨List.mem_append_right _ (h4 a ha).1,(h4 a ha).2⟩
theorem star:("*" ++ "errors.errorString" :String)= "*errors.errorString" :=by decide
theorem xd {W:World} {rest:List (String × DataW Unit)} (h:laidMet Tryz.prog (ko.map qo ++ rest) W):∃a:Nat->Addr,ar W a/\laidMet Tryz.prog rest W:=by
 obtain⟨ps,hv,hnd,hrows⟩:=h;have hg:∀ (i:Nat) x g,ko[i]? =some x->bA[i]? =some g->Tryz.prog.globalNamed x.1=some g/\(Tryz.prog.globals[g]?).map (·.type)=some 50:=by
  have hall:((ko.zip bA).all λy=>decide (Tryz.prog.globalNamed y.1.1=some y.2) && decide ((Tryz.prog.globals[y.2]?).map (·.type)=some 50))=true:=by kernel_rfl
  intro i x g hx hg;have hm:(x,g) ∈ ko.zip bA:=List.mem_of_getElem? (i:=i) (by rw[List.getElem?_zip_eq_some];exact⟨hx,hg⟩);have:=List.all_eq_true.1 hall _ hm;simpa using this
 have hrow:∀u,Tryz.prog.typeName? 3 u=some "*errors.errorString" ->u=305:=λu hu=>typeName_ptr_named (nm:= "errors.errorString") (by rw[star];kernel_rfl) (by kernel_rfl) (by decide) u (by rw[star];exact hu);obtain⟨ads,h1,h2,h3,h4,q,h5,h6,h7⟩:=sU Tryz.underlying50 hrow Tryz.underlying305 Tryz.underlying344 rfl rfl Tryz.underlying9 (by kernel_rfl) (by kernel_rfl) rest ko bA rfl hg ps hv hnd hrows;have hl:ads.length=19:=h1;have hat:∀i (hi:i < 19),ads[i]? =some (ads.getD i ⟨0,0,none⟩):=λi hi=>by rw[List.getD_eq_getElem?_getD,List.getElem?_eq_getElem (by omega)];rfl
 refine⟨λi=>ads.getD i ⟨0,0,none⟩,⟨λi hi=> ?_,λi hi=> ?_,λi j hi hj hne=> ?_⟩,q,h5,h6,λb off hm=>hrows b off (h7 _ hm)⟩
 · have hev:bA[i]? =some (bA.getD i 0):=by have:i < bA.length:=hi;rw[List.getD_eq_getElem?_getD,List.getElem?_eq_getElem this];rfl
   exact h3 i _ _ (hat i hi) hev
 · exact(h4 _ (List.mem_of_getElem? (hat i hi))).2
 · intro e;have h8:ads[i]? =ads[j]? :=by rw[hat i hi,hat j hj];exact congrArg some e
   exact hne ((List.getElem?_inj (by omega) h2).1 h8)
end Go.Proofs.YtdilnodbfnlhdaaGreatDoor
