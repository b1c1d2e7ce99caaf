import Derived.Test.YtdilnodbfnlhdaaGreatDoorGKeep
import Derived.RangeFuncNested
import Derived.RangeFuncCalls
import Derived.RangeFuncLeaves
import Derived.RangeFuncBound
import Derived.OrdersIn
import Derived.RegionTactic
namespace Tide
open Go Go.RowKit
def Nx {α:Type} (L:List α) (pre:List α) (x:α):Prop:=∃h:pre.length < L.length,pre=L.take pre.length/\x=L[pre.length]
theorem Nx.at {α:Type} {L:List α} {k:Nat} (h:k < L.length):Nx L (L.take k) L[k]:=by
 have hl:(L.take k).length=k:=by rw[List.length_take];omega
 exact⟨by rw[hl];exact h,by rw[hl],by simp only[hl]⟩
theorem Nx.mem {α:Type} {L pre:List α} {x:α} (h:Nx L pre x):x ∈ L:=by obtain⟨h1,_,h3⟩:=h;rw[h3];exact List.getElem_mem h1
theorem Nx.lt {α:Type} {L pre:List α} {x:α} (h:Nx L pre x):pre.length < L.length:=h.1
theorem Nx.elem {α:Type} {L pre:List α} {x:α} (h:Nx L pre x):L[pre.length]? =some x:=by obtain⟨h1,_,h3⟩:=h;rw[h3,List.getElem?_eq_getElem]
def kd {α:Type} (F:Fence) (n:Nat) (P:Program) (g:Nat) (lb:Array Value) (encs:α->Array Value) (Kp:World->World->Prop) (L:List α) (w:World):Prop:=
 ∀ (l:Nat) (J Jx:List α->World->Prop) (W:World),Below w.heap.size w W->OwnFrom W.heap.size J->OwnFrom W.heap.size Jx->
   (∀pre x A,J pre A->Nx L pre x->YieldAt F (n - 1) P l (encs x) A λe B=>(e= .returned (.bool true)/\J (pre ++ [x]) B/\Kp A B)\/(e= .returned (.bool false)/\Jx (pre ++ [x]) B))->
   J [] W->CallsIn F n P g (#[.func (.yield l) #[] #[]] ++ lb) W λe W'=>(∃v,e= .returned v)/\(J L W'\/∃pre,Jx pre W')
variable {F:Fence} {n:Nat} {P:Program} {w:World}
theorem jT {α:Type} {g:Operand} {ps:Array Tmp} {assign body:Code} {Q:Exit->Act->World->Prop} {a:Act}
 (hro:F.round=none) (h1:1<=n) {gf:Nat} {lb:Array Value} (hg:a.eval g= .func (.func gf) #[] lb) (hFg:F.fn gf) (eg:∀args w,(callFunc gf args).run P w= .ok (.enter gf args) w)
 {encs:α->Array Value} (hps:∀x,(encs x).size=ps.size) {Kp:World->World->Prop} {L:List α} (hseq:kd F (n - 1) P gf lb encs Kp L w)
 (hKt:∀ {A B C:World},Kp A B->Kp B C->Kp A C) (hKb:∀ (W:World) (l:Nat) (o o':Obj),w.heap.size<=l->W.heap[l]? =some o->o.isCells=false->Kp W (W.putObj l o'))
 (I:List α->World->Prop) (Ix:Code->List α->World->Prop) (hI:OwnFrom w.heap.size I) (hIx:∀c,OwnFrom w.heap.size (Ix c)) (h0:I [] w)
 (Ax:α->Act->World->Prop) (hAx:∀x a',OwnFrom w.heap.size (λ(_:Unit) W=>Ax x a' W))
 (hassign:∀ (l:Nat) (pre:List α) (x:α) (W:World) (K:Act->World->Prop),I pre W->Nx L pre x->(∀a' W',KeepsFrom w.heap.size W W'->Kp W W'->I pre W'->Ax x a' W'->K a' W')->
   assign.wpIn (F.inRound l) (n - 1 - 1) P (Exit.then K (λ_ _ _=>False)) { tmps:=(ps.zip (encs x)).foldl (λt (p,v)=>t.setIfInBounds p v) a.tmps,defers:= [] } W)
 (hbody:∀ (l:Nat) (pre:List α) (x:α) (a':Act) (W:World),w.heap.size<=l->(∃r,W.heap[l]? =some (.loop r))->I pre W->Ax x a' W->Nx L pre x->body.wpIn (F.inRound l) (n - 1 - 1) P (ownPostG w.heap.size Kp I Ix (pre ++ [x]) W) a' W)
 (hdone:∀ (D:Nat) (W:World),w.heap.size<=D->I L W->W.heap[D]? =some (.deferred (some []))->Q .normal { a with defers:= { target:= .collected D,args:= #[] } :: a.defers } W)
 (hstop:∀ (D:Nat) (c:Code) (pre:List α) (W:World),w.heap.size<=D->Ix c pre W->W.heap[D]? =some (.deferred (some []))->c.wpIn F n P Q { a with defers:= { target:= .collected D,args:= #[] } :: a.defers } W):
 (Code.rangeFunc g ps assign body).wpIn F n P Q a w:=by
 refine wpIn_rangeFunc ?_;intro fn hfn;rw[hro];obtain⟨rec,hrec⟩:∃rec:LoopState->Option Code->Loop,rec=λst pe=> { state:=st,pending:=pe,fn,tmps:=a.tmps,params:=ps,assign,body,defers:=w.heap.size }:=⟨_,rfl⟩;obtain⟨W1,hW1⟩:=aa ((w.alloc (.deferred (some []))).alloc (.loop (rec .ready none)));have hL1:W1.heap[w.heap.size+1]? =some (.loop (rec .ready none)):=by rw[<-hW1];have:=World.alloc_heap_new (w.alloc (.deferred (some []))) (.loop (rec .ready none));rwa[World.size_alloc]at this
 have hK1:W1.heap[w.heap.size]? =some (.deferred (some [])):=by rw[<-hW1];exact(Below.heap_alloc _ _ _ (by simp)).trans (World.alloc_heap_new w _)
 have hI1:I [] W1:=by rw[<-hW1];exact hI.alloc _ (hI.alloc _ h0)
 have hb1:Below w.heap.size w W1:=by rw[<-hW1];exact(((Below.refl _ w).alloc (Nat.le_refl _) _).alloc (by simp) _)
 have hz1:W1.heap.size=w.heap.size+2:=by rw[<-hW1];simp
 refine⟨w.heap.size+1, [{ target:= .collected w.heap.size,args:= #[] }],W1,{ target:= .fn (.func gf) lb,args:= #[.func (.yield (w.heap.size+1)) #[] #[]] },W1,gf,
  #[.func (.yield (w.heap.size+1)) #[] #[]] ++ lb,W1,?_,?_,?_,?_,λ_=>h1,?_⟩
 · rw[<-hW1,hrec];exact run_enterLoop_outer _ _ _ _ _
 · simp only[resolve,hg];simp[go_sem]
 · intro f' hf';simp[Target.leads]at hf';subst hf';exact hFg
 · simp[invoke,go_sem,eg]
 · have an:∀ {A B:World} {row:Option Nat} {k:Nat} {o:Obj},A.grownBy B row->(∀r,row=some r->W1.heap.size<=r/\∃o:Obj,A.heap[r]? =some o/\o.isCells=false)->k < W1.heap.size->A.heap[k]? =some o->B.heap[k]? =some o:=λhg' hr hk ho=>(hg'.block _ (Array.getElem?_eq_some_iff.1 ho).1 (λe=>by have:=(hr _ e.symm).1;omega)).trans ho
   have hnw:∀ {A:World} {row:Option Nat},(∀r,row=some r->W1.heap.size<=r/\∃o:Obj,A.heap[r]? =some o/\o.isCells=false)->(∀r,row=some r->w.heap.size<=r/\∃o:Obj,A.heap[r]? =some o/\o.isCells=false):=
    λhr r e=>by obtain⟨hB,o,ho,hw⟩:=hr r e;exact⟨by omega,o,ho,hw⟩
   refine(hseq (w.heap.size+1)
    (λpre W=>I pre W/\W.heap[w.heap.size+1]? =some (.loop (rec .ready none))/\W.heap[w.heap.size]? =some (.deferred (some [])))
    (λpre W=>∃c,Ix c pre W/\W.heap[w.heap.size+1]? =some (.loop (rec .done (some c)))/\W.heap[w.heap.size]? =some (.deferred (some [])))
    W1 hb1
    (λs A B row hs hg' hr=>⟨hI s A B row hs.1 hg' (hnw hr),an hg' hr (by omega) hs.2.1,an hg' hr (by omega) hs.2.2⟩)
    (λs A B row hs hg' hr=>by obtain⟨c,hc,hl,hk⟩:=hs;exact⟨c,hIx c s A B row hc hg' (hnw hr),an hg' hr (by omega) hl,an hg' hr (by omega) hk⟩)
    ?_ ⟨hI1,hL1,hK1⟩).mono ?_
   · -- one round
     rintro pre x W ⟨hi,hl,hk⟩ hN;have hlt:w.heap.size+1 < W.heap.size:=(Array.getElem?_eq_some_iff.1 hl).1;have hy:=run_yield (P:=P) (args:=encs x) hl (by rw[hrec];exact hps x);rw[hrec]at hy;refine⟨fn,_,assign,body,hy,roundIn_of_wpIn hfn (hassign _ pre x W _ hi hN ?_)⟩;clear hy;intro a' Wa hkfa hkpa hia hax;replace hl:=hkfa.same _ _ (by omega) hl rfl;replace hk:=hkfa.same _ _ (Nat.le_refl _) hk rfl;replace hlt:w.heap.size+1 < Wa.heap.size:=(Array.getElem?_eq_some_iff.1 hl).1;replace hi:=hia;clear hia;revert hkpa hkfa;generalize W=Wb;intro hkfa hkpa;obtain⟨W,rfl⟩:∃W,W=Wa:=⟨_,rfl⟩;refine⟨_,run_beginRound hl (by rw[hrec]),?_⟩;have hl2:(W.putObj (w.heap.size+1) (.loop { rec .ready none with state:= .busy })).heap[w.heap.size+1]? =some (.loop { rec .ready none with state:= .busy }):=World.putObj_heap_same hlt;have hk2:(W.putObj (w.heap.size+1) (.loop { rec .ready none with state:= .busy })).heap[w.heap.size]? =some (.deferred (some [])):=(World.putObj_heap_other (by omega)).trans hk;have hw2:Kp W (W.putObj (w.heap.size+1) (.loop { rec .ready none with state:= .busy })):=hKb _ _ _ _ (by omega) hl rfl;refine wpIn_mono (hbody _ pre x a' _ (by omega) ⟨_,hl2⟩ (hI.putObj _ hi (by omega) hl rfl) ((hAx x a').putObj (s:=()) _ hax (by omega) hl rfl) hN) ?_
     have fin:∀ (jump:Option Code) (W3:World),KeepsFrom w.heap.size (W.putObj (w.heap.size+1) (.loop { rec .ready none with state:= .busy })) W3->
      (Instr.endRound (w.heap.size+1) jump).run P W3= .ok (.bool jump.isNone) (W3.putObj (w.heap.size+1) (.loop (rec (if jump.isNone then .ready else .done) jump)))/\
      W3.heap[w.heap.size+1]? =some (.loop { rec .ready none with state:= .busy })/\
      (W3.putObj (w.heap.size+1) (.loop (rec (if jump.isNone then .ready else .done) jump))).heap[w.heap.size+1]? =some (.loop (rec (if jump.isNone then .ready else .done) jump))/\
      (W3.putObj (w.heap.size+1) (.loop (rec (if jump.isNone then .ready else .done) jump))).heap[w.heap.size]? =some (.deferred (some [])):=λjump W3 hk3=>by
      have hl3:=hk3.same _ _ (by omega) hl2 rfl;have:=run_endRound (P:=P) jump hl3;rw[hrec]at this ⊢;exact⟨this,by rw[hrec]at hl3;exact hl3,World.putObj_heap_same (Array.getElem?_eq_some_iff.1 hl3).1,(World.putObj_heap_other (by omega)).trans (hk3.same _ _ (Nat.le_refl _) hk2 rfl)⟩
     rintro e a3 W3 hp;cases e with
     | normal=>obtain⟨hk3,hkp3,hi3⟩:=hp;obtain⟨hr,hl3,hl4,hk4⟩:=fin none W3 hk3;exact⟨_,_,hr,.inl ⟨rfl,⟨hI.putObj _ hi3 (by omega) hl3 rfl,hl4,hk4⟩,hKt hkpa (hKt (hKt hw2 hkp3) (hKb _ _ _ _ (by omega) hl3 rfl))⟩⟩
     | ret=>obtain⟨hk3,hi3⟩:=hp;obtain⟨hr,hl3,hl4,hk4⟩:=fin (some .ret) W3 hk3;exact⟨_,_,hr,.inr ⟨rfl,.ret,(hIx _).putObj _ hi3 (by omega) hl3 rfl,hl4,hk4⟩⟩
     | exit id=>obtain⟨hk3,hi3⟩:=hp;obtain⟨hr,hl3,hl4,hk4⟩:=fin (some (.exit id)) W3 hk3;exact⟨_,_,hr,.inr ⟨rfl,.exit id,(hIx _).putObj _ hi3 (by omega) hl3 rfl,hl4,hk4⟩⟩
     | goto t=>obtain⟨hk3,hi3⟩:=hp;obtain⟨hr,hl3,hl4,hk4⟩:=fin (some (.goto t)) W3 hk3;exact⟨_,_,hr,.inr ⟨rfl,.goto t,(hIx _).putObj _ hi3 (by omega) hl3 rfl,hl4,hk4⟩⟩
     | panic ch=>exact hp.elim
     | outgrown=>exact hp.elim
   · rintro e W2 ⟨⟨v,rfl⟩,(⟨hi,hl,hk⟩|⟨pre,c,hi,hl,hk⟩)⟩
     · exact⟨none,_,by have:=run_endLoop (P:=P) hl (by rw[hrec];simp);rw[hrec]at this;exact this,hdone _ _ (Nat.le_refl _) (hI.putObj _ hi (by omega) hl rfl) ((World.putObj_heap_other (by omega)).trans hk)⟩
     · exact⟨some c,_,by have:=run_endLoop (P:=P) hl (by rw[hrec];simp);rw[hrec]at this;exact this,hstop _ c pre _ (Nat.le_refl _) ((hIx c).putObj _ hi (by omega) hl rfl) ((World.putObj_heap_other (by omega)).trans hk)⟩
theorem fU {β:Type} (B:Nat) (p:β->Prop):OwnFrom B (λs (_:World)=>p s):=λ_ _ _ _ hs _ _=>hs
theorem nZ {β:Type} (B:Nat):OwnFrom B (λ(_:β) (_:World)=>False):=λ_ _ _ _ hs _ _=>hs
theorem nV {β:Type} {B:Nat} (G:β->Nat->Prop) (w:World) (hB:w.heap.size<=B):OwnFrom B (λs W=>Kept (G s) w W):=
 λ_ _ _ _ hs hg hr=>hs.grown hg (λk e=> .inr (by have:=(hr k e).1;omega))
theorem iB {β:Type} (B b:Nat) (t:TypeId) (f:β->Value):OwnFrom B (λs W=>Boxed W b t (f s)):=(boxed_own b t f).from B
theorem Aw {β:Type} (B:Nat) (b:β->Nat) (o:β->Obj) (ho:∀s,(o s).isCells=true):OwnFrom B (λs W=>W.heap[b s]? =some (o s)):=
 λs A C row hs hg hr=>(hg.block _ (Array.getElem?_eq_some_iff.1 hs).1 (λe=>by obtain⟨_,o',ho',hc⟩:=hr _ e.symm;rw[hs]at ho';injection ho' with ho';rw[<-ho',ho s]at hc;cases hc)).trans hs
theorem rX {β:Type} (B base:Nat) (e:TypeId) (size:Nat) (v:β->Value) (k:β->Nat) (xs:β->List Value):OwnFrom B (λs W=>W.ownsRow base e size (v s) (k s) (xs s)):=by
 intro s A C row hs hg hr;refine hs.kept hg ?_;rcases hs.2 with⟨h0,_⟩|⟨g,cap,cur,h0,_,hgb,_⟩
 · exact .inl (by rw[h0];rfl)
 · refine .inr λe'=> ?_;rw[h0]at e';obtain⟨_,o,ho,hc⟩:=hr g (by simpa[Value.ownBlock]using e'.symm);rw[hgb]at ho;cases ho;cases hc
end Tide
namespace Tide
open Go Go.RowKit
structure dw (B l:Nat) (W W':World):Prop where
 size:W.heap.size<=W'.heap.size
 same:∀ (k:Nat) (o:Obj),B<=k->k≠l->W.heap[k]? =some o->o.isCells=false->W'.heap[k]? =some o
theorem dw.trans {B l:Nat} {X Y Z:World} (h:dw B l X Y) (k:dw B l Y Z):dw B l X Z:=⟨Nat.le_trans h.size k.size,λi o hB hl hi ho=>k.same i o hB hl (h.same i o hB hl hi ho) ho⟩
theorem dw.jK {B l:Nat} {X Y:World} (h:KeepsFrom B X Y):dw B l X Y:=⟨h.size,λk o hB _ hk ho=>h.same k o hB hk ho⟩
theorem dw.putObj (B l:Nat) (W:World) (o:Obj):dw B l W (W.putObj l o):=⟨by simp[World.putObj],λk o' _ hl hk _=>(World.putObj_heap_other hl).trans hk⟩
def pw {α:Type} (F:Fence) (n:Nat) (P:Program) (g:Nat) (lb:Array Value) (encs:α->Array Value) (Kp:Nat->World->World->Prop) (L:List α) (w:World):Prop:=
 ∀ (l:Nat) (J Jx:List α->World->Prop) (W:World),Below w.heap.size w W->(w.heap.size<=l/\l < W.heap.size)->OwnFrom W.heap.size J->OwnFrom W.heap.size Jx->
   (∀pre x A,J pre A->Nx L pre x->YieldAt F (n - 1) P l (encs x) A λe B=>(e= .returned (.bool true)/\J (pre ++ [x]) B/\Kp l A B)\/(e= .returned (.bool false)/\Jx (pre ++ [x]) B/\dw w.heap.size l A B))->
   J [] W->CallsIn F n P g (#[.func (.yield l) #[] #[]] ++ lb) W λe W'=>(∃v,e= .returned v)/\(J L W'\/∃pre,Jx pre W')
variable {F:Fence} {n:Nat} {P:Program} {w:World}
theorem Bk {α:Type} {g:Operand} {ps:Array Tmp} {assign body:Code} {Q:Exit->Act->World->Prop} {a:Act}
 (hro:F.round=none) (h1:1<=n) {gf:Nat} {lb:Array Value} (hg:a.eval g= .func (.func gf) #[] lb) (hFg:F.fn gf) (eg:∀args w,(callFunc gf args).run P w= .ok (.enter gf args) w)
 {encs:α->Array Value} (hps:∀x,(encs x).size=ps.size) {Kp:Nat->World->World->Prop} {L:List α} (hseq:pw F (n - 1) P gf lb encs Kp L w)
 (hKt:∀ {l:Nat} {A B C:World},Kp l A B->Kp l B C->Kp l A C) (hKb:∀ (W:World) (l:Nat) (o o':Obj),w.heap.size<=l->W.heap[l]? =some o->o.isCells=false->Kp l W (W.putObj l o'))
 (I:List α->World->Prop) (Ix:Code->List α->World->Prop) (hI:OwnFrom w.heap.size I) (hIx:∀c,OwnFrom w.heap.size (Ix c)) (h0:I [] w)
 (Ax:α->Act->World->Prop) (hAx:∀x a',OwnFrom w.heap.size (λ(_:Unit) W=>Ax x a' W))
 (hassign:∀ (l:Nat) (pre:List α) (x:α) (W:World) (K:Act->World->Prop),I pre W->Nx L pre x->(∀a' W',KeepsFrom w.heap.size W W'->Kp (w.heap.size+1) W W'->I pre W'->Ax x a' W'->K a' W')->
   assign.wpIn (F.inRound l) (n - 1 - 1) P (Exit.then K (λ_ _ _=>False)) { tmps:=(ps.zip (encs x)).foldl (λt (p,v)=>t.setIfInBounds p v) a.tmps,defers:= [] } W)
 (hbody:∀ (l:Nat) (pre:List α) (x:α) (a':Act) (W:World),w.heap.size<=l->(∃r,W.heap[l]? =some (.loop r))->I pre W->Ax x a' W->Nx L pre x->body.wpIn (F.inRound l) (n - 1 - 1) P (ownPostG w.heap.size (Kp (w.heap.size+1)) I Ix (pre ++ [x]) W) a' W)
 (hdone:∀ (D:Nat) (W:World),w.heap.size<=D->I L W->W.heap[D]? =some (.deferred (some []))->Q .normal { a with defers:= { target:= .collected D,args:= #[] } :: a.defers } W)
 (hstop:∀ (D:Nat) (c:Code) (pre:List α) (W:World),w.heap.size<=D->Ix c pre W->W.heap[D]? =some (.deferred (some []))->c.wpIn F n P Q { a with defers:= { target:= .collected D,args:= #[] } :: a.defers } W):
 (Code.rangeFunc g ps assign body).wpIn F n P Q a w:=by
 refine wpIn_rangeFunc ?_;intro fn hfn;rw[hro];obtain⟨rec,hrec⟩:∃rec:LoopState->Option Code->Loop,rec=λst pe=> { state:=st,pending:=pe,fn,tmps:=a.tmps,params:=ps,assign,body,defers:=w.heap.size }:=⟨_,rfl⟩;obtain⟨W1,hW1⟩:=aa ((w.alloc (.deferred (some []))).alloc (.loop (rec .ready none)));have hL1:W1.heap[w.heap.size+1]? =some (.loop (rec .ready none)):=by rw[<-hW1];have:=World.alloc_heap_new (w.alloc (.deferred (some []))) (.loop (rec .ready none));rwa[World.size_alloc]at this
 have hK1:W1.heap[w.heap.size]? =some (.deferred (some [])):=by rw[<-hW1];exact(Below.heap_alloc _ _ _ (by simp)).trans (World.alloc_heap_new w _)
 have hI1:I [] W1:=by rw[<-hW1];exact hI.alloc _ (hI.alloc _ h0)
 have hb1:Below w.heap.size w W1:=by rw[<-hW1];exact(((Below.refl _ w).alloc (Nat.le_refl _) _).alloc (by simp) _)
 have hz1:W1.heap.size=w.heap.size+2:=by rw[<-hW1];simp
 refine⟨w.heap.size+1, [{ target:= .collected w.heap.size,args:= #[] }],W1,{ target:= .fn (.func gf) lb,args:= #[.func (.yield (w.heap.size+1)) #[] #[]] },W1,gf,
  #[.func (.yield (w.heap.size+1)) #[] #[]] ++ lb,W1,?_,?_,?_,?_,λ_=>h1,?_⟩
 · rw[<-hW1,hrec];exact run_enterLoop_outer _ _ _ _ _
 · simp only[resolve,hg];simp[go_sem]
 · intro f' hf';simp[Target.leads]at hf';subst hf';exact hFg
 · simp[invoke,go_sem,eg]
 · have an:∀ {A B:World} {row:Option Nat} {k:Nat} {o:Obj},A.grownBy B row->(∀r,row=some r->W1.heap.size<=r/\∃o:Obj,A.heap[r]? =some o/\o.isCells=false)->k < W1.heap.size->A.heap[k]? =some o->B.heap[k]? =some o:=λhg' hr hk ho=>(hg'.block _ (Array.getElem?_eq_some_iff.1 ho).1 (λe=>by have:=(hr _ e.symm).1;omega)).trans ho
   have hnw:∀ {A:World} {row:Option Nat},(∀r,row=some r->W1.heap.size<=r/\∃o:Obj,A.heap[r]? =some o/\o.isCells=false)->(∀r,row=some r->w.heap.size<=r/\∃o:Obj,A.heap[r]? =some o/\o.isCells=false):=
    λhr r e=>by obtain⟨hB,o,ho,hw⟩:=hr r e;exact⟨by omega,o,ho,hw⟩
   refine(hseq (w.heap.size+1)
    (λpre W=>I pre W/\W.heap[w.heap.size+1]? =some (.loop (rec .ready none))/\W.heap[w.heap.size]? =some (.deferred (some [])))
    (λpre W=>∃c,Ix c pre W/\W.heap[w.heap.size+1]? =some (.loop (rec .done (some c)))/\W.heap[w.heap.size]? =some (.deferred (some [])))
    W1 hb1 ⟨by omega,by omega⟩
    (λs A B row hs hg' hr=>⟨hI s A B row hs.1 hg' (hnw hr),an hg' hr (by omega) hs.2.1,an hg' hr (by omega) hs.2.2⟩)
    (λs A B row hs hg' hr=>by obtain⟨c,hc,hl,hk⟩:=hs;exact⟨c,hIx c s A B row hc hg' (hnw hr),an hg' hr (by omega) hl,an hg' hr (by omega) hk⟩)
    ?_ ⟨hI1,hL1,hK1⟩).mono ?_
   · -- one round
     rintro pre x W ⟨hi,hl,hk⟩ hN;have hlt:w.heap.size+1 < W.heap.size:=(Array.getElem?_eq_some_iff.1 hl).1;have hy:=run_yield (P:=P) (args:=encs x) hl (by rw[hrec];exact hps x);rw[hrec]at hy;refine⟨fn,_,assign,body,hy,roundIn_of_wpIn hfn (hassign _ pre x W _ hi hN ?_)⟩;clear hy;intro a' Wa hkfa hkpa hia hax;replace hl:=hkfa.same _ _ (by omega) hl rfl;replace hk:=hkfa.same _ _ (Nat.le_refl _) hk rfl;replace hlt:w.heap.size+1 < Wa.heap.size:=(Array.getElem?_eq_some_iff.1 hl).1;replace hi:=hia;clear hia;revert hkpa hkfa;generalize W=Wb;intro hkfa hkpa;obtain⟨W,rfl⟩:∃W,W=Wa:=⟨_,rfl⟩;refine⟨_,run_beginRound hl (by rw[hrec]),?_⟩;have hl2:(W.putObj (w.heap.size+1) (.loop { rec .ready none with state:= .busy })).heap[w.heap.size+1]? =some (.loop { rec .ready none with state:= .busy }):=World.putObj_heap_same hlt;have hk2:(W.putObj (w.heap.size+1) (.loop { rec .ready none with state:= .busy })).heap[w.heap.size]? =some (.deferred (some [])):=(World.putObj_heap_other (by omega)).trans hk;have hw2:Kp (w.heap.size+1) W (W.putObj (w.heap.size+1) (.loop { rec .ready none with state:= .busy })):=hKb _ _ _ _ (by omega) hl rfl;refine wpIn_mono (hbody _ pre x a' _ (by omega) ⟨_,hl2⟩ (hI.putObj _ hi (by omega) hl rfl) ((hAx x a').putObj (s:=()) _ hax (by omega) hl rfl) hN) ?_
     have fin:∀ (jump:Option Code) (W3:World),KeepsFrom w.heap.size (W.putObj (w.heap.size+1) (.loop { rec .ready none with state:= .busy })) W3->
      (Instr.endRound (w.heap.size+1) jump).run P W3= .ok (.bool jump.isNone) (W3.putObj (w.heap.size+1) (.loop (rec (if jump.isNone then .ready else .done) jump)))/\
      W3.heap[w.heap.size+1]? =some (.loop { rec .ready none with state:= .busy })/\
      (W3.putObj (w.heap.size+1) (.loop (rec (if jump.isNone then .ready else .done) jump))).heap[w.heap.size+1]? =some (.loop (rec (if jump.isNone then .ready else .done) jump))/\
      (W3.putObj (w.heap.size+1) (.loop (rec (if jump.isNone then .ready else .done) jump))).heap[w.heap.size]? =some (.deferred (some [])):=λjump W3 hk3=>by
      have hl3:=hk3.same _ _ (by omega) hl2 rfl;have:=run_endRound (P:=P) jump hl3;rw[hrec]at this ⊢;exact⟨this,by rw[hrec]at hl3;exact hl3,World.putObj_heap_same (Array.getElem?_eq_some_iff.1 hl3).1,(World.putObj_heap_other (by omega)).trans (hk3.same _ _ (Nat.le_refl _) hk2 rfl)⟩
     rintro e a3 W3 hp;cases e with
     | normal=>obtain⟨hk3,hkp3,hi3⟩:=hp;obtain⟨hr,hl3,hl4,hk4⟩:=fin none W3 hk3;exact⟨_,_,hr,.inl ⟨rfl,⟨hI.putObj _ hi3 (by omega) hl3 rfl,hl4,hk4⟩,hKt hkpa (hKt (hKt hw2 hkp3) (hKb _ _ _ _ (by omega) hl3 rfl))⟩⟩
     | ret=>obtain⟨hk3,hi3⟩:=hp;obtain⟨hr,hl3,hl4,hk4⟩:=fin (some .ret) W3 hk3;exact⟨_,_,hr,.inr ⟨rfl,⟨.ret,(hIx _).putObj _ hi3 (by omega) hl3 rfl,hl4,hk4⟩,(dw.jK hkfa).trans ((dw.putObj _ _ _ _).trans ((dw.jK hk3).trans (dw.putObj _ _ _ _)))⟩⟩
     | exit id=>obtain⟨hk3,hi3⟩:=hp;obtain⟨hr,hl3,hl4,hk4⟩:=fin (some (.exit id)) W3 hk3;exact⟨_,_,hr,.inr ⟨rfl,⟨.exit id,(hIx _).putObj _ hi3 (by omega) hl3 rfl,hl4,hk4⟩,(dw.jK hkfa).trans ((dw.putObj _ _ _ _).trans ((dw.jK hk3).trans (dw.putObj _ _ _ _)))⟩⟩
     | goto t=>obtain⟨hk3,hi3⟩:=hp;obtain⟨hr,hl3,hl4,hk4⟩:=fin (some (.goto t)) W3 hk3;exact⟨_,_,hr,.inr ⟨rfl,⟨.goto t,(hIx _).putObj _ hi3 (by omega) hl3 rfl,hl4,hk4⟩,(dw.jK hkfa).trans ((dw.putObj _ _ _ _).trans ((dw.jK hk3).trans (dw.putObj _ _ _ _)))⟩⟩
     | panic ch=>exact hp.elim
     | outgrown=>exact hp.elim
   · rintro e W2 ⟨⟨v,rfl⟩,(⟨hi,hl,hk⟩|⟨pre,c,hi,hl,hk⟩)⟩
     · exact⟨none,_,by have:=run_endLoop (P:=P) hl (by rw[hrec];simp);rw[hrec]at this;exact this,hdone _ _ (Nat.le_refl _) (hI.putObj _ hi (by omega) hl rfl) ((World.putObj_heap_other (by omega)).trans hk)⟩
     · exact⟨some c,_,by have:=run_endLoop (P:=P) hl (by rw[hrec];simp);rw[hrec]at this;exact this,hstop _ c pre _ (Nat.le_refl _) ((hIx c).putObj _ hi (by omega) hl rfl) ((World.putObj_heap_other (by omega)).trans hk)⟩
theorem RoundIn.deep {m m' l l₀:Nat} {f:FuncId} {tmps:Array Value} {assign body:Code} {W:World} {R:Ending->World->Prop} (h:RoundIn Fence.wide m P l f tmps assign body W R):RoundIn (Fence.wide.inRound l₀) m' P l f tmps assign body W R:=
 ⟨h.1,λc cs _=>h.2 c cs (λd hd=>by cases hd)⟩
theorem lG {B:Nat} {W W':World} (h:Below W.heap.size W W'):KeepsFrom B W W':=⟨h.size,λk _ _ hk _=>(h.block k (Array.getElem?_eq_some_iff.1 hk).1).trans hk⟩
end Tide
namespace Tide
open Go Go.RowKit
variable {P:Program} {md:Region.Mode} {ops:Array Oper} {Q:Exit->Act->World->Prop}
theorem zY {l n:Nat} {o:Oper} {a:Act} {w:World} {K K':Act->World->Prop} (hd:∀c,o.op≠ .defer c) (hK:∀a w,K a w->K' a w) (h:o.wp P a w K Q):o.wpIn (Fence.wide.inRound l) n P a w K' Q:=by
 refine⟨λ_ _=>trivial,?_⟩;rw[Oper.semAt_eq _ _ _ hd];unfold Oper.wp at h;revert h;cases(execOp a.eval o).run P w with
 | ok v w'=>
   cases v with
   | value v=>exact λh=>hK _ _ h
   | skip=>exact λh=>hK _ _ h
   | defer d=>exact λh=>hK _ _ h
   | enter f args=>
     intro h;refine⟨(λh=>by cases h),CallsIn.inRound l ((callsIn_wide.2 (show Calls P f args w' _ from h)).mono ?_)⟩;rintro e w'' he;cases e with
     | returned v=>exact hK _ _ he
     | panicked c=>exact he
     | outgrown=>exact he
   | row row args=>intro h;refine⟨(λh=>by cases h),λc cs _=> ?_⟩;obtain⟨v,w'',r,s⟩:=(show Rows P row args w' _ from h) c cs;exact⟨v,w'',hK _ _ r,stepsIn_wide.2 s⟩
   | _=>exact λh=>h.elim
 | halt h w'=>
   cases h with
   | panic v=>exact λh=>h
   | _=>exact λh=>h.elim
theorem mJ {l n:Nat} (hd:∀ (i:Nat) (o:Oper),ops[i]? =some o->∀c,o.op≠ .defer c) (hQ:¬LetsOut Q):∀ (fuel:Nat) (listed:Array Bool) (a:Act) (w:World),wpAny P md ops Q fuel listed a w->wpAnyIn (Fence.wide.inRound l) n P md ops Q fuel listed a w
 | 0,_,_,_,h=>h
 | fuel+1,listed,a,w,h=>by
   refine⟨h.1,λi hi=> ?_⟩;have h2:=h.2 i hi;have ih:=mJ (l:=l) (n:=n) hd hQ fuel (listed.setIfInBounds i true);unfold wpOp at h2;unfold wpOpIn;cases ho:ops[i]? with
   | none=>rw[ho]at h2;exact ih _ _ h2
   | some o=>
     rw[ho]at h2;dsimp only at h2 ⊢;split
     · rename_i hw;rw[if_pos hw]at h2;rcases h2 with h2|h2
       · exact zY (hd i o ho) ih h2
       · exact absurd h2.2 hQ
     · rename_i hw;rw[if_neg hw]at h2;exact⟨λ_ _=>trivial,ih _ _ h2⟩
end Tide
