import Derived.Test.YtdilnodbfnlhdaaGreatDoorGSgA
import Derived.Test.YtdilnodbfnlhdaaGreatDoorGConv
import Derived.Test.YtdilnodbfnlhdaaGreatDoorGMem
import Derived.Test.YtdilnodbfnlhdaaGreatDoorGKeep
import Derived.Test.YtdilnodbfnlhdaaGreatDoorGApp
import Derived.WalkKit
import Derived.WalkSpells
import Derived.IntWalk
import Derived.Deep.RegionHeld
namespace Tide
open Go Go.RowKit
variable {P:Program} {ops:Array Oper} {Q:Exit->Act->World->Prop} {md:Region.Mode} {T:World->Prop} {st:Nat}
def eI (P:Program) (md:Region.Mode) (ops:Array Oper) (Q:Exit->Act->World->Prop) (T:World->Prop) (st:Nat):Nat->Array Bool->Act->World->Prop
 | 0,l,a,w=>Region.ready md ops l= []/\Q .normal a w
 | f+1,l,a,w=>(Region.ready md ops l= []->Q .normal a w)/\
    ∀i ∈ Region.ready md ops l,wpOp P ops Q i (λa' w'=>(i≠st->l.getD st true=false->T w')/\eI P md ops Q T st f (l.setIfInBounds i true) a' w') a w
theorem pC:∀ (f:Nat) (l:Array Bool) (a:Act) (w:World),eI P md ops Q T st f l a w->wpAny P md ops Q f l a w
 | 0,_,_,_,h=>h
 | f+1,_,_,_,h=>⟨h.1,λi hi=>wpOp_mono (λa' w' h'=>pC f _ a' w' h'.2) (h.2 i hi)⟩
theorem uG {i:Nat} {oi:Oper} {v:Value} (hi:ops[i]? =some oi) (hsel:∀ (j:Nat) (o:Oper) cs b,ops[j]? =some o->o.op≠ .select cs b)
 (hQ:∀c a w,Q (.panic c) (a.put oi.dst v) w->Q (.panic c) a w) (his:i≠st) (hst:∃o,ops[st]? =some o/\∃e ∈ o.after,Region.binds md e=true/\e.on=i):
 ∀ (f:Nat) (l:Array Bool) (a:Act) (w:World),
   (∀j oj,ops[j]? =some oj->j≠i->l.getD j true=false->(∀e ∈ oj.after,Region.binds md e=true->e.on≠i)->oi.apart ops oj=true)->
   i ∈ Region.ready md ops l->YieldsIf P ops T oi v a->T w->l.getD st true=false->
   eI P md ops Q T st f (l.setIfInBounds i true) (a.put oi.dst v) w->eI P md ops Q T st (f+1) l a w:=by
 intro f
 induction f with
 | zero=>
   intro l a w _ hr hy hT hl H;refine⟨λh=>(by rw[h]at hr;cases hr),λj hj=> ?_⟩;by_cases hji:j=i
   · subst hji;exact hy.wpOp hi hT ⟨λ_ _=>hT,H⟩
   · have:=ready_mono hj hji;rw[H.1]at this;cases this
 | succ f ih=>
   intro l a w hfree hr hy hT hl H;refine⟨λh=>(by rw[h]at hr;cases hr),λj hj=> ?_⟩;by_cases hji:j=i
   · subst hji;exact hy.wpOp hi hT ⟨λ_ _=>hT,H⟩
   have hni:l.getD i false=false:=by
    have h0:=(mem_ready.1 hr).1;rcases Nat.lt_or_ge i l.size with h'|h'
    · simp[h']at h0 ⊢;exact h0
    · simp[Array.getElem?_eq_none h']at h0
   have hjs:j≠st:=λe=>by subst e;obtain⟨o,ho,e,he,hb,hon⟩:=hst;obtain⟨_,o',ho',hall⟩:=mem_ready.1 hj;rw[ho]at ho';injection ho' with ho';subst ho';have:=hall e he hb;rw[hon,hni]at this;cases this
   have h1:=H.2 j (ready_mono hj hji);obtain⟨hjun,oj,hoj,hall⟩:=mem_ready.1 hj;have hnot:∀e ∈ oj.after,Region.binds md e=true->e.on≠i:=λe he hb heq=>by have h1:=hall e he hb;rw[heq,hni]at h1;cases h1
   refine wpOp_mono (λa' w' h3=> ?_) (wpOp_putIf hoj (hfree j oj hoj hji hjun hnot) (λcs b=>hsel i oi cs b hi) (λcs b=>hsel j oj cs b hoj) hQ hy h1);obtain⟨hy',hT',h4⟩:=h3;have hT2:=hT' hjs (by rw[getD_set_ne true his];exact hl);refine⟨λ_ _=>hT2,ih (l.setIfInBounds j true) a' w' (λk ok hk hki hun hno=>hfree k ok hk hki ?_ hno) (ready_mono hr (Ne.symm hji)) hy' hT2 (by rw[getD_set_ne true hjs];exact hl) ?_⟩
   · by_cases hjk:j=k
     · subst hjk;exact hjun
     · rw[getD_set_ne true hjk]at hun;exact hun
   · rw[Array.setIfInBounds_comm _ _ hji];exact h4
theorem gZ (i d:Nat) {oi:Oper} {v:Value} {f:Nat} {l:Array Bool} {tm:Array Value} {D:List Deferred} {w:World} (hi:ops[i]? =some oi) (hd:oi.dst=some d)
 (hs:Region.noSelect ops=true) (hf:Region.free md ops l i=true) (hr:(Region.ready md ops l).contains i=true)
 (hQ:∀c a w,Q (.panic c) (a.put oi.dst v) w->Q (.panic c) a w) (hy:Yields P ops oi v ⟨tm,D⟩)
 (h:wpAny P md ops Q f (l.setIfInBounds i true) ⟨tm.setIfInBounds d v,D⟩ w):wpAny P md ops Q (f+1) l ⟨tm,D⟩ w:=by
 refine wpAny_take hi hs hf hr hQ hy ?_;rw[hd];exact h
theorem tA (i d:Nat) {oi:Oper} {v:Value} {f:Nat} {l:Array Bool} {tm:Array Value} {D:List Deferred} {w:World} (hi:ops[i]? =some oi) (hd:oi.dst=some d)
 (hs:Region.noSelect ops=true) (hf:Region.free md ops l i=true) (hr:(Region.ready md ops l).contains i=true) (his:i≠st)
 (hst:((ops[st]?).map λo=>o.after.any λe=>Region.binds md e && e.on == i)=some true)
 (hQ:∀c a w,Q (.panic c) (a.put oi.dst v) w->Q (.panic c) a w) (hy:YieldsIf P ops T oi v ⟨tm,D⟩) (hT:T w) (hl:l.getD st true=false)
 (h:eI P md ops Q T st f (l.setIfInBounds i true) ⟨tm.setIfInBounds d v,D⟩ w):eI P md ops Q T st (f+1) l ⟨tm,D⟩ w:=by
 refine uG hi (Region.noSelect_spec hs) hQ his ?_ f l _ w (Region.free_spec hi hf) (by simpa using hr) hy hT hl (by rw[hd];exact h);cases ho:ops[st]? with
 | none=>rw[ho]at hst;cases hst
 | some o=>rw[ho]at hst;simp only[Option.map_some,Option.some.injEq]at hst;obtain⟨e,he,hb⟩:=Array.any_eq_true'.1 hst;simp only[Bool.and_eq_true,beq_iff_eq]at hb;exact⟨o,rfl,e,he,hb.1,hb.2⟩
def dG (P:Program) (md:Region.Mode) (ops:Array Oper) (Q:Exit->Act->World->Prop) (T:World->Prop) (st f:Nat) (l:Array Bool) (a:Act) (w:World) (rs:List Nat):Prop:=
 ∀i ∈ rs,wpOp P ops Q i (λa' w'=>(i≠st->l.getD st true=false->T w')/\eI P md ops Q T st f (l.setIfInBounds i true) a' w') a w
theorem dG.nil {f:Nat} {l:Array Bool} {a:Act} {w:World}:dG P md ops Q T st f l a w []:=λ_ h=>by cases h
theorem dG.cons {f:Nat} {l:Array Bool} {a:Act} {w:World} {i:Nat} {o:Oper} {rs:List Nat} (ho:ops[i]? =some o)
 (h:∀K':Act->World->Prop,Shut (∀a w,T w->eI P md ops Q T st f (l.setIfInBounds i true) a w->K' a w)->if Region.wanted o (yielded ops a.tmps)=true then Oper.wp P o a w K' Q else K' (a.put o.dst undef) w)
 (hs:dG P md ops Q T st f l a w rs):dG P md ops Q T st f l a w (i :: rs):=λj hj=>by
 rcases List.mem_cons.1 hj with rfl|hj
 · exact wpOp_step ho (λK' hK=>h K' (λa w hT hW=>hK a w ⟨λ_ _=>hT,hW⟩))
 · exact hs j hj
theorem ja {rs:List Nat} {f:Nat} {l:Array Bool} {a:Act} {w:World} (hr:Region.ready md ops l=rs) (hne:rs≠ []) (h:dG P md ops Q T st f l a w rs):eI P md ops Q T st (f+1) l a w:=
 ⟨λh0=>absurd (hr ▸ h0) hne,hr ▸ h⟩
theorem py:∀ (f:Nat) (l:Array Bool) (a:Act) (w:World),l.getD st true=true->wpAny P md ops Q f l a w->eI P md ops Q T st f l a w
 | 0,_,_,_,_,h=>h
 | f+1,l,_,_,hl,h=>⟨h.1,λi hi=>wpOp_mono (λa' w' h'=>⟨λ_ e=>(by rw[hl]at e;cases e),py f _ a' w' (by
    by_cases e:i=st
    · subst e;rcases Nat.lt_or_ge i l.size with h2|h2
      · simp[h2]
      · simp[h2]
    · rw[getD_set_ne true e];exact hl) h'⟩) (h.2 i hi)⟩
theorem storeT {f:Nat} {l:Array Bool} {a:Act} {w:World} {o:Oper} (hr:Region.ready md ops l= [st]) (ho:ops[st]? =some o)
 (h:∀K':Act->World->Prop,Shut (∀a w,wpAny P md ops Q f (l.setIfInBounds st true) a w->K' a w)->if Region.wanted o (yielded ops a.tmps)=true then Oper.wp P o a w K' Q else K' (a.put o.dst undef) w):eI P md ops Q T st (f+1) l a w:=
 ⟨λh0=>absurd (hr ▸ h0) (by simp),λi hi=>by
   rw[hr]at hi;obtain rfl:i=st:=by simpa using hi
   exact wpOp_step ho (λK' hK=>h K' (λa w hW=>hK a w ⟨λh=>absurd rfl h,py f _ a w (by
    rcases Nat.lt_or_ge i l.size with h2|h2
    · simp[h2]
    · simp[h2]) hW⟩))⟩
end Tide
namespace Go.Proofs.YtdilnodbfnlhdaaGreatDoor
open Go Go.RowKit Tide
section
variable {w5 W W':World} {R Z:Nat->Prop} {xa xp xi:Value} {la lp li:List Value} {nb:List (Value × List UInt8)} {sm:List (Nat × Value)} {em:List Nat}
theorem pP {g:Nat} {x:Value} (h:W.cell? ⟨g,0,none⟩=some x):∀j u,([x]:List Value)[j]? =some u->W.cell? ((⟨g,0,none⟩:Addr).add j)=some u:=λj u hu=>by
 have hj:j=0:=by have:=(List.getElem?_eq_some_iff.1 hu).1;simpa using this
 subst hj;simp at hu;subst hu;exact h
section
variable {ops:Array Oper} {o:Oper} {a:Act} {K:Act->World->Prop} {Q:Exit->Act->World->Prop} {E:Prop}
end
end
section
variable {W W':World} {F S:Nat->Prop} {q p:Nat} {va vp vi xa xp xi:Value} {rs:List Value} {u:av}
end
end Go.Proofs.YtdilnodbfnlhdaaGreatDoor
