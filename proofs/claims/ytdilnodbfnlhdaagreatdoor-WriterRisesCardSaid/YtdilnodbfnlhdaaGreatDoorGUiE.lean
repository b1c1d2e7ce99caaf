import Derived.Test.YtdilnodbfnlhdaaGreatDoorGSsX
import Derived.Test.YtdilnodbfnlhdaaGreatDoorGMem
import Derived.Test.YtdilnodbfnlhdaaGreatDoorGUiR
import Derived.Test.YtdilnodbfnlhdaaGreatDoorGErr
import Derived.Test.YtdilnodbfnlhdaaGreatDoorGKeep
import Derived.Deep.RegionLaw
import Derived.Maps.OwnOps
import Derived.Maps.OwnSet
import Derived.Maps.RangeWalk
import Derived.WalkKit
import Derived.WalkSpells
set_option maxRecDepth 100000
set_option maxHeartbeats 4000000
namespace Go.Proofs.YtdilnodbfnlhdaaGreatDoor
open Go Go.RowKit Tide
open Go.Maps (Keyed IsMap)
def fV (v:Value):Option (DataW Unit × List MemPlace):=match v with
 | .agg xs=>match xs.toList with
   | [.string s,.int .i64 g]=>some (.agg [.lit (.string s.data.toList),.lit (.int .i64 g)], [])
   | _=>none
 | _=>none
abbrev gU (s:ByteArray) (g:Int):Value:= .agg #[.string s,.int .i64 g]
theorem n7 (s:ByteArray) (g:Int):fV (gU s g)=some (.agg [.lit (.string s.data.toList),.lit (.int .i64 g)], []):=rfl
theorem lV {v:Value} {y:DataW Unit × List MemPlace} (h:fV v=some y):∃s g,v=gU s g/\y=(.agg [.lit (.string s.data.toList),.lit (.int .i64 g)], []):=by
 unfold fV at h;split at h
 · rename_i xs;split at h
   · rename_i s g e;injection h with h;exact⟨s,g,by rw[<-Array.toArray_toList (xs:=xs),e],h.symm⟩
   · cases h
 · cases h
def pd (p:bE):DataW Unit:= .agg [.lit (.string p.bs),.lit (.int .i64 (p.cF:Int))]
theorem oc {s:ByteArray} {g:Int} {p:bE} (h:(DataW.agg [.lit (.string s.data.toList),.lit (.int .i64 g)]:DataW Unit)=pd p):s=⟨p.bs.toArray⟩/\g=(p.cF:Int):=by unfold pd at h;injection h with h;injection h with h1 h2;injection h1 with h1;injection h1 with h1;injection h2 with h2 _;injection h2 with h2;injection h2 with _ h2;refine⟨?_,h2⟩;rw[<-h1]
theorem jH:Keyed Tryz.prog 3:=Maps.int_keyed Tryz.underlying3
theorem uj (w:World):(zeroValue 233).run Tryz.prog w= .ok (gU ⟨#[]⟩ 0) w:=by kernel_rfl
abbrev bD (a:Int):Lit:= .int .i64 a
theorem lI (a:Int) (h0: -9223372036854775808<=a) (h1:a<=9223372036854775807):keyOf Tryz.prog 3 (.int .i64 a)=some (bD a):=
 Maps.keyOf_int_mk Tryz.underlying3 (by first|exact WalkArith.wf_i64 (by omega)|(unfold Lit.wf;simp;omega))
theorem lH {a b:Int} (h:a≠b):bD a≠bD b:=λe=>h (by injection e)
theorem nJ (a:Int):WideAt.IsKeyLit (bD a):=trivial
structure fZ (D:DataW Unit) (ps:List bE):Prop where
 tidy:Maps.Tidy D
 size:Maps.size D=ps.length
 has:∀a:Int,Maps.has D (bD a)=ps.any λp=>(p.af:Int) == a
 at':∀p ∈ ps,∀z,D.atKey (bD p.af) z=pd p
theorem pB {ps:List bE} {a:Int} (h:(ps.any λp=>(p.af:Int) == a)=true):∃p ∈ ps,(p.af:Int)=a:=by obtain⟨p,hp,he⟩:=List.any_eq_true.1 h;exact⟨p,hp,by simpa using he⟩
theorem any_none {ps:List bE} {a:Int} (h:(ps.any λp=>(p.af:Int) == a)=false):∀p ∈ ps,(p.af:Int)≠a:=λp hp e=>by have:=List.any_eq_false.1 h p hp;simp at this;exact this e
theorem fZ.nil:fZ (.map []) []:=⟨Maps.tidy_empty,rfl,λ_=>rfl,λp hp=>by cases hp⟩
theorem fZ.put {D:DataW Unit} {ps:List bE} (h:fZ D ps) (p:bE) (hp:(ps.any λq=>(q.af:Int) == (p.af:Int))=false):fZ (D.put (bD p.af) (pd p)) (ps ++ [p]):=by
 have hh:Maps.has D (bD p.af)=false:=by rw[h.has];exact hp
 refine⟨h.tidy.put (nJ _) _,?_,λa=> ?_,λq hq z=> ?_⟩
 · rw[Maps.size_put h.tidy,hh,if_neg (by simp),h.size,List.length_append];rfl
 · by_cases e:(p.af:Int)=a
   · subst e;rw[Maps.has_put_same h.tidy.isMap (nJ _),List.any_append];simp
   · rw[Maps.has_put_other (lH (Ne.symm e)),h.has,List.any_append];simp[e]
 · rcases List.mem_append.1 hq with hq|hq
   · have hne:=any_none hp q hq;rw[Maps.atKey_put_other (lH hne)];exact h.at' q hq z
   · simp at hq;subst hq;exact Maps.atKey_put_same h.tidy.isMap (nJ _) _ _
theorem fZ.del {D:DataW Unit} {ps:List bE} (h:fZ D ps) (hn:(ps.map bE.af).Nodup) (a:Int):fZ (D.del (bD a)) (ps.filter λp=> !((p.af:Int) == a)):=by
 refine⟨h.tidy.del _,?_,λb=> ?_,λq hq z=> ?_⟩
 · have h1:=Maps.size_del h.tidy (k:=bD a);rw[h.has,h.size]at h1;have h2:∀l:List bE,(l.map bE.af).Nodup->(l.filter λp=> !((p.af:Int) == a)).length+(if(l.any λp=>(p.af:Int) == a)=true then 1 else 0)=l.length:=by
    intro l
    induction l with
    | nil=>intro _;rfl
    | cons p l ih=>
      intro hl;rw[List.map_cons,List.nodup_cons]at hl;have:=ih hl.2;by_cases e:(p.af:Int)=a
      · have h3:(l.any λp=>(p.af:Int) == a)=false:=by
         rw[List.any_eq_false];intro q hq hqa;have hqa:(q.af:Int)=a:=by simpa using hqa
         exact hl.1 (List.mem_map.2 ⟨q,hq,by omega⟩)
        rw[h3]at this;simp[e]at this ⊢;omega
      · simp[e]at this ⊢;omega
   have:=h2 ps hn;omega
 · by_cases e:b=a
   · subst e;rw[Maps.has_del_same,Eq.comm,List.any_eq_false];intro p hp he;have:=(List.mem_filter.1 hp).2;rw[he]at this;cases this
   · rw[Maps.has_del_other (lH e),h.has,List.any_filter]
     congr 1
     funext p;by_cases e2:(p.af:Int)=b
     · have:¬(p.af:Int)=a:=by omega
       simp[e2,e]
     · simp[e2]
 · have h1:=List.mem_filter.1 hq;have h2:¬(q.af:Int)=a:=by simpa using h1.2
   rw[Maps.atKey_del_other (lH h2)];exact h.at' q h1.1 z
def eG (W:World) (b:Nat) (ps:List bE):Prop:=∃D,W.ownsMap Tryz.prog 3 fV b (Maps.size D) D/\fZ D ps
section
variable {W W':World} {b:Nat} {ps:List bE}
theorem nY {n:Nat} {D:DataW Unit} (h:W.ownsMap Tryz.prog 3 fV b n D):W.ownsMap Tryz.prog 3 fV b (Maps.size D) D:=by obtain⟨es,clock,h1,h2,_,rfl⟩:=h;exact⟨es,clock,h1,h2,by rw[Maps.size_eq,length_read];exact Nat.le_refl _,rfl⟩
theorem eG.lt (h:eG W b ps):b < W.heap.size:=by obtain⟨D,h1,_⟩:=h;exact h1.lt
theorem eG.kept {F:Nat->Prop} (h:eG W b ps) (hk:Kept F W W') (hF:¬F b):eG W' b ps:=by obtain⟨D,⟨es,clock,h1,h2⟩,h3⟩:=h;exact⟨D,⟨es,clock,hk.heap h1 hF,h2⟩,h3⟩
theorem eG.below (h:eG W b ps) (hb:Below W.heap.size W W'):eG W' b ps:=h.kept (F:=λ_=>False) (Kept.al hb) (λh=>h)
theorem tJ (h:W.mapTurned W' b):Kept (λk=>k=b) W W':=(Kept.refl _ _).grown h.grown (λk hk=> .inl (by injection hk with hk;exact hk.symm))
end
section
variable (w:World) {ops:Array Oper} {rest:List Oper} {o:Oper} {a:Act} {Q:Exit->Act->World->Prop}
theorem EL {b:Nat} {ps:List bE} (hown:eG w b ps) (hg:o.guard=none) (m x:Operand) (hop:o.op=Op.lookup 138 m x true) (hm:a.eval m= .map (some b)) (k:Int) (hx:a.eval x= .int .i64 k) (h0: -9223372036854775808<=k) (h1:k<=9223372036854775807)
 (hK:∀s g,(∀p ∈ ps,(p.af:Int)=k->s=⟨p.bs.toArray⟩/\g=(p.cF:Int))->wpList Tryz.prog ops Q rest (a.put o.dst (.tuple #[gU s g,.bool (ps.any λp=>(p.af:Int) == k)])) w):wpList Tryz.prog ops Q (o :: rest) a w:=by
 obtain⟨D,h2,h3⟩:=hown;refine wpList_lookup_own_ok w hg m x _ hop 3 233 jH Tryz.underlying138 fV (uj w) _ [] (n7 _ _) b _ D hm h2 _ _ hx (lI k h0 h1) (λv q hv=> ?_);obtain⟨s,g,rfl,hy⟩:=lV hv;rw[h3.has];refine hK s g (λp hp he=> ?_);have h4:=h3.at' p hp (.agg [.lit (.string (⟨#[]⟩:ByteArray).data.toList),.lit (.int .i64 0)]);rw[he]at h4;injection hy with hy _;exact oc (hy.symm.trans h4)
theorem EK {b:Nat} {ps:List bE} (hown:eG w b ps) (hg:o.guard=none) (m x:Operand) (hop:o.op=Op.lookup 138 m x false) (hm:a.eval m= .map (some b)) (k:Int) (hx:a.eval x= .int .i64 k) (h0: -9223372036854775808<=k) (h1:k<=9223372036854775807)
 (hK:∀s g,(∀p ∈ ps,(p.af:Int)=k->s=⟨p.bs.toArray⟩/\g=(p.cF:Int))->wpList Tryz.prog ops Q rest (a.put o.dst (gU s g)) w):wpList Tryz.prog ops Q (o :: rest) a w:=by
 obtain⟨D,h2,h3⟩:=hown;refine wpList_plain hg λK' hK'=> ?_;obtain⟨v,q,hrun,hv⟩:=h2.lookup jH Tryz.underlying138 (uj w) (n7 _ _) (lI k h0 h1);obtain⟨s,g,rfl,hy⟩:=lV hv;unfold Oper.wp;simp[execOp,hop,hm,hx,hrun,Result.andThen];refine hK' _ _ (hK s g (λp hp he=> ?_));have h4:=h3.at' p hp (.agg [.lit (.string (⟨#[]⟩:ByteArray).data.toList),.lit (.int .i64 0)]);rw[he]at h4;injection hy with hy _;exact oc (hy.symm.trans h4)
end
def fy (W:World) (b r:Nat) (ps:List bE) (left:Lit->Bool) (cnt:Nat):Prop:=∃n D,W.ranges Tryz.prog 3 fV b r n D left cnt/\fZ D ps
section
variable {W W':World} {b r cnt:Nat} {ps:List bE} {left:Lit->Bool}
theorem fy.map (h:fy W b r ps left cnt):eG W b ps:=by obtain⟨n,D,h1,h2⟩:=h;exact⟨D,nY h1.owns,h2⟩
theorem fy.left_eq (h:fy W b r ps left cnt):W.rangeLeft b r=cnt:=by obtain⟨n,D,h1,h2⟩:=h;exact h1.left_eq
theorem xM {row:Option Nat} {F:Nat->Prop} (h:W.grownBy W' row) (hF:∀k,row=some k->F k):Kept F W W':=(Kept.refl _ _).grown h (λk hk=> .inl (hF k hk))
end
section
variable (w:World) {ops:Array Oper} {rest:List Oper} {o:Oper} {a:Act} {Q:Exit->Act->World->Prop}
theorem EM {b:Nat} {ps:List bE} (hown:eG w b ps) (hg:o.guard=none) (m:Operand) (hop:o.op=Op.range 138 m) (hm:a.eval m= .map (some b))
 (hK:∀w' left cnt,fy w' b w.heap.size ps left cnt->(∀k:Int,left (bD k)=ps.any λp=>(p.af:Int) == k)->Below w.heap.size w w'->w'.heap.size=w.heap.size+1->wpList Tryz.prog ops Q rest (a.put o.dst (.pointer (some ⟨w.heap.size,0,none⟩))) w'):wpList Tryz.prog ops Q (o :: rest) a w:=by
 obtain⟨D,h2,h3⟩:=hown;exact wpList_range_own w hg m _ hop 3 233 jH Tryz.underlying138 fV b _ D hm h2 (λw' h4 h5 h6=>hK w' _ _ ⟨_,D,h4,h3⟩ h3.has ⟨h5.os,h5.tape,h5.output,h5.size,λi hi=>h5.block i hi (by simp)⟩ h6)
theorem EJ {b r cnt:Nat} {ps:List bE} {left:Lit->Bool} (h:fy w b r ps left cnt) (hg:o.guard=none) (it:Operand) (hop:o.op=Op.next it false) (hit:a.eval it= .pointer (some ⟨r,0,none⟩))
 (hDone:(∀kl,left kl=false)->wpList Tryz.prog ops Q rest (a.put o.dst (.tuple #[.bool false])) w)
 (hMore:∀ (p:bE) (w':World) (cnt':Nat),p ∈ ps->left (bD p.af)=true->fy w' b r ps (λz=>left z && !z.sameKey (bD p.af)) cnt'->cnt' < cnt->Kept (λk=>k=r) w w'->w'.heap.size=w.heap.size->
   (Instr.entry (.pointer (some ⟨r,0,none⟩))).run Tryz.prog w'= .ok (.tuple #[.int .i64 (p.af:Int),gU ⟨p.bs.toArray⟩ (p.cF:Int)]) w'->wpList Tryz.prog ops Q rest (a.put o.dst (.tuple #[.bool true,.int .i64 (p.af:Int),gU ⟨p.bs.toArray⟩ (p.cF:Int)])) w'):
 wpList Tryz.prog ops Q (o :: rest) a w:=by
 obtain⟨n,D,h2,h3⟩:=h
 refine wpList_next_ranges w hg it hop 3 jH fV (Value.int .i64) (λc:ByteArray × Int=>gU c.1 c.2) (λkey kl hkey=>by obtain⟨x,rfl,_⟩:=Maps.keyOf_int_inv Tryz.underlying3 hkey;exact⟨x,rfl⟩) (λv y hv=>by obtain⟨s,g,rfl,_⟩:=lV hv;exact⟨(s,g),rfl⟩)
  b r n D left cnt hit h2 (λ_ hl=>hDone hl) (λx c kl y w' cnt' hkey hl hv hat hrg hlt hgr hsz hen=> ?_)
 obtain⟨x',ex,rfl,_⟩:=Maps.keyOf_int_inv Tryz.underlying3 hkey;cases ex;obtain⟨p,hp,he⟩:=pB ((h3.has x).symm.trans (Maps.has_true_of_atKey hat));subst he;obtain⟨s,g,ev,hy⟩:=lV hv;obtain⟨cs,cg⟩:=c;injection ev with ev;have e1:cs=s/\cg=g:=by have:=congrArg Array.toList ev;simp at this;exact this
 obtain⟨rfl,rfl⟩:=e1;have h4:=(hat (.agg [])).symm.trans (h3.at' p hp (.agg []));rw[hy]at h4;obtain⟨rfl,rfl⟩:=oc h4;exact hMore p w' cnt' hp hl ⟨n,D,hrg,h3⟩ hlt (xM (F:=λk=>k=r) hgr (λk hk=>(Option.some.inj hk).symm)) hsz hen
theorem EI {b r cnt:Nat} {ps:List bE} {left:Lit->Bool} (h:fy w b r ps left cnt) (hn:(ps.map bE.af).Nodup) (hg:o.guard=none) (m x:Operand) (hop:o.op=Op.call { callee:=Callee.builtin Builtin.delete,args:= #[m,x],argTypes:= #[138,3] })
 (hm:a.eval m= .map (some b)) (k:Int) (hx:a.eval x= .int .i64 k) (h0: -9223372036854775808<=k) (h1:k<=9223372036854775807)
 (hK:∀w' cnt',fy w' b r (ps.filter λp=> !((p.af:Int) == k)) (λz=>left z && !z.sameKey (bD k)) cnt'->cnt'<=cnt->Kept (λj=>j=b) w w'->wpList Tryz.prog ops Q rest (a.put o.dst (.tuple #[])) w'):wpList Tryz.prog ops Q (o :: rest) a w:=by
 obtain⟨n,D,h2,h3⟩:=h;exact wpList_delete_ranges w hg m x 138 3 hop 233 jH Tryz.underlying138 fV b r n D left cnt hm h2 _ _ hx (lI k h0 h1) (λw' cnt' h4 h5 h6=>hK w' cnt' ⟨n,_,h4,h3.del hn k⟩ h5 (tJ h6))
end
end Go.Proofs.YtdilnodbfnlhdaaGreatDoor
namespace Go.Proofs.YtdilnodbfnlhdaaGreatDoor
open Go Go.RowKit Tide
structure bK (W:World) (g p bm:Nat) (s:aT):Prop where
 cells:W.heap[g]? =some (.cells #[.pointer (some ⟨p,0,none⟩),.map (some bm),.int .i64 (s.trimmed:Int),.int .i64 (s.aF:Int)] 140)
 map:eG W bm s.aU
structure fJ (s:aT):Prop where
 trimmed:s.trimmed<=4096
 aF:s.aF<=1073741824
 jq:∀q ∈ s.aU,q.af<=4095
 ag:∀q ∈ s.aU,q.cF<=100000
 once:(s.aU.map bE.af).Nodup
section
variable {W W':World} {g p bm:Nat} {s:aT}
theorem bK.lt (h:bK W g p bm s):g < W.heap.size:=by
 rcases Nat.lt_or_ge g W.heap.size with hlt|hge
 · exact hlt
 · have:=h.cells;rw[Array.getElem?_eq_none hge]at this;cases this
theorem bK.ne (h:bK W g p bm s):g≠bm:=λe=>by obtain⟨D,⟨es,clock,h1,_⟩,_⟩:=h.map;have:=h.cells;rw[e,h1]at this;cases this
theorem bK.facts (h:bK W g p bm s):g < W.heap.size/\W.cell? ⟨g,0,none⟩=some (.pointer (some ⟨p,0,none⟩))/\W.cell? ⟨g,1,none⟩=some (.map (some bm))/\W.cell? ⟨g,2,none⟩=some (.int .i64 (s.trimmed:Int))/\W.cell? ⟨g,3,none⟩=some (.int .i64 (s.aF:Int))/\∀i,W.frozen? ⟨g,i,none⟩=false:=by refine⟨h.lt,by rw[cell_of_row _ _ 0 _ _ _ h.cells];rfl,by rw[cell_of_row _ _ 1 _ _ _ h.cells];rfl,by rw[cell_of_row _ _ 2 _ _ _ h.cells];rfl,by rw[cell_of_row _ _ 3 _ _ _ h.cells];rfl,λi=> ?_⟩;unfold World.frozen?;rw[show W.heap[(⟨g,i,none⟩:Addr).block]? =_ from h.cells];simp
theorem bK.kept {F:Nat->Prop} (h:bK W g p bm s) (hk:Kept F W W') (hg:¬F g) (hb:¬F bm):bK W' g p bm s:=⟨hk.heap h.cells hg,h.map.kept hk hb⟩
theorem bK.below (h:bK W g p bm s) (hb:Below W.heap.size W W'):bK W' g p bm s:=h.kept (F:=λ_=>False) (Kept.al hb) (λh=>h) (λh=>h)
theorem oT (h:bK W g p bm s) (a:Int) (h0: -9223372036854775808<=a) (h1:a<=9223372036854775807):
 Calls Tryz.prog 122 #[.pointer (some ⟨g,0,none⟩),.int .i64 a] W λe w'=>e= .returned (.bool (s.aU.any λq=>(q.af:Int) == a))/\Below W.heap.size W w':=by
 obtain⟨_,c0,c1,c2,c3,_⟩:=h.facts;have hM:=ab h.map;obtain⟨R,hR⟩:=aa ((s.aU.any λq=>(q.af:Int) == a));have HR:=ab hR;rw[hR];clear h hR
 go_enter Tryz.func122,Tryz.ntmps122
 go_wp2_with (at_lookup;refine EL _ hM.out rfl _ _ rfl rfl a rfl h0 h1 ?_;intro s' g' _;rw[HR.out])
 go_ret
 exact⟨rfl,(Below.refl _ _).alloc (Nat.le_refl _) _⟩
theorem oI (a b:Int):(bD a).sameKey (bD b)=true<->a=b:=by
 constructor
 · intro h;have:=WideAt.sameKey_eq h;injection this
 · intro h;subst h;simp[Lit.sameKey]
theorem xx (h:bK W g p bm s) (hk:fJ s):Calls Tryz.prog 63 #[.pointer (some ⟨g,0,none⟩)] W λe w'=>e= .returned (.tuple #[])/\bK w' g p bm (dc s)/\Kept (λk=>k=bm) W w':=by
 obtain⟨hg,c0,c1,c2,c3,_⟩:=h.facts;have H:=ab h;have hM:=ab h.map;have HK:=ab hk;have hbm:=h.map.lt;have hne:=h.ne;have HTr:=hk.trimmed;clear h hk
 go_enter Tryz.func63,Tryz.ntmps63
 go_wp2_with (at_range;refine EM _ hM.out rfl _ rfl rfl ?_;intro w0 left0 cnt0 hr0 hl0 hb0 hs0)
 go_frame
 have R0:=ab (show fy w0 bm W.heap.size (s.aU.filter λq=>decide (s.trimmed<=q.af) || left0 (bD q.af)) left0 cnt0 from by rw[List.filter_eq_self.2 (λq hq=>by rw[hl0,Bool.or_eq_true];exact .inr (List.any_eq_true.2 ⟨q,hq,by simp⟩))];exact hr0);have K0:=ab (Kept.al (F:=λk=>k=bm) hb0);clear hr0 hb0 hl0 c0 c1 c2 c3
 go_loopw [2] (λ_ wr=>∃ (left:Lit->Bool) (cnt:Nat),Hid (fy wr bm W.heap.size (s.aU.filter λq=>decide (s.trimmed<=q.af) || left (bD q.af)) left cnt)/\Hid (Kept (λk=>k=bm) W wr)) (λ_ wr=>wr.rangeLeft bm W.heap.size)
 case atStart=>exact⟨left0,cnt0,R0,K0⟩
 case round=>
  clear R0 K0;obtain⟨left,cnt,hRg0,hKr⟩:=hrel;obtain⟨L,hL⟩:=aa ((s.aU.filter λq=>decide (s.trimmed<=q.af) || left (bD q.af)));have HL:=ab hL;have hRg:=ab (show fy wr bm W.heap.size L left cnt from by rw[<-hL];exact hRg0.out);clear hL hRg0
  go_wp2_with (at_next;refine EJ _ hRg.out rfl _ rfl rfl ?_ ?_)
  · intro hl;have HU:=ab (show bK wr g p bm (dc s) from⟨hKr.out.heap H.out.cells (λe=>hne e),by have:=hRg.out.map;rw[<-HL.out]at this;unfold dc;rw[List.filter_congr (λq _=>by rw[hl,Bool.or_false])]at this;exact this⟩);clear hl
    go_wp2_with fail
    go_end0
    exact⟨rfl,HU.out,hKr.out⟩
  · intro q w1 cnt1 hq hlq hr1 hlt hk1 hs1 hen;have hq2:=List.mem_filter.1 (show q ∈ (s.aU.filter λq=>decide (s.trimmed<=q.af) || left (bD q.af)) from by rw[HL.out];exact hq);have hqa:=HK.out.jq q hq2.1;have K1:=ab (hKr.out.trans hk1 (λi hi=> .inr (by rw[show i=W.heap.size from hi];exact Nat.le_refl _)));obtain⟨_,d0,d1,d2,d3,_⟩:=(show bK w1 g p bm ⟨L,s.trimmed,s.aF⟩from⟨K1.out.heap H.out.cells (λe=>hne e),hr1.map⟩).facts;have R1:=ab hr1;have HM:=ab (show wr.rangeLeft bm W.heap.size=cnt from hRg.out.left_eq);have HM1:=ab (show w1.rangeLeft bm W.heap.size=cnt1 from hr1.left_eq);have HN:=ab (show(L.map bE.af).Nodup from by rw[<-HL.out];exact HK.out.once.sublist (List.Sublist.map _ List.filter_sublist));have HQ:=ab hq2.1;clear hr1 hk1 hq hq2;by_cases hm:(q.af:Int) < (s.trimmed:Int)
    · have HF:=ab (show L.filter (λx=> !((x.af:Int) == (q.af:Int)))=s.aU.filter λx=>decide (s.trimmed<=x.af) || (left (bD x.af) && !(bD x.af).sameKey (bD q.af)) from by
       rw[<-HL.out,List.filter_filter];refine List.filter_congr (λx _=> ?_);by_cases e:(x.af:Int)=(q.af:Int)
       · have h1:¬s.trimmed<=x.af:=by omega
         have h2:=(oI (x.af:Int) (q.af:Int)).2 e;simp[h1,e];rw[e]at h2;intro _;simpa using h2
       · have h2:(bD (x.af:Int)).sameKey (bD (q.af:Int))=false:=by rw[Bool.eq_false_iff];intro h;exact e ((oI _ _).1 h)
         simp[e,h2])
      go_wp2_with (at_delete;refine EI _ R1.out HN.out rfl _ _ rfl rfl (q.af:Int) rfl (by omega) (by omega) ?_;intro w2 cnt2 hr2 hle hk2;go_frame)
      have R2:=ab (show fy w2 bm W.heap.size (s.aU.filter λx=>decide (s.trimmed<=x.af) || (left (bD x.af) && !(bD x.af).sameKey (bD q.af))) (λz=>left z && !z.sameKey (bD q.af)) cnt2 from by rw[<-HF.out];have:(λz:Lit=>(left z && !z.sameKey (bD q.af)) && !z.sameKey (bD q.af))=λz=>left z && !z.sameKey (bD q.af):=Maps.strike_twice _ _;rw[this]at hr2;exact hr2);have K2:=ab (K1.out.trans hk2 (λi hi=> .inl hi));have HM2:=ab (show w2.rangeLeft bm W.heap.size=cnt2 from hr2.left_eq);clear hr2 hk2
      go_roundw
      case rel=>exact⟨_,cnt2,R2,K2⟩
      case measure=>rw[HM.out,HM2.out];omega
    · have HF:=ab (show L=s.aU.filter λx=>decide (s.trimmed<=x.af) || (left (bD x.af) && !(bD x.af).sameKey (bD q.af)) from by
       rw[<-HL.out];refine List.filter_congr (λx _=> ?_);by_cases e:(x.af:Int)=(q.af:Int)
       · have h1:s.trimmed<=x.af:=by omega
         simp[h1]
       · have h2:(bD (x.af:Int)).sameKey (bD (q.af:Int))=false:=by rw[Bool.eq_false_iff];intro h;exact e ((oI _ _).1 h)
         simp[h2])
      rw[HF.out]at R1
      go_wp2_with fail
      go_roundw
      case rel=>exact⟨_,cnt1,R1,K1⟩
      case measure=>rw[HM.out,HM1.out];exact hlt
end
end Go.Proofs.YtdilnodbfnlhdaaGreatDoor
namespace Go.Proofs.YtdilnodbfnlhdaaGreatDoor
open Go Go.RowKit Tide
theorem Co {w:World} {b:Nat} {ps:List bE} (hown:eG w b ps) (hsz:ps.length<=100000) (af cF:Nat) (aw:List UInt8) (hp:(ps.any λq=>(q.af:Int) == (af:Int))=false) (hadr:af<=100000):
 ∃w',(Instr.mapUpdate 138 (.map (some b)) (.int .i64 (af:Int)) (.agg #[.string ⟨aw.toArray⟩,.int .i64 (cF:Int)])).run Tryz.prog w= .ok () w'/\eG w' b (ps ++ [⟨af,aw,cF⟩])/\Kept (λj=>j=b) w w':=by
 obtain⟨D,h2,h3⟩:=hown;obtain⟨w',hrun,r1,r2⟩:=h2.store jH Tryz.underlying138 (by rw[h3.size];exact Nat.lt_of_le_of_lt hsz (by decide)) (lI (af:Int) (by omega) (by omega)) (n7 ⟨aw.toArray⟩ (cF:Int));exact⟨w',hrun,⟨_,nY r1,h3.put ⟨af,aw,cF⟩ hp⟩,tJ r2⟩
theorem yT {ps:List bE} (hn:(ps.map bE.af).Nodup) (ha:∀q ∈ ps,q.af<=4095):ps.length<=4096:=by
 have h1:(ps.map bE.af).Perm ((List.range 4096).filter λx=>decide (x ∈ ps.map bE.af)):=(List.perm_ext_iff_of_nodup hn (List.nodup_range.filter _)).2 (λx=>by
  rw[List.mem_filter];constructor
  · intro hx;obtain⟨q,hq,rfl⟩:=List.mem_map.1 hx;have:=ha q hq;exact⟨List.mem_range.2 (by omega),by simpa using hx⟩
  · rintro⟨_,hx⟩;simpa using hx)
 have h2:=h1.length_eq;have h3:=List.length_filter_le (λx=>decide (x ∈ ps.map bE.af)) (List.range 4096);rw[List.length_range]at h3;rw[List.length_map]at h2;omega
section
variable {W:World} {g p bm:Nat} {s:aT}
theorem wA (h:bK W g p bm s) (hk:fJ s) (af cF:Nat) (aw:List UInt8) (ep:Int) (hadr:af<=4095):
 Calls Tryz.prog 62 #[.pointer (some ⟨g,0,none⟩),.agg #[.int .i64 1,.int .i64 (af:Int),.int .i64 ep,.string ⟨aw.toArray⟩],.int .i64 (cF:Int)] W λe w'=>e= .returned (.tuple #[])/\bK w' g p bm (if de s af then s else { s with aU:=s.aU ++ [⟨af,aw,cF⟩] })/\Kept (λk=>k=bm) W w':=by
 have B0:=(Below.refl W.heap.size W).alloc (Nat.le_refl _) (.cells #[.int .i64 1,.int .i64 (af:Int),.int .i64 ep,.string ⟨aw.toArray⟩] 145);have hc:=heap_alloc_new W (.cells #[.int .i64 1,.int .i64 (af:Int),.int .i64 ep,.string ⟨aw.toArray⟩] 145);have HC:=ab hc;have HB0:=ab B0;have H0:=ab (h.below B0);have HH:=ab (oT (h.below B0) (af:Int) (by omega) (by omega));have hhe:de s af=s.aU.any λq=>(q.af:Int) == (af:Int):=by
  unfold de
  congr 1
  funext q;by_cases e:q.af=af
  · rw[e,beq_self_eq_true,beq_self_eq_true]
  · rw[beq_eq_false_iff_ne.2 e,beq_eq_false_iff_ne.2 (show ¬(q.af:Int)=(af:Int) by omega)]
 have HHe:=ab hhe;have HLen:=ab (yT hk.once hk.jq);obtain⟨R,hR⟩:=aa ((s.aU.any λq=>(q.af:Int) == (af:Int)));rw[hR]at HH hhe;have HR:=ab hR;rw[hhe];clear h hk B0 hc hhe hR;obtain⟨_,c0,c1,c2,c3⟩:=cA HC.out
 go_enter Tryz.func62,Tryz.ntmps62
 go_wp2_with fail
 refine HH.out.mono ?_;rintro e w1 ⟨rfl,hb⟩;have B1:=ab (HB0.out.trans (hb.mono HB0.out.size));have U1:=ab (H0.out.below hb);have HC1:=ab ((Kept.al (F:=λ_=>False) hb).heap HC.out (λh=>h));clear hb c0 c1 c2 c3;cases R with
 | true=>
   go_wp2_with fail
   go_end0
   exact⟨rfl,U1.out,Kept.al B1.out⟩
 | false=>
   obtain⟨_,c0,c1,c2,c3⟩:=cA HC1.out;obtain⟨_,d0,d1,d2,d3,_⟩:=U1.out.facts;obtain⟨w2,hrun,hp2,hk2⟩:=Co (U1.out.map.below (Below.refl _ w1).drew) (by have:=HLen.out;omega) af cF aw HR.out (by omega);have HK3:=ab ((Kept.al (F:=λk=>k=bm) B1.out).trans (w':=w1) (G:=λk=>k=bm) ⟨hk2.os,hk2.tape,hk2.output,hk2.size,hk2.block⟩ (λi hi=> .inl hi));have HU3:=ab (show bK w2 g p bm { s with aU:=s.aU ++ [⟨af,aw,cF⟩] } from⟨hk2.heap (show w1.drew.heap[g]? =_ from U1.out.cells) (λe=>U1.out.ne e),hp2⟩);clear hp2 hk2
   go_wp2_with fail
   go_region
   go_wp2_with fail
   go_end0
   exact⟨rfl,HU3.out,HK3.out⟩
end
end Go.Proofs.YtdilnodbfnlhdaaGreatDoor
namespace Go.Proofs.YtdilnodbfnlhdaaGreatDoor
open Go Go.RowKit Tide
section
variable {W:World} {g p bm:Nat} {s:aT}
theorem wB (h:bK W g p bm s) (af ep cF:Nat) (aw:ByteArray):
 Calls Tryz.prog 62 #[.pointer (some ⟨g,0,none⟩),.agg #[.int .i64 2,.int .i64 (af:Int),.int .i64 (ep:Int),.string aw],.int .i64 (cF:Int)] W λe w'=>e= .returned (.tuple #[])/\bK w' g p bm { s with trimmed:=af,aF:=ep }/\Kept (λk=>k=g) W w':=by
 have B0:=(Below.refl W.heap.size W).alloc (Nat.le_refl _) (.cells #[.int .i64 2,.int .i64 (af:Int),.int .i64 (ep:Int),.string aw] 145);have H0:=ab h;have hc:=heap_alloc_new W (.cells #[.int .i64 2,.int .i64 (af:Int),.int .i64 (ep:Int),.string aw] 145);obtain⟨_,c0,c1,c2,c3⟩:=cA hc;obtain⟨_,d0,d1,d2,d3,df⟩:=h.facts;have hgn:=h.lt;have hgne:¬g=W.heap.size:=by omega
 clear h B0 hc
 go_enter Tryz.func62,Tryz.ntmps62
 go_wp2_with fail
 go_region
 go_wp2_with fail
 go_end0
 have UX:bK ((W.setCell ⟨g,2,none⟩ (.int .i64 (af:Int))).setCell ⟨g,3,none⟩ (.int .i64 (ep:Int))) g p bm { s with trimmed:=af,aF:=ep }:=⟨jc (jc H0.out.cells 2 (.int .i64 (af:Int))) 3 (.int .i64 (ep:Int)),
  H0.out.map.kept (F:=λk=>k=g) (((Kept.refl (λk=>k=g) _).setCell (p:=⟨g,2,none⟩) (.inl rfl) _).setCell (p:=⟨g,3,none⟩) (.inl rfl) _) (λe=>H0.out.ne e.symm)⟩
 have KX:=((Kept.refl (λk=>k=g) W).setCell (p:=⟨g,2,none⟩) (.inl rfl) (.int .i64 (af:Int))).setCell (p:=⟨g,3,none⟩) (.inl rfl) (.int .i64 (ep:Int));exact⟨rfl,UX.below (((Below.refl _ _).alloc (Nat.le_refl _) _).drew),(KX.alloc _).drew⟩
theorem wC (h:bK W g p bm s) (af ep cF:Nat) (aw:ByteArray):
 Calls Tryz.prog 62 #[.pointer (some ⟨g,0,none⟩),.agg #[.int .i64 3,.int .i64 (af:Int),.int .i64 (ep:Int),.string aw],.int .i64 (cF:Int)] W λe w'=>e= .returned (.tuple #[])/\bK w' g p bm { s with aF:=ep }/\Kept (λk=>k=g) W w':=by
 have B0:=(Below.refl W.heap.size W).alloc (Nat.le_refl _) (.cells #[.int .i64 3,.int .i64 (af:Int),.int .i64 (ep:Int),.string aw] 145);have H0:=ab h;have hc:=heap_alloc_new W (.cells #[.int .i64 3,.int .i64 (af:Int),.int .i64 (ep:Int),.string aw] 145);obtain⟨_,c0,c1,c2,c3⟩:=cA hc;obtain⟨_,d0,d1,d2,d3,df⟩:=h.facts;have hgn:=h.lt;have hgne:¬g=W.heap.size:=by omega
 clear h B0 hc
 go_enter Tryz.func62,Tryz.ntmps62
 go_wp2_with fail
 go_end0
 have UX:bK (W.setCell ⟨g,3,none⟩ (.int .i64 (ep:Int))) g p bm { s with aF:=ep }:=⟨jc H0.out.cells 3 (.int .i64 (ep:Int)),
  H0.out.map.kept (F:=λk=>k=g) ((Kept.refl (λk=>k=g) _).setCell (p:=⟨g,3,none⟩) (.inl rfl) _) (λe=>H0.out.ne e.symm)⟩
 have KX:=(Kept.refl (λk=>k=g) W).setCell (p:=⟨g,3,none⟩) (.inl rfl) (.int .i64 (ep:Int));exact⟨rfl,UX.below ((Below.refl _ _).alloc (Nat.le_refl _) _),KX.alloc _⟩
theorem pR (h:bK W g p bm s) (hk:fJ s) (r:aX) (hr:fx r) (cF:Nat):
 Calls Tryz.prog 62 #[.pointer (some ⟨g,0,none⟩),l9 r,.int .i64 (cF:Int)] W λe w'=>e= .returned (.tuple #[])/\bK w' g p bm (dR s r cF)/\Kept (λk=>k=g\/k=bm) W w':=by
 obtain⟨kind,af,ep,aw⟩:=r;rcases hr with⟨h1,h2,h3,h4⟩|⟨h1,h2,h3⟩|⟨h1,h2⟩
 · simp only at h1 h2 h3 h4;subst h1;refine(wA h hk af cF aw ep h2).mono λe w' ⟨a1,a2,a3⟩=>⟨a1,?_,a3.mono (λ_ _ h=> .inr h)⟩
   unfold dR;rw[if_pos rfl];exact a2
 · simp only at h1 h2 h3;subst h1;refine(wB h af ep cF ⟨aw.toArray⟩).mono λe w' ⟨a1,a2,a3⟩=>⟨a1,?_,a3.mono (λ_ _ h=> .inl h)⟩
   unfold dR;rw[if_neg (show ¬(2:Nat)=1 by decide),if_pos rfl];exact a2
 · simp only at h1 h2;subst h1;refine(wC h af ep cF ⟨aw.toArray⟩).mono λe w' ⟨a1,a2,a3⟩=>⟨a1,?_,a3.mono (λ_ _ h=> .inl h)⟩
   unfold dR;rw[if_neg (show ¬(3:Nat)=1 by decide),if_neg (show ¬(3:Nat)=2 by decide)];exact a2
end
end Go.Proofs.YtdilnodbfnlhdaaGreatDoor
namespace Go.Proofs.YtdilnodbfnlhdaaGreatDoor
open Go Go.RowKit Tide
def US (D:az) (w:World) (FX:Nat->Prop) (X:World->Prop) (g p bm dev:Nat) (us:List ah) (d:Dv) (s:aT) (W:World):Prop:=
 ∃Fd Fs vs,D W Fd dev d/\aO W Fs p dev us vs/\bK W g p bm s/\(∀k,Fd k->¬Fs k)/\(¬(Fd g\/Fs g)/\¬(Fd bm\/Fs bm))/\(∀k,Fd k\/Fs k\/k=g\/k=bm->¬FX k/\w.heap.size<=k/\k < W.heap.size)/\(∀k,FX k->k < W.heap.size)/\Below w.heap.size w W/\X W
def cY (FX:Nat->Prop) (X:World->Prop):Prop:=∀ (W W':World) (F:Nat->Prop),X W->(∀k,FX k->k < W.heap.size)->Kept F W W'->(∀k,FX k->¬F k)->X W'
section
variable {D:az} {x:Nat->Addr} {w W W':World} {FX:Nat->Prop} {X:World->Prop} {g p bm dev:Nat} {us us':List ah} {d d':Dv} {s s':aT}
theorem US.unit (h:US D w FX X g p bm dev us d s W):bK W g p bm s:=by obtain⟨_,_,_,_,_,h3,_⟩:=h;exact h3
theorem US.since (h:US D w FX X g p bm dev us d s W):Below w.heap.size w W:=by obtain⟨_,_,_,_,_,_,_,_,_,_,h8,_⟩:=h;exact h8
theorem US.iq (h:US D w FX X g p bm dev us d s W):X W:=by obtain⟨_,_,_,_,_,_,_,_,_,_,_,h9⟩:=h;exact h9
theorem US.below (hD:aC x D) (hX:cY FX X) (h:US D w FX X g p bm dev us d s W) (hb:Below W.heap.size W W'):US D w FX X g p bm dev us d s W':=by
 obtain⟨Fd,Fs,vs,h1,h2,h3,h4,h5,h6,h7,h8,h9⟩:=h;have hz:=hb.size
 exact⟨Fd,Fs,vs,hD.an _ _ _ (λ_=>False) _ _ h1 (Kept.al hb) (λ_ _ h=>h),h2.below hb,h3.below hb,h4,h5,λk hk=>⟨(h6 k hk).1,(h6 k hk).2.1,Nat.lt_of_lt_of_le (h6 k hk).2.2 hz⟩,λk hk=>Nat.lt_of_lt_of_le (h7 k hk) hz,
  h8.trans (hb.mono h8.size),hX _ _ (λ_=>False) h9 h7 (Kept.al hb) (λ_ _ h=>h)⟩
theorem US.own (hD:aC x D) (hX:cY FX X) (h:US D w FX X g p bm dev us d s W) (hk:Kept (λk=>k=g\/k=bm) W W') (hu:bK W' g p bm s'):US D w FX X g p bm dev us d s' W':=by
 obtain⟨Fd,Fs,vs,h1,h2,h3,h4,h5,h6,h7,h8,h9⟩:=h;have hz:=hk.size;refine⟨Fd,Fs,vs,hD.an _ _ _ _ _ _ h1 hk (λk hf e=> ?_),h2.an hk (λk hf e=> ?_),hu,h4,h5,λk hk=>⟨(h6 k hk).1,(h6 k hk).2.1,Nat.lt_of_lt_of_le (h6 k hk).2.2 hz⟩,λk hk=>Nat.lt_of_lt_of_le (h7 k hk) hz,h8.trans (hk.below h8.size (λi hi=> ?_)),hX _ _ _ h9 h7 hk (λk hf e=> ?_)⟩
 · rcases e with rfl|rfl
   · exact h5.1 (.inl hf)
   · exact h5.2 (.inl hf)
 · rcases e with rfl|rfl
   · exact h5.1 (.inr hf)
   · exact h5.2 (.inr hf)
 · rcases hi with rfl|rfl
   · exact(h6 _ (.inr (.inr (.inl rfl)))).2.1
   · exact(h6 _ (.inr (.inr (.inr rfl)))).2.1
 · rcases e with rfl|rfl
   · exact(h6 _ (.inr (.inr (.inl rfl)))).1 hf
   · exact(h6 _ (.inr (.inr (.inr rfl)))).1 hf
theorem US.rs (hX:cY FX X) (h:US D w FX X g p bm dev us d s W) {Fd Fs:Nat->Prop} (h4:∀k,Fd k\/Fs k->¬FX k/\w.heap.size<=k/\k < W.heap.size) (h5:¬(Fd g\/Fs g)/\¬(Fd bm\/Fs bm)) (hr:RS D W Fd Fs p dev us' d' W') (hD:aC x D):US D w FX X g p bm dev us' d' s W':=by
 obtain⟨_,_,_,_,_,h3,_,_,h6,h7,h8,h9⟩:=h;obtain⟨F',G',vs',g1,g2,g3,g4,g5,g6⟩:=hr;have hz:=g6.size;have hgl:=(h6 _ (.inr (.inr (.inl rfl)))).2.2;have hbl:=(h6 _ (.inr (.inr (.inr rfl)))).2.2;have hnew:∀k,F' k\/G' k->(Fd k\/Fs k)\/W.heap.size<=k:=λk hk=>by
  rcases hk with hk|hk
  · exact(g4 k hk).imp .inl id
  · exact(g5 k hk).imp .inr id
 have hlt:∀k,F' k\/G' k->k < W'.heap.size:=λk hk=>by
  rcases hk with hk|hk
  · exact hD.lt _ _ _ _ g1 k hk
  · exact g2.lt k hk
 refine⟨F',G',vs',g1,g2,h3.kept g6 h5.1 h5.2,g3,⟨λhk=> ?_,λhk=> ?_⟩,λk hk=> ?_,λk hk=>Nat.lt_of_lt_of_le (h7 k hk) hz,h8.trans (g6.below h8.size (λi hi=>(h4 i hi).2.1)),hX _ _ _ h9 h7 g6 (λk hf e=>(h4 k e).1 hf)⟩
 · rcases hnew g hk with h|h
   · exact h5.1 h
   · omega
 · rcases hnew bm hk with h|h
   · exact h5.2 h
   · omega
 · rcases hk with hk|hk|rfl|rfl
   · rcases hnew k (.inl hk) with h|h
     · exact⟨(h4 k h).1,(h4 k h).2.1,hlt k (.inl hk)⟩
     · exact⟨λhf=>by have:=h7 k hf;omega,by have:=h8.size;omega,hlt k (.inl hk)⟩
   · rcases hnew k (.inr hk) with h|h
     · exact⟨(h4 k h).1,(h4 k h).2.1,hlt k (.inr hk)⟩
     · exact⟨λhf=>by have:=h7 k hf;omega,by have:=h8.size;omega,hlt k (.inr hk)⟩
   · exact⟨(h6 _ (.inr (.inr (.inl rfl)))).1,(h6 _ (.inr (.inr (.inl rfl)))).2.1,by omega⟩
   · exact⟨(h6 _ (.inr (.inr (.inr rfl)))).1,(h6 _ (.inr (.inr (.inr rfl)))).2.1,by omega⟩
theorem US.append {a:Nat->Addr} (hD:aC (three a) D) (hX:cY FX X) (hE:ar w a) (hNG:19<=w.heap.size) (h:US D w FX X g p bm dev us d s W) (hpe:d.aq= []) (hok:kc (d.ae.length / 64) us) (hb:Below W.heap.size W W') (vb:Value) (b:List UInt8) (hv:W'.ownsRow W.heap.size 5 1 vb b.length (aj b)):
 Calls Tryz.prog 134 #[.pointer (some ⟨p,0,none⟩),vb] W' λe w'=>e= .returned (.tuple #[.int .i64 ((bX us d b).2.1:Nat),jA a (bX us d b).1])/\US D w FX X g p bm dev (bX us d b).2.2.1 (bX us d b).2.2.2 s w':=by
 have h':=h.below hD hX hb;have h0:=h;obtain⟨Fd,Fs,vs,h1,h2,h3,h4,h5,h6,h7,h8,h9⟩:=h;have hz:=hb.size;refine(uP hD (hE.below (h8.trans (hb.mono h8.size))) (hD.an _ _ _ (λ_=>False) _ _ h1 (Kept.al hb) (λ_ _ h=>h)) hpe (h2.below hb) h4 (λk hk=>Nat.le_trans hNG (h6 k (hk.elim .inl (λh=> .inr (.inl h)))).2.1) (by have:=h8.size;omega) hok vb b W'.heap.size (Bytes.dm hv) (Nat.le_refl _) (λk e hk=> ?_)).mono ?_
 · have h10:=(World.ownsRow.lt hv k e).1;have h11:=(h6 k (hk.elim .inl (λh=> .inr (.inl h)))).2.2;omega
 · rintro e w' ⟨he,hr⟩;exact⟨he,US.rs hX h' (λk hk=>⟨(h6 k (hk.elim .inl (λh=> .inr (.inl h)))).1,(h6 k (hk.elim .inl (λh=> .inr (.inl h)))).2.1,Nat.lt_of_lt_of_le (h6 k (hk.elim .inl (λh=> .inr (.inl h)))).2.2 hz⟩) h5 hr hD⟩
theorem cY.box (hX:cY FX X) (b:Nat) (o:Obj):cY (λk=>FX k\/k=b) (λY=>X Y/\Y.heap[b]? =some o):=λY Y' F h hl hk hf=>⟨hX Y Y' F h.1 (λk hk=>hl k (.inl hk)) hk (λk hk=>hf k (.inl hk)),hk.heap h.2 (hf b (.inr rfl))⟩
theorem US.box (hD:aC x D) (hX:cY FX X) (h:US D w FX X g p bm dev us d s W) (o:Obj):US D w (λk=>FX k\/k=W.heap.size) (λY=>X Y/\Y.heap[W.heap.size]? =some o) g p bm dev us d s (W.alloc o):=by
 have hb:=(Below.refl W.heap.size W).alloc (Nat.le_refl _) o;obtain⟨Fd,Fs,vs,h1,h2,h3,h4,h5,h6,h7,h8,h9⟩:=h;exact⟨Fd,Fs,vs,hD.an _ _ _ (λ_=>False) _ _ h1 (Kept.al hb) (λ_ _ h=>h),h2.below hb,h3.below hb,h4,h5,λk hk=>⟨λhf=>by
  rcases hf with hf|rfl
  · exact(h6 k hk).1 hf
  · have:=(h6 _ hk).2.2;omega,(h6 k hk).2.1,by have:=(h6 k hk).2.2;simp;omega⟩,λk hk=>by
  rcases hk with hk|rfl
  · have:=h7 k hk;simp;omega
  · simp,h8.trans (hb.mono h8.size),hX _ _ (λ_=>False) h9 h7 (Kept.al hb) (λ_ _ h=>h),heap_alloc_new W o⟩
theorem US.less {FX':Nat->Prop} {X':World->Prop} (h:US D w FX X g p bm dev us d s W) (hF:∀k,FX' k->FX k) (hX:∀Y,X Y->X' Y):US D w FX' X' g p bm dev us d s W:=by obtain⟨Fd,Fs,vs,h1,h2,h3,h4,h5,h6,h7,h8,h9⟩:=h;exact⟨Fd,Fs,vs,h1,h2,h3,h4,h5,λk hk=>⟨λhf=>(h6 k hk).1 (hF k hf),(h6 k hk).2⟩,λk hk=>h7 k (hF k hk),h8,hX _ h9⟩
end
section
variable {D:az} {a:Nat->Addr} {w W:World} {FX:Nat->Prop} {X:World->Prop} {g p bm dev:Nat} {us:List ah} {d:Dv} {s:aT}
theorem Er (hD:aC (three a) D) (hX:cY FX X) (hE:ar w a) (hNG:19<=w.heap.size) (h:US D w FX X g p bm dev us d s W) (hpe:d.aq= []) (hok:kc (d.ae.length / 64) us) (hs:fJ s) (r:aX) (hr:fx r):
 Calls Tryz.prog 78 #[.pointer (some ⟨g,0,none⟩),l9 r] W λe w'=>e= .returned (jA a (bX us d (aV r)).1)/\US D w FX X g p bm dev (bX us d (aV r)).2.2.1 (bX us d (aV r)).2.2.2 (if(bX us d (aV r)).1=none then dR s r (bX us d (aV r)).2.1 else s) w':=by
 have U0:=h.box hD hX (.cells #[.int .i64 (r.kind:Int),.int .i64 (r.af:Int),.int .i64 (r.ep:Int),.string ⟨r.aw.toArray⟩] 145);have hX0:=hX.box W.heap.size (.cells #[.int .i64 (r.kind:Int),.int .i64 (r.af:Int),.int .i64 (r.ep:Int),.string ⟨r.aw.toArray⟩] 145);have CB:=ab (BD a _ r (hE.below U0.since) hr);have CA:=ab (λW' vb (hb:Below _ _ W') hv=>US.append (W':=W') hD hX0 hE hNG U0 hpe hok hb vb (aV r) hv);have HX:=ab hX0;have HD:=ab hD;have HS:=ab hs;have HR:=ab hr;have HU0:=ab U0;obtain⟨t,ht⟩:=aa (bX us d (aV r));rw[ht]at CA ⊢;obtain⟨er,no,us',d'⟩:=t;simp only at CA ⊢;have HLess:=ab (λ(us:List ah) (d:Dv) (s:aT) (Y:World) (hu:US D w (λk=>FX k\/k=W.heap.size) (λY=>X Y/\Y.heap[W.heap.size]? =some (.cells #[.int .i64 (r.kind:Int),.int .i64 (r.af:Int),.int .i64 (r.ep:Int),.string ⟨r.aw.toArray⟩] 145)) g p bm dev us d s Y)=>(show US D w FX X g p bm dev us d s Y from hu.less (λ_ h=> .inl h) (λ_ h=>h.1)));obtain⟨_,c0,c1,c2,c3⟩:=cA U0.iq.2;clear h U0 hD hX hE hr hs hok hpe ht hX0
 go_enter Tryz.func78,Tryz.ntmps78
 go_wp2_with fail
 refine CB.out.mono ?_;rintro e w1 ⟨v,rfl,ho,hb⟩;obtain⟨Av,cv,rfl⟩:∃Av cv,v= .slice Av (aV r).length cv:=by
  rcases ho.2 with⟨h1,h2⟩|⟨gg,cap,_,h1,_⟩
  · exact⟨none,0,by rw[h1,h2]⟩
  · exact⟨_,cap,h1⟩
 have U1:=ab (HU0.out.below HD.out HX.out hb);have CA1:=ab (CA.out w1 _ hb ho);clear hb ho c0 c1 c2 c3 CB CA;obtain⟨_,d0,d1,d2,d3,_⟩:=U1.out.unit.facts
 go_wp2_with fail
 refine CA1.out.mono ?_;rintro e w2 ⟨rfl,hU⟩;have U2:=ab hU;clear hU d0 d1 d2 d3 CA1;cases er with
 | some m=>
   have hne:(jA a (some m):Value)=ai (a m):=rfl;rw[hne]
   go_wp2_with fail
   go_ret
   exact⟨rfl,HLess.out _ _ _ _ U2.out⟩
 | none=>
   have hne:(jA a none:Value)= .nilIface:=rfl;rw[hne];obtain⟨_,c0,c1,c2,c3⟩:=cA U2.out.iq.2;have CC:=ab (pR U2.out.unit HS.out r HR.out no)
   go_wp2_with fail
   refine CC.out.mono ?_;rintro e w3 ⟨rfl,hu,hk⟩;have U3:=ab (U2.out.own HD.out HX.out hk hu);clear hu hk c0 c1 c2 c3
   go_wp2_with fail
   go_ret
   exact⟨rfl,HLess.out _ _ _ _ U3.out⟩
end
end Go.Proofs.YtdilnodbfnlhdaaGreatDoor
namespace Go.Proofs.YtdilnodbfnlhdaaGreatDoor
open Go Go.RowKit Tide
theorem Ef {w:World} {a:Nat->Addr} (h:ar w a):19<=w.heap.size:=by
 have h1:∃i,i < 19/\bA.getD i 0+1=19:=by decide
 obtain⟨i,hi,h2⟩:=h1;have:=World.block_lt_of_cell? _ _ (h.var i hi);simp only at this;omega
section
variable {D:az} {a:Nat->Addr} {w W:World} {FX:Nat->Prop} {X:World->Prop} {g p bm dev:Nat} {us:List ah} {d:Dv} {s:aT}
theorem pA (h:bK W g p bm s) (hE:ar W a) (ep at' last:Int):
 Calls Tryz.prog 138 #[.pointer (some ⟨g,0,none⟩),.int .i64 ep,.int .i64 at',.int .i64 last] W λe w'=>∃x,e= .returned x/\bf a x (bV s.aF ep at' last)/\W=w':=by
 obtain⟨_,c0,c1,c2,c3,_⟩:=h.facts;have h7:=hE.var 7 (by omega);have h0:=hE.var 0 (by omega);simp only[bA,List.getD_cons_zero,List.getD_cons_succ]at h7 h0;clear h hE;cases q0:decide (ep < (s.aF:Int)) with
 | true=>
   have HR:=ab (show bV s.aF ep at' last=7+1 from by unfold bV;rw[if_pos (.inl (by simpa using q0))])
   go_enter Tryz.func138,Tryz.ntmps138
   go_wp2_with fail
   go_ret
   exact⟨_,rfl,by rw[HR.out];exact bo a 7 (by omega),rfl⟩
 | false=>
 cases q1:decide (1073741824 < ep) with
 | true=>
   have HR:=ab (show bV s.aF ep at' last=7+1 from by unfold bV;rw[if_pos (.inr (by simpa using q1))])
   go_enter Tryz.func138,Tryz.ntmps138
   go_wp2_with fail
   go_ret
   exact⟨_,rfl,by rw[HR.out];exact bo a 7 (by omega),rfl⟩
 | false=>
 have hn:¬(ep < (s.aF:Int)\/1073741824 < ep):=by simp at q0 q1;omega
 cases q2:decide (at' < 0) with
 | true=>
   have HR:=ab (show bV s.aF ep at' last=0+1 from by unfold bV;rw[if_neg hn,if_pos (.inl (by simpa using q2))]);clear hn
   go_enter Tryz.func138,Tryz.ntmps138
   go_wp2_with fail
   go_ret
   exact⟨_,rfl,by rw[HR.out];exact bo a 0 (by omega),rfl⟩
 | false=>
 cases q3:decide (last < at') with
 | true=>
   have HR:=ab (show bV s.aF ep at' last=0+1 from by unfold bV;rw[if_neg hn,if_pos (.inr (by simpa using q3))]);clear hn
   go_enter Tryz.func138,Tryz.ntmps138
   go_wp2_with fail
   go_ret
   exact⟨_,rfl,by rw[HR.out];exact bo a 0 (by omega),rfl⟩
 | false=>
   have HR:=ab (show bV s.aF ep at' last=0 from by unfold bV;rw[if_neg hn,if_neg (by simp at q2 q3;omega)]);clear hn
   go_enter Tryz.func138,Tryz.ntmps138
   go_wp2_with fail
   go_ret
   exact⟨_,rfl,by rw[HR.out];exact ec a,rfl⟩
def dP (s:aT) (ep at':Int) (b:List UInt8):Nat:=
 if bV s.aF ep at' 4095≠0 then bV s.aF ep at' 4095
 else if b.length < 1\/2048 < b.length then 3
 else if at' < s.trimmed then 11
 else if de s at'.toNat then 9 else 0
theorem lj {aF:Nat} {ep at' last:Int} (h:bV aF ep at' last=0):(aF:Int)<=ep/\ep<=1073741824/\0<=at'/\at'<=last:=by
 unfold bV at h;split at h
 · cases h
 · split at h
   · cases h
   · omega
theorem xN {s:aT} {n:Nat}:(s.aU.any λq=>(q.af:Int) == (n:Int))=de s n:=by
 unfold de
 congr 1
 funext q;by_cases e:q.af=n
 · rw[e,beq_self_eq_true,beq_self_eq_true]
 · rw[beq_eq_false_iff_ne.2 e,beq_eq_false_iff_ne.2 (show ¬(q.af:Int)=(n:Int) by omega)]
theorem lF {a:Nat->Addr} {x:Value} {k:Nat} (h:bf a x k) (hk:k≠0):∃ad,x=ai ad:=by
 rcases h with⟨h1,_⟩|⟨m,_,_,h2⟩
 · exact absurd h1 hk
 · exact⟨_,h2⟩
theorem nH {a:Nat->Addr} {x:Value} {k:Nat} (h:bf a x k) (hk:k=0):x= .nilIface:=by
 rcases h with⟨_,h2⟩|⟨m,_,h1,_⟩
 · exact h2
 · omega
def mP (D:az) (a:Nat->Addr) (w:World) (FX:Nat->Prop) (X:World->Prop) (g p bm dev:Nat) (us:List ah) (d:Dv) (s:aT) (r:aX) (e:Ending) (w':World):Prop:=
 e= .returned (jA a (bX us d (aV r)).1)/\US D w FX X g p bm dev (bX us d (aV r)).2.2.1 (bX us d (aV r)).2.2.2 (if(bX us d (aV r)).1=none then dR s r (bX us d (aV r)).2.1 else s) w'
def uI (D:az) (a:Nat->Addr) (w:World) (FX:Nat->Prop) (X:World->Prop) (g p bm dev:Nat) (us:List ah) (d:Dv) (s:aT) (ep at':Int) (b:List UInt8) (e:Ending) (w':World):Prop:=
 (dP s ep at' b≠0/\(∃x,e= .returned x/\bf a x (dP s ep at' b))/\US D w FX X g p bm dev us d s w')\/(dP s ep at' b=0/\mP D a w FX X g p bm dev us d s ⟨1,at'.toNat,0,b⟩ e w')
theorem Ew (hD:aC (three a) D) (hX:cY FX X) (hE:ar w a) (h:US D w FX X g p bm dev us d s W) (hpe:d.aq= []) (hok:kc (d.ae.length / 64) us) (hs:fJ s) (ep at':Int) (vb:Value) (b:List UInt8) (hv:Bytes W W.heap.size vb b):
 Calls Tryz.prog 98 #[.pointer (some ⟨g,0,none⟩),.int .i64 ep,.int .i64 at',vb] W (uI D a w FX X g p bm dev us d s ep at' b):=by
 have hEW:=hE.below h.since;obtain⟨A,c,rfl,_,_,_⟩:=hv.form;have CA:=ab (pA h.unit hEW ep at' 4095);obtain⟨k,hk⟩:=aa (bV s.aF ep at' 4095);have HK:=ab hk;rw[hk]at CA;have HW0:=ab h;obtain⟨_,c0,c1,c2,c3,_⟩:=h.unit.facts;have h2:=hEW.var 2 (by omega);have h10:=hEW.var 10 (by omega);simp only[bA,List.getD_cons_zero,List.getD_cons_succ]at h2 h10;have HHas:=ab (λ(n:Nat) (hn:n<=4095)=>oT h.unit (n:Int) (by omega) (by omega));have HV:=ab hv;have HD:=ab hD;have HX:=ab hX;have HE:=ab hE;have HS:=ab hs;have HOk:=ab hok;have HPe:=ab hpe;clear h hEW hv hD hX hE hs hok hpe hk
 go_enter Tryz.func98,Tryz.ntmps98
 go_wp2_with fail
 refine CA.out.mono ?_;rintro e w1 ⟨x,rfl,hx,rfl⟩;by_cases hk0:k=0;rotate_left
 · have HR:=ab (show dP s ep at' b=k from by unfold dP;rw[HK.out,if_pos hk0]);have HIx:=ab hx;obtain⟨ad,rfl⟩:=lF hx hk0;have HK0:=ab hk0;clear hx hk0
   go_wp2_with fail
   go_ret
   exact .inl ⟨by rw[HR.out];exact HK0.out,⟨_,rfl,by rw[HR.out];exact HIx.out⟩,HW0.out⟩
 obtain rfl:=nH hx hk0;subst hk0;have hc:=lj HK.out;clear hx;have HN0:=ab (show ¬bV s.aF ep at' 4095≠0 from by rw[HK.out];simp);obtain⟨n,rfl⟩:∃n:Nat,at'=n:=⟨at'.toNat,by omega⟩;have hn4:n<=4095:=by omega
 cases q1:decide ((b.length:Int) < 1) with
 | true=>
   have HR:=ab (show dP s ep n b=2+1 from by unfold dP;rw[if_neg HN0.out,if_pos (.inl (by have:=of_decide_eq_true q1;omega))])
   go_wp2_with fail
   go_ret
   exact .inl ⟨by rw[HR.out];omega,⟨_,rfl,by rw[HR.out];exact bo a 2 (by omega)⟩,HW0.out⟩
 | false=>
 cases q2:decide ((2048:Int) < (b.length:Int)) with
 | true=>
   have HR:=ab (show dP s ep n b=2+1 from by unfold dP;rw[if_neg HN0.out,if_pos (.inr (by have:=of_decide_eq_true q2;omega))])
   go_wp2_with fail
   go_ret
   exact .inl ⟨by rw[HR.out];omega,⟨_,rfl,by rw[HR.out];exact bo a 2 (by omega)⟩,HW0.out⟩
 | false=>
 have HN1:=ab (show ¬(b.length < 1\/2048 < b.length) from by have e1:=of_decide_eq_false q1;have e2:=of_decide_eq_false q2;omega);cases q3:decide ((n:Int) < (s.trimmed:Int)) with
 | true=>
   have HR:=ab (show dP s ep n b=10+1 from by unfold dP;rw[if_neg HN0.out,if_neg HN1.out,if_pos (of_decide_eq_true q3)]);have q3':=of_decide_eq_true q3;clear q3
   go_wp2_with fail
   go_ret
   exact .inl ⟨by rw[HR.out];omega,⟨_,rfl,by rw[HR.out];exact bo a 10 (by omega)⟩,HW0.out⟩
 | false=>
 have HN2:=ab (of_decide_eq_false q3);have q3':=of_decide_eq_false q3;clear q3;have CH:=ab (HHas.out n hn4);rw[xN]at CH;obtain⟨R,hR⟩:=aa (de s n);have HRh:=ab hR;rw[hR]at CH;clear hR
 go_wp2_with fail
 refine CH.out.mono ?_;rintro e w2 ⟨rfl,hb⟩;have U2:=ab (HW0.out.below HD.out HX.out hb);have HV2:=ab (HV.out.below hb);have hE2:=HE.out.below U2.out.since;have h8:=hE2.var 8 (by omega);simp only[bA,List.getD_cons_zero,List.getD_cons_succ]at h8;clear hb CH hE2 h2 h10 c0 c1 c2 c3;cases R with
 | true=>
   have HR:=ab (show dP s ep n b=8+1 from by unfold dP;rw[if_neg HN0.out,if_neg HN1.out,if_neg (by have:=HN2.out;omega),Int.toNat_natCast,HRh.out];rfl)
   go_wp2_with fail
   go_ret
   exact .inl ⟨by rw[HR.out];omega,⟨_,rfl,by rw[HR.out];exact bo a 8 (by omega)⟩,U2.out⟩
 | false=>
   have HR:=ab (show dP s ep n b=0 from by unfold dP;rw[if_neg HN0.out,if_neg HN1.out,if_neg (by have:=HN2.out;omega),Int.toNat_natCast,HRh.out];rfl);have cv:=jy HV2.out;have HPut:=ab (Er HD.out HX.out HE.out (Ef HE.out) U2.out HPe.out HOk.out HS.out ⟨1,n,0,b⟩ (.inl ⟨rfl,hn4,by have:=HN1.out;show 1<=b.length;omega,by have:=HN1.out;show b.length<=2048;omega⟩));have HPut2:=ab (show Calls Tryz.prog 78 #[.pointer (some ⟨g,0,none⟩),.agg #[.int .i64 1,.int .i64 (n:Int),.int .i64 0,.string (text b)]] w2 (mP D a w FX X g p bm dev us d s ⟨1,n,0,b⟩) from HPut.out);clear HPut
   go_wp2_with fail
   refine HPut2.out.mono ?_;rintro e w3 ⟨rfl,hU⟩;have U3:=ab hU;clear hU;obtain⟨er,her⟩:=aa ((bX us d (aV ⟨1,n,0,b⟩)).1);have HEr:=ab her;rw[her];clear her;cases er with
   | none=>
     go_wp2_with fail
     go_ret
     exact .inr ⟨HR.out,by rw[Int.toNat_natCast];exact⟨by rw[HEr.out]<;>rfl,U3.out⟩⟩
   | some m=>
     go_wp2_with fail
     go_ret
     exact .inr ⟨HR.out,by rw[Int.toNat_natCast];exact⟨by rw[HEr.out]<;>rfl,U3.out⟩⟩
end
end Go.Proofs.YtdilnodbfnlhdaaGreatDoor
