import Derived.Test.YtiafamacjpgjoaaGreatDoorGMem
import Derived.Test.YtiafamacjpgjoaaGreatDoorGKeep
import Derived.Maps.OwnOps
import Derived.Maps.OwnSet
import Derived.Maps.RangeWalk
import Derived.WalkKit
import Derived.WalkSpells
namespace Go.Proofs.YtiafamacjpgjoaaGreatDoor
open Go Go.RowKit Tide
open Go.Maps (Keyed IsMap)
def gw (v:Value):Option (DataW Unit × List MemPlace):=match v with
 | .agg xs=>match xs.toList with
   | [.string s,.int .i64 g]=>some (.agg [.lit (.string s.data.toList),.lit (.int .i64 g)], [])
   | _=>none
 | _=>none
abbrev iO (s:ByteArray) (g:Int):Value:= .agg #[.string s,.int .i64 g]
theorem oQ (s:ByteArray) (g:Int):gw (iO s g)=some (.agg [.lit (.string s.data.toList),.lit (.int .i64 g)], []):=rfl
theorem mI {v:Value} {y:DataW Unit × List MemPlace} (h:gw v=some y):∃s g,v=iO s g/\y=(.agg [.lit (.string s.data.toList),.lit (.int .i64 g)], []):=by
 unfold gw at h;split at h
 · rename_i xs;split at h
   · rename_i s g e;injection h with h;exact⟨s,g,by rw[<-Array.toArray_toList (xs:=xs),e],h.symm⟩
   · cases h
 · cases h
def pd (p:bk):DataW Unit:= .agg [.lit (.string p.bs),.lit (.int .i64 (p.aQ:Int))]
theorem oS {s:ByteArray} {g:Int} {p:bk} (h:(DataW.agg [.lit (.string s.data.toList),.lit (.int .i64 g)]:DataW Unit)=pd p):s=⟨p.bs.toArray⟩/\g=(p.aQ:Int):=by unfold pd at h;injection h with h;injection h with h1 h2;injection h1 with h1;injection h1 with h1;injection h2 with h2 _;injection h2 with h2;injection h2 with _ h2;refine⟨?_,h2⟩;rw[<-h1]
theorem ko:Keyed Tryz.prog 3:=Maps.int_keyed Tryz.underlying3
theorem vx (w:World):(zeroValue 171).run Tryz.prog w= .ok (iO ⟨#[]⟩ 0) w:=by kernel_rfl
abbrev bq (a:Int):Lit:= .int .i64 a
theorem mq (a:Int) (h0: -9223372036854775808<=a) (h1:a<=9223372036854775807):keyOf Tryz.prog 3 (.int .i64 a)=some (bq a):=
 Maps.keyOf_int_mk Tryz.underlying3 (by first|exact WalkArith.wf_i64 (by omega)|(unfold Lit.wf;simp;omega))
theorem mo {a b:Int} (h:a≠b):bq a≠bq b:=λe=>h (by injection e)
theorem ov (a:Int):WideAt.IsKeyLit (bq a):=trivial
structure gD (D:DataW Unit) (ps:List bk):Prop where
 tidy:Maps.Tidy D
 size:Maps.size D=ps.length
 has:∀a:Int,Maps.has D (bq a)=ps.any λp=>(p.af:Int) == a
 at':∀p ∈ ps,∀z,D.atKey (bq p.af) z=pd p
theorem qF {ps:List bk} {a:Int} (h:(ps.any λp=>(p.af:Int) == a)=true):∃p ∈ ps,(p.af:Int)=a:=by obtain⟨p,hp,he⟩:=List.any_eq_true.1 h;exact⟨p,hp,by simpa using he⟩
theorem any_none {ps:List bk} {a:Int} (h:(ps.any λp=>(p.af:Int) == a)=false):∀p ∈ ps,(p.af:Int)≠a:=λp hp e=>by have:=List.any_eq_false.1 h p hp;simp at this;exact this e
theorem gD.nil:gD (.map []) []:=⟨Maps.tidy_empty,rfl,λ_=>rfl,λp hp=>by cases hp⟩
theorem gD.put {D:DataW Unit} {ps:List bk} (h:gD D ps) (p:bk) (hp:(ps.any λq=>(q.af:Int) == (p.af:Int))=false):gD (D.put (bq p.af) (pd p)) (ps ++ [p]):=by
 have hh:Maps.has D (bq p.af)=false:=by rw[h.has];exact hp
 refine⟨h.tidy.put (ov _) _,?_,λa=> ?_,λq hq z=> ?_⟩
 · rw[Maps.size_put h.tidy,hh,if_neg (by simp),h.size,List.length_append];rfl
 · by_cases e:(p.af:Int)=a
   · subst e;rw[Maps.has_put_same h.tidy.isMap (ov _),List.any_append];simp
   · rw[Maps.has_put_other (mo (Ne.symm e)),h.has,List.any_append];simp[e]
 · rcases List.mem_append.1 hq with hq|hq
   · have hne:=any_none hp q hq;rw[Maps.atKey_put_other (mo hne)];exact h.at' q hq z
   · simp at hq;subst hq;exact Maps.atKey_put_same h.tidy.isMap (ov _) _ _
theorem gD.del {D:DataW Unit} {ps:List bk} (h:gD D ps) (hn:(ps.map bk.af).Nodup) (a:Int):gD (D.del (bq a)) (ps.filter λp=> !((p.af:Int) == a)):=by
 refine⟨h.tidy.del _,?_,λb=> ?_,λq hq z=> ?_⟩
 · have h1:=Maps.size_del h.tidy (k:=bq a);rw[h.has,h.size]at h1;have h2:∀l:List bk,(l.map bk.af).Nodup->(l.filter λp=> !((p.af:Int) == a)).length+(if(l.any λp=>(p.af:Int) == a)=true then 1 else 0)=l.length:=by
    intro l
    induction l with
    | nil=>intro _;rfl
    | cons p l ih=>
      intro hl;rw[List.map_cons,List.nodup_cons]at hl;have:=ih hl.2;by_cases e:(p.af:Int)=a
      · have h3:(l.any λp=>(p.af:Int) == a)=false:=by
         rw[List.any_eq_false];intro q hq hqa;have hqa:(q.af:Int)=a:=by simpa using hqa
         exact hl.1 (List.mem_map.2 ⟨q,hq,by omega⟩)
        rw[h3]at this;simp[e]at this ⊢;omega
      · simp[e]at this ⊢;omega
   have:=h2 ps hn;omega
 · by_cases e:b=a
   · subst e;rw[Maps.has_del_same,Eq.comm,List.any_eq_false];intro p hp he;have:=(List.mem_filter.1 hp).2;rw[he]at this;cases this
   · rw[Maps.has_del_other (mo e),h.has,List.any_filter]
     congr 1
     funext p;by_cases e2:(p.af:Int)=b
     · have:¬(p.af:Int)=a:=by omega
       simp[e2,e]
     · simp[e2]
 · have h1:=List.mem_filter.1 hq;have h2:¬(q.af:Int)=a:=by simpa using h1.2
   rw[Maps.atKey_del_other (mo h2)];exact h.at' q h1.1 z
def fa (W:World) (b:Nat) (ps:List bk):Prop:=∃D,W.ownsMap Tryz.prog 3 gw b (Maps.size D) D/\gD D ps
section
variable {W W':World} {b:Nat} {ps:List bk}
theorem oN {n:Nat} {D:DataW Unit} (h:W.ownsMap Tryz.prog 3 gw b n D):W.ownsMap Tryz.prog 3 gw b (Maps.size D) D:=by obtain⟨es,clock,h1,h2,_,rfl⟩:=h;exact⟨es,clock,h1,h2,by rw[Maps.size_eq,length_read];exact Nat.le_refl _,rfl⟩
theorem fa.lt (h:fa W b ps):b < W.heap.size:=by obtain⟨D,h1,_⟩:=h;exact h1.lt
theorem fa.kept {F:Nat->Prop} (h:fa W b ps) (hk:Kept F W W') (hF:¬F b):fa W' b ps:=by obtain⟨D,⟨es,clock,h1,h2⟩,h3⟩:=h;exact⟨D,⟨es,clock,hk.heap h1 hF,h2⟩,h3⟩
theorem fa.below (h:fa W b ps) (hb:Below W.heap.size W W'):fa W' b ps:=h.kept (F:=λ_=>False) (Kept.an hb) (λh=>h)
theorem uT (h:W.mapTurned W' b):Kept (λk=>k=b) W W':=(Kept.refl _ _).grown h.grown (λk hk=> .inl (by injection hk with hk;exact hk.symm))
end
section
variable (w:World) {ops:Array Oper} {rest:List Oper} {o:Oper} {a:Act} {Q:Exit->Act->World->Prop}
theorem EP {b:Nat} {ps:List bk} (hown:fa w b ps) (hg:o.guard=none) (m x:Operand) (hop:o.op=Op.lookup 110 m x true) (hm:a.eval m= .map (some b)) (k:Int) (hx:a.eval x= .int .i64 k) (h0: -9223372036854775808<=k) (h1:k<=9223372036854775807)
 (hK:∀s g,(∀p ∈ ps,(p.af:Int)=k->s=⟨p.bs.toArray⟩/\g=(p.aQ:Int))->wpList Tryz.prog ops Q rest (a.put o.dst (.tuple #[iO s g,.bool (ps.any λp=>(p.af:Int) == k)])) w):wpList Tryz.prog ops Q (o :: rest) a w:=by
 obtain⟨D,h2,h3⟩:=hown;refine wpList_lookup_own_ok w hg m x _ hop 3 171 ko Tryz.underlying110 gw (vx w) _ [] (oQ _ _) b _ D hm h2 _ _ hx (mq k h0 h1) (λv q hv=> ?_);obtain⟨s,g,rfl,hy⟩:=mI hv;rw[h3.has];refine hK s g (λp hp he=> ?_);have h4:=h3.at' p hp (.agg [.lit (.string (⟨#[]⟩:ByteArray).data.toList),.lit (.int .i64 0)]);rw[he]at h4;injection hy with hy _;exact oS (hy.symm.trans h4)
theorem EO {b:Nat} {ps:List bk} (hown:fa w b ps) (hg:o.guard=none) (m x:Operand) (hop:o.op=Op.lookup 110 m x false) (hm:a.eval m= .map (some b)) (k:Int) (hx:a.eval x= .int .i64 k) (h0: -9223372036854775808<=k) (h1:k<=9223372036854775807)
 (hK:∀s g,(∀p ∈ ps,(p.af:Int)=k->s=⟨p.bs.toArray⟩/\g=(p.aQ:Int))->wpList Tryz.prog ops Q rest (a.put o.dst (iO s g)) w):wpList Tryz.prog ops Q (o :: rest) a w:=by
 obtain⟨D,h2,h3⟩:=hown;refine wpList_plain hg λK' hK'=> ?_;obtain⟨v,q,hrun,hv⟩:=h2.lookup ko Tryz.underlying110 (vx w) (oQ _ _) (mq k h0 h1);obtain⟨s,g,rfl,hy⟩:=mI hv;unfold Oper.wp;simp[execOp,hop,hm,hx,hrun,Result.andThen];refine hK' _ _ (hK s g (λp hp he=> ?_));have h4:=h3.at' p hp (.agg [.lit (.string (⟨#[]⟩:ByteArray).data.toList),.lit (.int .i64 0)]);rw[he]at h4;injection hy with hy _;exact oS (hy.symm.trans h4)
end
def eG (W:World) (b r:Nat) (ps:List bk) (left:Lit->Bool) (cnt:Nat):Prop:=∃n D,W.ranges Tryz.prog 3 gw b r n D left cnt/\gD D ps
section
variable {W W':World} {b r cnt:Nat} {ps:List bk} {left:Lit->Bool}
theorem eG.map (h:eG W b r ps left cnt):fa W b ps:=by obtain⟨n,D,h1,h2⟩:=h;exact⟨D,oN h1.owns,h2⟩
theorem eG.left_eq (h:eG W b r ps left cnt):W.rangeLeft b r=cnt:=by obtain⟨n,D,h1,h2⟩:=h;exact h1.left_eq
theorem eG.kept {F:Nat->Prop} (h:eG W b r ps left cnt) (hk:Kept F W W') (hb:¬F b) (hr:¬F r):eG W' b r ps left cnt:=by obtain⟨n,D,⟨es,clock,since,seen,c0,h1,h2,h3,h4,h5,h6⟩,h7⟩:=h;exact⟨n,D,⟨es,clock,since,seen,c0,hk.heap h1 hb,h2,h3,h4,hk.heap h5 hr,h6⟩,h7⟩
theorem yK {row:Option Nat} {F:Nat->Prop} (h:W.grownBy W' row) (hF:∀k,row=some k->F k):Kept F W W':=(Kept.refl _ _).grown h (λk hk=> .inl (hF k hk))
end
section
variable (w:World) {ops:Array Oper} {rest:List Oper} {o:Oper} {a:Act} {Q:Exit->Act->World->Prop}
theorem qg {b:Nat} {ps:List bk} (hown:fa w b ps) (hg:o.guard=none) (m:Operand) (hop:o.op=Op.range 110 m) (hm:a.eval m= .map (some b))
 (hK:∀w' left cnt,eG w' b w.heap.size ps left cnt->(∀k:Int,left (bq k)=ps.any λp=>(p.af:Int) == k)->Below w.heap.size w w'->w'.heap.size=w.heap.size+1->wpList Tryz.prog ops Q rest (a.put o.dst (.pointer (some ⟨w.heap.size,0,none⟩))) w'):wpList Tryz.prog ops Q (o :: rest) a w:=by
 obtain⟨D,h2,h3⟩:=hown;exact wpList_range_own w hg m _ hop 3 171 ko Tryz.underlying110 gw b _ D hm h2 (λw' h4 h5 h6=>hK w' _ _ ⟨_,D,h4,h3⟩ h3.has ⟨h5.os,h5.tape,h5.output,h5.size,λi hi=>h5.block i hi (by simp)⟩ h6)
set_option maxRecDepth 100000 in
theorem qb {b r cnt:Nat} {ps:List bk} {left:Lit->Bool} (h:eG w b r ps left cnt) (hg:o.guard=none) (it:Operand) (hop:o.op=Op.next it false) (hit:a.eval it= .pointer (some ⟨r,0,none⟩))
 (hDone:(∀kl,left kl=false)->wpList Tryz.prog ops Q rest (a.put o.dst (.tuple #[.bool false])) w)
 (hMore:∀ (p:bk) (w':World) (cnt':Nat),p ∈ ps->left (bq p.af)=true->eG w' b r ps (λz=>left z && !z.sameKey (bq p.af)) cnt'->cnt' < cnt->Kept (λk=>k=r) w w'->w'.heap.size=w.heap.size->
   (Instr.entry (.pointer (some ⟨r,0,none⟩))).run Tryz.prog w'= .ok (.tuple #[.int .i64 (p.af:Int),iO ⟨p.bs.toArray⟩ (p.aQ:Int)]) w'->wpList Tryz.prog ops Q rest (a.put o.dst (.tuple #[.bool true,.int .i64 (p.af:Int),iO ⟨p.bs.toArray⟩ (p.aQ:Int)])) w'):
 wpList Tryz.prog ops Q (o :: rest) a w:=by
 obtain⟨n,D,h2,h3⟩:=h
 refine wpList_next_ranges w hg it hop 3 ko gw (Value.int .i64) (λc:ByteArray × Int=>iO c.1 c.2) (λkey kl hkey=>by obtain⟨x,rfl,_⟩:=Maps.keyOf_int_inv Tryz.underlying3 hkey;exact⟨x,rfl⟩) (λv y hv=>by obtain⟨s,g,rfl,_⟩:=mI hv;exact⟨(s,g),rfl⟩)
  b r n D left cnt hit h2 (λ_ hl=>hDone hl) (λx c kl y w' cnt' hkey hl hv hat hrg hlt hgr hsz hen=> ?_)
 obtain⟨x',ex,rfl,_⟩:=Maps.keyOf_int_inv Tryz.underlying3 hkey;cases ex;obtain⟨p,hp,he⟩:=qF ((h3.has x).symm.trans (Maps.has_true_of_atKey hat));subst he;obtain⟨s,g,ev,hy⟩:=mI hv;obtain⟨cs,cg⟩:=c;injection ev with ev;have e1:cs=s/\cg=g:=by have:=congrArg Array.toList ev;simp at this;exact this
 obtain⟨rfl,rfl⟩:=e1;have h4:=(hat (.agg [])).symm.trans (h3.at' p hp (.agg []));rw[hy]at h4;obtain⟨rfl,rfl⟩:=oS h4;exact hMore p w' cnt' hp hl ⟨n,D,hrg,h3⟩ hlt (yK (F:=λk=>k=r) hgr (λk hk=>(Option.some.inj hk).symm)) hsz hen
theorem EN {b r cnt:Nat} {ps:List bk} {left:Lit->Bool} (h:eG w b r ps left cnt) (hn:(ps.map bk.af).Nodup) (hg:o.guard=none) (m x:Operand) (hop:o.op=Op.call { callee:=Callee.builtin Builtin.delete,args:= #[m,x],argTypes:= #[110,3] })
 (hm:a.eval m= .map (some b)) (k:Int) (hx:a.eval x= .int .i64 k) (h0: -9223372036854775808<=k) (h1:k<=9223372036854775807)
 (hK:∀w' cnt',eG w' b r (ps.filter λp=> !((p.af:Int) == k)) (λz=>left z && !z.sameKey (bq k)) cnt'->cnt'<=cnt->Kept (λj=>j=b) w w'->wpList Tryz.prog ops Q rest (a.put o.dst (.tuple #[])) w'):wpList Tryz.prog ops Q (o :: rest) a w:=by
 obtain⟨n,D,h2,h3⟩:=h;exact wpList_delete_ranges w hg m x 110 3 hop 171 ko Tryz.underlying110 gw b r n D left cnt hm h2 _ _ hx (mq k h0 h1) (λw' cnt' h4 h5 h6=>hK w' cnt' ⟨n,_,h4,h3.del hn k⟩ h5 (uT h6))
end
end Go.Proofs.YtiafamacjpgjoaaGreatDoor
