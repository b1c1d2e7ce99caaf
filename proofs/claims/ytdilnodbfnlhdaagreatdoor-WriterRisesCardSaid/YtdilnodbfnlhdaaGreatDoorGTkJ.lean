import Derived.Test.YtdilnodbfnlhdaaGreatDoorGTkA
import Derived.Deep.RegionHeld3
import Derived.Laws.CopyOwn
import Derived.Deep.RegionLaw
set_option maxRecDepth 100000
set_option maxHeartbeats 1000000
namespace Go.Proofs.YtdilnodbfnlhdaaGreatDoor
open Go Go.RowKit Tide
def dy (cs:List Value) (o:Nat) (l:List Int):Prop:=
 ∃z0 z1 z2 z3:Int,cs[o]? =some (.int .i64 z0)/\cs[o+1]? =some (.int .i64 z1)/\cs[o+2]? =some (.int .i64 z2)/\cs[o+3]? =some (.int .i64 z3)/\cs[o+4]? =some (.int .i64 ((min l.length 4:Nat):Int))/\ [z0,z1,z2,z3].take l.length=l.take 4
structure iN (cs:List Value) (s:bZ):Prop where
 n:cs.length=67
 na:s.all.length=13
 ep:cs[0]? =some (.int .i64 s.ep)
 nx:cs[1]? =some (.int .i64 (s.nx:Int))
 row:∀ (x:Nat) (l:List Int),s.all[x]? =some l->dy cs (2+x * 5) l
def cD (w:World) (g:Nat) (cs:List Value):Prop:=w.heap[g]? =some (.cells cs.toArray 128)
def cE (w:World) (g:Nat) (s:bZ):Prop:=∃cs,cD w g cs/\iN cs s
def jk (cs cs':List Value) (o:Nat):Prop:=cs'.length=cs.length/\∀j,j < o\/o+5<=j->cs'[j]? =cs[j]?
theorem dy.off {cs cs':List Value} {o p:Nat} {l:List Int} (h:dy cs p l) (hk:jk cs cs' o) (hd:p+5<=o\/o+5<=p):dy cs' p l:=by obtain⟨z0,z1,z2,z3,h0,h1,h2,h3,h4,h5⟩:=h;exact⟨z0,z1,z2,z3,by rw[hk.2 _ (by omega)];exact h0,by rw[hk.2 _ (by omega)];exact h1,by rw[hk.2 _ (by omega)];exact h2,by rw[hk.2 _ (by omega)];exact h3,by rw[hk.2 _ (by omega)];exact h4,h5⟩
theorem iN.setRow {cs cs':List Value} {s:bZ} (h:iN cs s) {x:Nat} {l:List Int} (hk:jk cs cs' (2+x * 5)) (hr:dy cs' (2+x * 5) l):iN cs' { s with all:=s.all.set x l } where
 n:=hk.1.trans h.n
 na:=by simp[h.na]
 ep:=by rw[hk.2 0 (by omega)];exact h.ep
 nx:=by rw[hk.2 1 (by omega)];exact h.nx
 row:=λy m hm=>by
  rw[List.getElem?_set]at hm;by_cases e:x=y
  · subst e;simp only[if_true]at hm;split at hm
    · injection hm with hm;subst hm;exact hr
    · cases hm
  · simp only[e,if_false]at hm;exact(h.row y m hm).off hk (by omega)
theorem iN.CJ {cs:List Value} {s:bZ} (h:iN cs s) (n:Nat):iN (cs.set 1 (.int .i64 (n:Int))) { s with nx:=n } where
 n:=by simp[h.n]
 na:=h.na
 ep:=by rw[List.getElem?_set];simpa using h.ep
 nx:=by rw[List.getElem?_set];simp[h.n]
 row:=λy m hm=>by obtain⟨z0,z1,z2,z3,h0,h1,h2,h3,h4,h5⟩:=h.row y m hm;refine⟨z0,z1,z2,z3,?_,?_,?_,?_,?_,h5⟩<;>rw[List.getElem?_set,if_neg (by omega)]<;>assumption
theorem dy.add {cs':List Value} {o:Nat} {l:List Int} {a z0 z1 z2 z3:Int} (h: [z0,z1,z2,z3].take l.length=l.take 4) (h0:cs'[o]? =some (.int .i64 a)) (h1:cs'[o+1]? =some (.int .i64 z0)) (h2:cs'[o+2]? =some (.int .i64 z1)) (h3:cs'[o+3]? =some (.int .i64 z2))
 (h4:cs'[o+4]? =some (.int .i64 ((min (l.length+1) 4:Nat):Int))):dy cs' o (a :: l):=by
 refine⟨a,z0,z1,z2,h0,h1,h2,h3,by rw[List.length_cons];exact h4,?_⟩;have e: [z0,z1,z2]= [z0,z1,z2,z3].take 3:=rfl;rw[List.length_cons,List.take_succ_cons,List.take_succ_cons,e,List.take_take,Nat.min_comm,<-List.take_take,h,List.take_take];rfl
theorem dy.put {cs':List Value} {o:Nat} {l:List Int} {z0 z1 z2 z3:Int} (hl:l.length<=4) (hz: [z0,z1,z2,z3].take l.length=l) (h0:cs'[o]? =some (.int .i64 z0)) (h1:cs'[o+1]? =some (.int .i64 z1)) (h2:cs'[o+2]? =some (.int .i64 z2)) (h3:cs'[o+3]? =some (.int .i64 z3))
 (h4:cs'[o+4]? =some (.int .i64 (l.length:Int))):dy cs' o l:=
 ⟨z0,z1,z2,z3,h0,h1,h2,h3,by rw[Nat.min_eq_left hl];exact h4,by rw[hz,List.take_of_length_le hl]⟩
theorem dy.cells {cs:List Value} {o:Nat} {l:List Int} (h:dy cs o l):∀ (j:Nat) (u:Value),(ay (l.take 4))[j]? =some u->cs[o+j]? =some u:=by
 obtain⟨z0,z1,z2,z3,h0,h1,h2,h3,_,h5⟩:=h;intro j u hu;rw[<-h5]at hu;unfold ay at hu;rw[List.getElem?_map]at hu;obtain⟨z,hz,rfl⟩:=Option.map_eq_some_iff.1 hu;rw[List.getElem?_take]at hz;split at hz
 · match j,hz with
   | 0,hz=>injection hz with hz;subst hz;exact h0
   | 1,hz=>injection hz with hz;subst hz;exact h1
   | 2,hz=>injection hz with hz;subst hz;exact h2
   | 3,hz=>injection hz with hz;subst hz;exact h3
   | j+4,hz=>simp at hz
 · cases hz
theorem cD.row {w:World} {g o:Nat} {cs:List Value} {l:List Int} (hb:cD w g cs) (hr:dy cs o l):Row w w.heap.size (.slice (some ⟨g,o,none⟩) (min l.length 4) 4) (ay (l.take 4)):=by
 have e:(ay (l.take 4)).length=min l.length 4:=by rw[dk,List.length_take,Nat.min_comm]
 refine⟨by rw[e];omega,_,4,by rw[e],by rw[e];omega,by omega,λ_=>⟨g,o,rfl,(Array.getElem?_eq_some_iff.1 hb).1,λj u hu=> ?_⟩⟩;rw[cell_of_row _ _ (o+j) _ _ _ hb];simpa using hr.cells j u hu
section
variable {w w':World} {F:Nat->Prop} {g:Nat} {cs:List Value} {s:bZ}
theorem cD.lt (h:cD w g cs):g < w.heap.size:=(Array.getElem?_eq_some_iff.1 h).1
theorem cD.kept (h:cD w g cs) (hk:Kept F w w') (hF:¬F g):cD w' g cs:=hk.heap h hF
theorem cD.cell (h:cD w g cs) {i:Nat} {v:Value} (hi:cs[i]? =some v):w.cell? ⟨g,i,none⟩=some v:=by rw[cell_of_row _ _ i _ _ _ h];simpa using hi
theorem cD.free (h:cD w g cs) (i:Nat):w.frozen? ⟨g,i,none⟩=false:=by unfold cD at h;simp[World.frozen?,h]
theorem cD.set (h:cD w g cs) (i:Nat) (v:Value):cD (w.setCell ⟨g,i,none⟩ v) g (cs.set i v):=by unfold cD at h ⊢;rw[heap_setCell_same _ _ _ _ _ _ h];simp
theorem cE.kept (h:cE w g s) (hk:Kept F w w') (hF:¬F g):cE w' g s:=h.imp λ_ h=>⟨h.1.kept hk hF,h.2⟩
theorem cE.below (h:cE w g s) (hb:Below w.heap.size w w'):cE w' g s:=h.kept (Kept.al (F:=λ_=>False) hb) (λh=>h)
theorem cE.lt (h:cE w g s):g < w.heap.size:=by obtain⟨cs,h,_⟩:=h;exact h.lt
theorem cE.next (h:cE w g s) (n:Nat) (z:Int) (hz:z=(n:Int)):cE (w.setCell ⟨g,1,none⟩ (.int .i64 z)) g { s with nx:=n }:=by obtain⟨cs,hb,hc⟩:=h;subst hz;exact⟨_,hb.set 1 _,hc.CJ n⟩
theorem Kept.one (w:World) (g i:Nat) (v:Value):Kept (λk=>k=g) w (w.setCell ⟨g,i,none⟩ v):=Kept.setCell (F:=λk=>k=g) (Kept.refl _ w) (p:=⟨g,i,none⟩) (.inl rfl) v
end
theorem Cn {P:Program} (w:World) (dT sT ty elem:TypeId) (hu:P.underlying dT=some (.slice elem)) (hsz:(P.info? elem).map (·.size)=some 1) (sp:Option Addr) (dLen dCap sLen sCap g off:Nat)
 (cur:List Value) (t:TypeId) (hg:w.heap[g]? =some (.cells cur.toArray t (0,0))) (cs:List Value) (hn:cs.length=Nat.min sLen dLen)
 (hpos:0 < cs.length->∃ad,sp=some ad/\∀j v,cs[j]? =some v->w.cell? (ad.add j)=some v) (hfit:off+cs.length<=cur.length) (h1:∀v ∈ cs,v.oneCell'=true):
 ∃w',(Builtin.copy_ #[dT,sT] ty #[.slice (some ⟨g,off,none⟩) dLen dCap,.slice sp sLen sCap]).run P w= .ok (goInt cs.length) w'/\w'.heap[g]? =some (.cells (splice cur off cs).toArray t (0,0))/\Kept (λk=>k=g) w w':=by
 by_cases h0:cs.length=0
 · obtain rfl:cs= []:=List.eq_nil_of_length_eq_zero h0;exact⟨w,run_copy_none w dT sT ty elem _ _ dLen dCap sLen sCap hu hsz (by simpa using hn.symm),by simpa[splice]using hg,Kept.refl _ w⟩
 · obtain⟨ad,rfl,hsrc⟩:=hpos (by omega);exact⟨_,run_copy_row P w dT sT ty elem g off dLen dCap ad sLen sCap cur.toArray t cs hu hsz hg hn hsrc (by simpa using hfit) h1,by simpa[splice]using setRow_heap w g _ _ t _ hg,rfl,rfl,rfl,by simp[World.setRow],λk _ hk=>setRow_other w g k _ (λe=>hk e)⟩
theorem DJ {P:Program} {ops:Array Oper} {o:Oper} {a:Act} {w:World} {K:Act->World->Prop} {Q:Exit->Act->World->Prop} {E:Prop} (hgd:o.guard=none) (d s:Operand) (dT sT:TypeId)
 (ho:o.op= .call { callee:= .builtin .copy,args:= #[d,s],argTypes:= #[dT,sT] }) (elem:TypeId) (hu:P.underlying dT=some (.slice elem)) (hsz:(P.info? elem).map (·.size)=some 1)
 (sp:Option Addr) (dLen dCap sLen sCap g off:Nat) (hd:a.eval d= .slice (some ⟨g,off,none⟩) dLen dCap) (hs:a.eval s= .slice sp sLen sCap)
 (cur:List Value) (t:TypeId) (hg:w.heap[g]? =some (.cells cur.toArray t (0,0))) (cs:List Value) (hn:cs.length=Nat.min sLen dLen)
 (hpos:0 < cs.length->∃ad,sp=some ad/\∀j v,cs[j]? =some v->w.cell? (ad.add j)=some v)
 (hfit:off+cs.length<=cur.length) (h1:∀v ∈ cs,v.oneCell'=true)
 (h:∀w',w'.heap[g]? =some (.cells (splice cur off cs).toArray t (0,0))->Kept (λk=>k=g) w w'->K (a.put o.dst (goInt cs.length)) w'):
 if Region.wanted o (yielded ops a.tmps)=true then Oper.wp P o a w K Q else E:=by
 have hw:Region.wanted o (yielded ops a.tmps)=true:=by simp[Region.wanted,hgd]
 rw[if_pos hw];by_cases h0:cs.length=0
 · obtain rfl:cs= []:=List.eq_nil_of_length_eq_zero h0;have hrun:=run_copy_none (P:=P) w dT sT o.type elem (some ⟨g,off,none⟩) sp dLen dCap sLen sCap hu hsz (by simpa using hn.symm);unfold Oper.wp;simp[execOp,ho,resolve,invoke,builtin,hd,hs,hrun,Result.andThen];exact h w (by simpa[splice]using hg) (Kept.refl _ w)
 · obtain⟨ad,rfl,hsrc⟩:=hpos (by omega);have hrun:=run_copy_row (P:=P) w dT sT o.type elem g off dLen dCap ad sLen sCap cur.toArray t cs hu hsz hg hn hsrc (by simpa using hfit) h1;unfold Oper.wp;simp[execOp,ho,resolve,invoke,builtin,hd,hs,hrun,Result.andThen];exact h _ (by simpa[splice]using setRow_heap w g _ _ t _ hg) ⟨rfl,rfl,rfl,by simp[World.setRow],λk _ hk=>setRow_other w g k _ (λe=>hk e)⟩
theorem tg {cs xs:List Value} {off j:Nat} (h:j < xs.length) (hf:off+xs.length<=cs.length):(splice cs off xs)[off+j]? =xs[j]? :=by
 have hl:(cs.take off).length=off:=by rw[List.length_take];omega
 unfold splice;rw[List.getElem?_append_right (by omega),hl,Nat.add_sub_cancel_left,List.getElem?_append_left h]
theorem oO {cs xs:List Value} {off j:Nat} (h:j < off\/off+xs.length<=j) (hf:off+xs.length<=cs.length):(splice cs off xs)[j]? =cs[j]? :=by
 have hl:(cs.take off).length=off:=by rw[List.length_take];omega
 unfold splice;rcases h with h|h
 · rw[List.getElem?_append_left (by omega),List.getElem?_take_of_lt h]
 · rw[List.getElem?_append_right (by omega),hl,List.getElem?_append_right (by omega),List.getElem?_drop]
   congr 1
   omega
end Go.Proofs.YtdilnodbfnlhdaaGreatDoor
namespace Go.Proofs.YtdilnodbfnlhdaaGreatDoor
open Go Go.RowKit Tide
theorem uK {w:World} {g o:Nat} {cs:List Value} {l:List Int} (a:Int) (hb:cD w g cs) (hr:dy cs o l):
 Calls Tryz.prog 147 #[.pointer (some ⟨g,o,none⟩),.int .i64 a] w λe w'=>e= .returned (.tuple #[])/\Kept (λk=>k=g) w w'/\∃cs',cD w' g cs'/\jk cs cs' o/\dy cs' o (a :: l):=by
 obtain⟨z0,z1,z2,z3,h0,h1,h2,h3,h4,h5⟩:=hr;have c0:=hb.cell h0;have c1:=hb.cell h1;have c2:=hb.cell h2;have hlen:o+4 < cs.length:=(List.getElem?_eq_some_iff.1 h4).1;have hg:=hb.lt;have HB:=ab hb;have HS:=ab (show ∀j v, [Value.int .i64 z0,Value.int .i64 z1,Value.int .i64 z2][j]? =some v->w.cell? ((⟨g,o,none⟩:Addr).add j)=some v from λj v hv=>by
  have e:(⟨g,o,none⟩:Addr).add j=⟨g,o+j,none⟩:=da g o j;rw[e]
  match j,hv with
  | 0,hv=>injection hv with hv;subst hv;exact c0
  | 1,hv=>injection hv with hv;subst hv;exact c1
  | 2,hv=>injection hv with hv;subst hv;exact c2)
 have X:=λ(j:Nat) (hj:j < 3)=>tg (cs:=cs) (off:=o+1) (xs:= [Value.int .i64 z0,Value.int .i64 z1,Value.int .i64 z2]) (j:=j) hj (by simp;omega);have Y:=λ(j:Nat) (hj:j < o+1\/o+4<=j)=>oO (cs:=cs) (off:=o+1) (xs:= [Value.int .i64 z0,Value.int .i64 z1,Value.int .i64 z2]) (j:=j) (by simpa using hj) (by simp;omega);have hl1:(splice cs (o+1) [Value.int .i64 z0,Value.int .i64 z1,Value.int .i64 z2]).length=cs.length:=length_splice _ _ _ (by simp;omega);have HX:=ab (And.intro X (And.intro Y hl1));have H4:=ab h4;have H0:=ab h0;have H5:=ab h5;have HL:=ab hlen;have C0:=ab c0;obtain⟨i0,hi,hz0,hz1,hz2⟩:=info_parts jF;have HI:=ab (show(Tryz.prog.info? 3).map (·.size)=some 1 from by rw[hi];simp[hz1]);clear X Y hl1 c0 c1 c2 hg h0 h1 h2 h3 h4 h5 hb hlen hi
 go_enter Tryz.func147,Tryz.ntmps147
 go_wp2_with fail
 go_region_held3 (λW=>W.cell? ⟨g,o,none⟩=some (.int .i64 z0))
  (first|exact C1.out|exact C0.out|assumption)
  (first
    | (refine DJ rfl (.tmp 7) (.tmp 11) _ _ rfl 3 Tryz.underlying71 HI.out _ 3 3 4 4 g (o+1) rfl rfl cs _ HB.out [Value.int .i64 z0,Value.int .i64 z1,Value.int .i64 z2] rfl (λ_=>⟨_,rfl,HS.out⟩) (by simp;have:=HL.out;omega) (λv hv=>by simp at hv;rcases hv with rfl|rfl|rfl<;>rfl) ?_;intro w1 hb1 hk1;have B1:=ab hb1;have K1:=ab hk1;have C1:=ab (cD.cell hb1 (((HX.out.2.1 o (by omega)).trans H0.out)));clear hb1 hk1))
 have K2:=ab (show Kept (λk=>k=g) w w1 from(Kept.refl _ w).drew.trans K1.out (λi h=> .inl h));obtain⟨cs1,hcs1⟩:=aa (splice cs (o+1) [Value.int .i64 z0,Value.int .i64 z1,Value.int .i64 z2]);rw[hcs1]at B1 HX;have B1:=ab (show cD w1 g cs1 from B1.out);have c0:=C1.out;have f0:=B1.out.free o;have f4:=B1.out.free (o+4);obtain⟨m,hm⟩:=aa (min l.length 4);have hm4:m<=4:=by omega
 have c4:=B1.out.cell (((HX.out.2.1 (o+4) (by omega)).trans H4.out));rw[hm]at c4;have hg1:=B1.out.lt;have HM:=ab hm;obtain⟨n1,hn1⟩:∃n1,n1=m+1:=⟨_,rfl⟩;have HN1:=ab hn1;have q1:wrap64 ((m:Int)+1)=(n1:Int):=by unfold wrap64;omega
 have q2:IntKind.i64.wrap ((m:Int)+1)=(n1:Int):=by simp[IntKind.wrap,IntKind.signed,IntKind.bits];omega
 clear hn1;have HF:=ab (show ∀nv:Int,nv=((min (l.length+1) 4:Nat):Int)->Kept (λk=>k=g) w ((w1.setCell ⟨g,o,none⟩ (.int .i64 a)).setCell ⟨g,o+4,none⟩ (.int .i64 nv))/\∃cs',cD ((w1.setCell ⟨g,o,none⟩ (.int .i64 a)).setCell ⟨g,o+4,none⟩ (.int .i64 nv)) g cs'/\jk cs cs' o/\dy cs' o (a :: l) from λnv hnv=>by
  obtain⟨x1,x2,x3⟩:=HX.out;have hlen:=HL.out;refine⟨(K2.out.setCell (p:=⟨g,o,none⟩) (.inl rfl) _).setCell (p:=⟨g,o+4,none⟩) (.inl rfl) _,_,(B1.out.set o _).set (o+4) _,⟨by simp[x3],λj hj=> ?_⟩,dy.add H5.out ?_ ?_ ?_ ?_ ?_⟩
  · rw[List.getElem?_set_ne (by omega),List.getElem?_set_ne (by omega)];exact x2 j (by omega)
  · rw[List.getElem?_set_ne (by omega),List.getElem?_set_self (by omega)]
  · rw[List.getElem?_set_ne (by omega),List.getElem?_set_ne (by omega)];exact x1 0 (by omega)
  · rw[List.getElem?_set_ne (by omega),List.getElem?_set_ne (by omega)];exact x1 1 (by omega)
  · rw[List.getElem?_set_ne (by omega),List.getElem?_set_ne (by omega)];exact x1 2 (by omega)
  · rw[List.getElem?_set_self (by simp;omega),hnv])
 clear C0 C1 K1 hcs1 hm H4 H0 HB HS
 go_wp2_with fail
 all_goals
  go_end0
  exact⟨rfl,HF.out _ (by have:=HM.out;have:=HN1.out;omega)⟩
theorem yV {w:World} {g o:Nat} {cs:List Value} {l:List Int} (hb:cD w g cs) (hr:dy cs o l):
 Calls Tryz.prog 166 #[.pointer (some ⟨g,o,none⟩)] w λe w'=>∃v,e= .returned v/\Own w' w.heap.size v (l.take 4)/\Below w.heap.size w w':=by
 have HR:=ab (hb.row hr);obtain⟨z0,z1,z2,z3,h0,h1,h2,h3,h4,h5⟩:=hr;have c4:=hb.cell h4;have hg:=hb.lt;obtain⟨m,hm⟩:=aa (min l.length 4);rw[hm]at c4 HR;have hm4:(m:Int)<=4:=by omega
 have HL:=ab (show(ay (l.take 4)).length=m from by rw[dk,List.length_take,Nat.min_comm];exact hm);have C4:=ab c4;have HM4:=ab hm4;obtain⟨i0,hi,hz0,hz1,hz2⟩:=info_parts jF;have HI:=ab hi;obtain⟨l4,hl4⟩:=aa (l.take 4);rw[hl4]at HR HL;rw[hl4];clear hi hl4 hb h0 h1 h2 h3 h4 h5 hm
 go_enter Tryz.func166,Tryz.ntmps166
 go_wp2_with fail
 go_region_held3 (λW=>W.cell? ⟨g,o+4,none⟩=some (.int .i64 (m:Int)))
  (first|exact C4.out|exact C5.out|assumption)
  (first
    | (refine jf _ rfl _ (.tmp 10) _ rfl w.heap.size 3 i0 (.int .i64 0) 8 Tryz.underlying71 HI.out hz0 hz1 hz2 rfl _ 0 [] rfl (World.ownsRow_nil _ _ _ 1) w.heap.size _ (ay l4) rfl HR.out (lE l4) ?_ ?_ ?_ ?_;(rw[HL.out];unfold maxLen;have:=HM4.out;omega);(rw[HL.out];have:=HM4.out;omega);(simp);intro v1 w1 h1 h2 h3 h4;have O1:=ab (show Own w1 w.heap.size v1 l4 from(by unfold Own;rw[dk,Nat.zero_add]at h1;exact h1));have B1:=ab (show Below w.heap.size w w1 from((Below.refl w.heap.size w).drew).trans h4);have C5:=ab ((B1.out.cell (p:=⟨g,o+4,none⟩) hg).trans C4.out);clear h1 h2 h3 h4))
 clear c4 C4 C5
 go_wp2_with fail
 go_ret
 exact⟨_,rfl,O1.out,B1.out⟩
theorem CZ {w:World} {g o:Nat} {cs:List Value} {l0:List Int} (l:List Int) (v:Value) (B:Nat) (hb:cD w g cs) (hz:dy cs o l0) (hv:Row w B v (ay l)) (hl:l.length<=4):
 Calls Tryz.prog 65 #[.pointer (some ⟨g,o,none⟩),v] w λe w'=>e= .returned (.tuple #[])/\Kept (λk=>k=g) w w'/\∃cs',cD w' g cs'/\jk cs cs' o/\dy cs' o l:=by
 obtain⟨z0,z1,z2,z3,h0,h1,h2,h3,h4,_⟩:=hz;have hlen:o+4 < cs.length:=(List.getElem?_eq_some_iff.1 h4).1;have hg:=hb.lt;have HB:=ab hb;obtain⟨_,A,c,rfl,hc⟩:=dn hv;have e:=dk l;have HS:=ab (show 0 < (ay l).length->∃ad,A=some ad/\∀j v,(ay l)[j]? =some v->w.cell? (ad.add j)=some v from λh0=>by
  obtain⟨b,o',rfl,_,_⟩:=hc 0 (by omega);refine⟨_,rfl,λj v hj=> ?_⟩;have hj':j < l.length:=by have:=(List.getElem?_eq_some_iff.1 hj).1;omega
  obtain⟨b1,o1,e1,_,hcell⟩:=hc j hj';injection e1 with e1;injection e1 with e1 e2;subst e1 e2;rw[da,hcell];simp only[ay,List.getElem?_map,List.getElem?_eq_getElem hj',Option.map_some]at hj;exact hj)
 have HE:=ab e;have HMn:=ab (show(ay l).length=Nat.min l.length 4 from by rw[e];exact(Nat.min_eq_left hl).symm);have HFt:=ab (show o+(ay l).length<=cs.length from by rw[e];omega);have HL:=ab (And.intro hl hlen);have HC:=ab (And.intro h0 (And.intro h1 (And.intro h2 (And.intro h3 h4))));obtain⟨i0,hi,hz0,hz1,hz2⟩:=info_parts jF;have HI:=ab (show(Tryz.prog.info? 3).map (·.size)=some 1 from by rw[hi];simp[hz1]);clear hi hz0 hz1 hz2 h0 h1 h2 h3 h4 hc hv e hb
 go_enter Tryz.func65,Tryz.ntmps65
 obtain⟨w1,hrun,hb1,hk1⟩:=Cn w 71 71 3 3 Tryz.underlying71 HI.out A 4 4 l.length c g o cs _ HB.out (ay l) HMn.out HS.out HFt.out (lE l);have hrun2:=HE.out;have hlen1:(splice cs o (ay l)).length=cs.length:=length_splice _ _ _ HFt.out;have hz:∀ (i:Nat) (z:Int),i < 4->cs[o+i]? =some (.int .i64 z)->∃z':Int,(splice cs o (ay l))[o+i]? =some (.int .i64 z')/\∀h:i < l.length,z'=l[i]:=λi z hi hc=>by
  by_cases h:i < l.length
  · exact⟨l[i],by rw[tg (by rw[hrun2];exact h) HFt.out];simp[ay,h],λ_=>rfl⟩
  · exact⟨z,by rw[oO (by rw[hrun2];omega) HFt.out];exact hc,λh'=>absurd h' h⟩
 have hz5:∀j,j < o\/o+4<=j->(splice cs o (ay l))[j]? =cs[j]? :=λj hj=>oO (by rw[hrun2];omega) HFt.out;obtain⟨h0,h1,h2,h3,h4⟩:=HC.out;obtain⟨y0,e0,g0⟩:=hz 0 z0 (by omega) h0;obtain⟨y1,e1,g1⟩:=hz 1 z1 (by omega) h1;obtain⟨y2,e2,g2⟩:=hz 2 z2 (by omega) h2;obtain⟨y3,e3,g3⟩:=hz 3 z3 (by omega) h3;obtain⟨cs1,hcs1⟩:=aa (splice cs o (ay l));have hb1:cD w1 g (splice cs o (ay l)):=hb1;rw[hcs1]at hlen1 hz5 e0 e1 e2 e3 hb1;have htk: [y0,y1,y2,y3].take l.length=l:=by
  clear hrun hrun2 hz hz5 HS HE HMn HFt hlen1 hcs1;rcases l with _|⟨a,_|⟨b,_|⟨c,_|⟨d,_|⟨e,l⟩⟩⟩⟩⟩
  · rfl
  · rw[g0 (by simp)];rfl
  · rw[g0 (by simp),g1 (by simp)];rfl
  · rw[g0 (by simp),g1 (by simp),g2 (by simp)];rfl
  · rw[g0 (by simp),g1 (by simp),g2 (by simp),g3 (by simp)];rfl
  · simp at hl
 have HF:=ab (show Kept (λk=>k=g) w (w1.setCell ⟨g,o+4,none⟩ (.int .i64 (l.length:Int)))/\∃cs',cD (w1.setCell ⟨g,o+4,none⟩ (.int .i64 (l.length:Int))) g cs'/\jk cs cs' o/\dy cs' o l from by
  refine⟨hk1.setCell (p:=⟨g,o+4,none⟩) (.inl rfl) _,_,hb1.set (o+4) _,⟨by simp[hlen1],λj hj=> ?_⟩,dy.put hl htk ?_ ?_ ?_ ?_ ?_⟩
  · rw[List.getElem?_set_ne (by omega)];exact hz5 j (by omega)
  · rw[List.getElem?_set_ne (by omega)];exact e0
  · rw[List.getElem?_set_ne (by omega)];exact e1
  · rw[List.getElem?_set_ne (by omega)];exact e2
  · rw[List.getElem?_set_ne (by omega)];exact e3
  · rw[List.getElem?_set_self (by omega)])
 have f4:=hb1.free (o+4);have c4:=hb1.cell ((hz5 (o+4) (by omega)).trans h4);have hg1:=hb1.lt;have hb4:(goInt ((ay l).length:Int))= .int .i64 (l.length:Int):=by rw[hrun2];simp[goInt]
 clear hz hz5 e0 e1 e2 e3 g0 g1 g2 g3 h0 h1 h2 h3 h4 htk hk1 hb1 hcs1 hlen1 hl hlen
 go_wp2_with fail
 go_end0
 exact⟨rfl,HF.out⟩
end Go.Proofs.YtdilnodbfnlhdaaGreatDoor
