import Derived.Test.YtdilnodbfnlhdaaGreatDoorGDgR
import Derived.RangeFuncBox
import Derived.Deep.AppendLies
import Derived.Deep.RegionLaw
set_option maxRecDepth 100000
set_option maxHeartbeats 2000000
namespace Go.Proofs.YtdilnodbfnlhdaaGreatDoor
open Go.RowKit Tide
section
variable {W W':World} {F:Nat->Prop} {p:Nat} {ae now:List UInt8} {ts:List Wr} {bd cd bn cn:Nat} {vp:Value} {st:Bool} {lf:Nat}
theorem aK.sx (h:aK W F p ae now ts bd cd bn cn vp st lf) {G:Nat->Prop} (hk:Kept G W W') (hG:∀k,F k->G k->vp.ownBlock=some k) {ts':List Wr} {vp':Value} {F':Nat->Prop}
 (hF:∀k,F k->F' k) (hlt:∀k,F' k->k < W'.heap.size) (hpn:W'.ownsRow 0 298 2 vp' ts'.length (ts'.flatMap Wr.cells)) (hwr:∀t ∈ ts',W'.ownsRow 0 5 1 (sl t.g 64 t.cap) 64 (aj t.b))
 (hf1:∀k,vp'.ownBlock=some k->F' k) (hf2:∀t ∈ ts',F' t.g) (hn1:∀k,vp'.ownBlock=some k->k≠p/\k≠bd/\k≠bn) (hn2:∀t ∈ ts',t.g≠p/\t.g≠bd/\t.g≠bn/\vp'.ownBlock≠some t.g):
 aK (W'.setCell ⟨p,2,none⟩ vp') F' p ae now ts' bd cd bn cn vp' st lf:=by
 have hK:Kept (λk=>k=p) W' (W'.setCell ⟨p,2,none⟩ vp'):=(Kept.refl (λk=>k=p) W').setCell (p:=⟨p,2,none⟩) (.inl rfl) vp';have hp:¬G p:=λhg=>(h.eT p (hG p h.fp.1 hg)).1 rfl;have hd:¬G bd:=λhg=>(h.eT bd (hG bd h.fp.2.1 hg)).2.1 rfl;have hn:¬G bn:=λhg=>(h.eT bn (hG bn h.fp.2.2.1 hg)).2.2 rfl;have hblk:=hk.heap h.block hp
 exact {
  block:=oG hblk vp'
  eA:=hK.own (hk.own h.eA (λk e=>by cases e;exact hd)) (λk e=>by cases e;exact λe=>h.ne.1 e.symm)
  now:=hK.own (hk.own h.now (λk e=>by cases e;exact hn)) (λk e=>by cases e;exact λe=>h.ne.2.1 e.symm)
  aq:=hK.own hpn (λk e=>(hn1 k e).1)
  wr:=λt ht=>hK.own (hwr t ht) (λk e=>by cases e;exact(hn2 t ht).1)
  fp:=⟨hF _ h.fp.1,hF _ h.fp.2.1,hF _ h.fp.2.2.1,hf1,hf2⟩
  lt:=λk hf=>Nat.lt_of_lt_of_le (hlt k hf) hK.size
  ne:=h.ne
  eT:=hn1
  new:=hn2 }
theorem aK.snoc (h:aK W F p ae now ts bd cd bn cn vp st lf) {W1 W9:World} (hb:Below W.heap.size W W1) {g1 cap1 i:Nat} {b:List UInt8} (ho:W1.ownsRow W.heap.size 5 1 (sl g1 64 cap1) 64 (aj b)) (hg:W1.grownBy W9 vp.ownBlock) {g cap:Nat}
 (hown:W9.ownsRow 0 298 2 (sl g (ts.length+1) cap) (ts.length+1) (ts.flatMap Wr.cells ++ [.int .i64 (i:Int),sl g1 64 cap1])) (hat:vp.ownBlock=some g\/g=W1.heap.size):
 aK (W9.setCell ⟨p,2,none⟩ (sl g (ts.length+1) cap)) (λk=>F k\/(W.heap.size<=k/\k < W9.heap.size)) p ae now (ts ++ [⟨i,b,g1,cap1⟩]) bd cd bn cn (sl g (ts.length+1) cap) st lf/\Kept F W (W9.setCell ⟨p,2,none⟩ (sl g (ts.length+1) cap)):=by
 have hg1:=ho.lt g1 rfl;have hg2:=(hown.lt g rfl).2;have hpl:=h.iC;have hdl:=h.lt _ h.fp.2.1;have hnl:=h.lt _ h.fp.2.2.1;have hvl:∀k,vp.ownBlock=some k->k < W.heap.size:=λk e=>h.lt k (h.fp.2.2.2.1 k e);have hz1:=hb.size;have hz9:=hg.size;have hK1:Kept (λk=>vp.ownBlock=some k) W1 W9:=(Kept.refl _ _).grown hg (λk e=> .inl e);have hK:Kept (λk=>vp.ownBlock=some k) W W9:=(Kept.al hb).trans hK1 (λk e=> .inl e);have hgn:g≠p/\g≠bd/\g≠bn:=by
  rcases hat with e|e
  · exact h.eT g e
  · refine⟨?_,?_,?_⟩<;>omega
 refine⟨h.sx hK (λ_ _ e=>e) (λk hf=> .inl hf) ?_ ?_ ?_ ?_ ?_ ?_ ?_,?_⟩
 · rintro k (hf|hf)
   · have:=h.lt k hf;omega
   · exact hf.2
 · rw[List.length_append,List.flatMap_append];exact hown
 · intro t ht;rcases List.mem_append.1 ht with ht|ht
   · exact hK.own (h.wr t ht) (λk e=>by cases e;exact(h.new t ht).2.2.2)
   · simp only[List.mem_singleton]at ht;subst ht;exact hK1.own (eW ho (Nat.zero_le _)) (λk e=>by
      have e:g1=k:=by simpa[Value.ownBlock]using e
      subst e;intro e;have:=hvl _ e;omega)
 · intro k e;have e:g=k:=by simpa[Value.ownBlock]using e
   subst e;rcases hat with e|e
   · exact .inl (h.fp.2.2.2.1 _ e)
   · exact .inr ⟨by omega,hg2⟩
 · intro t ht;rcases List.mem_append.1 ht with ht|ht
   · exact .inl (h.fp.2.2.2.2 t ht)
   · simp only[List.mem_singleton]at ht;subst ht;exact .inr ⟨hg1.1,Nat.lt_of_lt_of_le hg1.2 hz9⟩
 · intro k e;cases e;exact hgn
 · intro t ht;rcases List.mem_append.1 ht with ht|ht
   · obtain⟨n1,n2,n3,n4⟩:=h.new t ht;refine⟨n1,n2,n3,λe=> ?_⟩;have e:g=t.g:=by simpa[Value.ownBlock]using e
     rcases hat with e2|e2
     · exact n4 (by rw[<-e];exact e2)
     · have:=h.lt _ (h.fp.2.2.2.2 t ht);omega
   · simp only[List.mem_singleton]at ht;subst ht;refine⟨by show g1≠p;omega,by show g1≠bd;omega,by show g1≠bn;omega,λe=> ?_⟩;have e:g=g1:=by simpa[Value.ownBlock]using e
     rcases hat with e2|e2
     · have:=hvl _ e2;omega
     · omega
 · exact(hK.mono (λk _ e=>h.fp.2.2.2.1 k e)).setCell (.inl h.fp.1) _
theorem aK.sw (h:aK W F p ae now ts bd cd bn cn vp st lf) {now':List UInt8} (ho:W'.ownsRow 0 5 1 (sl bn ae.length cn) ae.length (aj now')) (hg:W.grownBy W' (some bn)):aK W' F p ae now' ts bd cd bn cn vp st lf/\Kept F W W':=by
 have hK:Kept (λk=>k=bn) W W':=(Kept.refl _ _).grown hg (λk e=> .inl (by injection e with e;exact e.symm))
 exact⟨{
  block:=hK.heap h.block h.ne.2.1
  eA:=hK.own h.eA (λk e=>by cases e;exact h.ne.2.2)
  now:=ho
  aq:=hK.own h.aq (λk e=>(h.eT k e).2.2)
  wr:=λt ht=>hK.own (h.wr t ht) (λk e=>by cases e;exact(h.new t ht).2.2.1)
  fp:=h.fp
  lt:=λk hf=>Nat.lt_of_lt_of_le (h.lt k hf) hK.size
  ne:=h.ne
  eT:=h.eT
  new:=h.new },hK.mono (λk _ e=>by subst e;exact h.fp.2.2.1)⟩
theorem aK.BQ (h:aK W F p ae now ts bd cd bn cn vp st lf) {img':List UInt8} (hl:img'.length=ae.length) (ho:W'.ownsRow 0 5 1 (sl bd ae.length cd) ae.length (aj img')) (hK:Kept (λk=>k=bd) W W'):aK W' F p img' now ts bd cd bn cn vp st lf:=by
 exact {
  block:=by rw[hl];exact hK.heap h.block h.ne.1
  eA:=by rw[hl];exact ho
  now:=by rw[hl];exact hK.own h.now (λk e=>by cases e;exact λe=>h.ne.2.2 e.symm)
  aq:=hK.own h.aq (λk e=>(h.eT k e).2.1)
  wr:=λt ht=>hK.own (h.wr t ht) (λk e=>by cases e;exact(h.new t ht).2.1)
  fp:=h.fp
  lt:=λk hf=>Nat.lt_of_lt_of_le (h.lt k hf) hK.size
  ne:=h.ne
  eT:=h.eT
  new:=h.new }
theorem aK.clear (h:aK W F p ae now ts bd cd bn cn vp st lf):aK (W.setCell ⟨p,2,none⟩ (.slice none 0 0)) F p ae now [] bd cd bn cn (.slice none 0 0) st lf:=
 h.sx (G:=λ_=>False) (Kept.refl _ _) (λ_ _ h=>h.elim) (λ_ h=>h) h.lt ⟨rfl,.inl ⟨rfl,rfl⟩⟩ (λt ht=>by cases ht) (λk e=>by cases e) (λt ht=>by cases ht) (λk e=>by cases e) (λt ht=>by cases ht)
end
end Go.Proofs.YtdilnodbfnlhdaaGreatDoor
namespace Go.Proofs.YtdilnodbfnlhdaaGreatDoor
open Go.RowKit Tide
def dS (kv bz cut:Int) (k:Nat):Nat:=if(k:Int)=bz then(cut % 65).toNat else if bits BinOp.and IntKind.u64 (kv / 2 ^ (k % 64)) 1=1 then 64 else 0
theorem ll (kv bz cut:Int) (k:Nat):dS kv bz cut k<=64:=by
 unfold dS;split
 · omega
 · split<;>omega
def ez (c:Nat->Nat) (ts:List Wr):List (Wr × Nat):=ts.mapIdx λk t=>(t,c k)
def bC (ae:List UInt8) (xs:List (Wr × Nat)):List UInt8:=xs.foldl (λd x=>splice d (64 * x.1.sec) (x.1.b.take x.2)) ae
theorem oS (l b:List UInt8) (o:Nat):splice (aj l) o (aj b)=aj (splice l o b):=by unfold splice aj;rw[List.length_map,List.map_append,List.map_append,List.map_take,List.map_drop]
theorem Ah (ae:List UInt8) (xs:List (Wr × Nat)) (x:Wr × Nat):bC ae (xs ++ [x])=splice (bC ae xs) (64 * x.1.sec) (x.1.b.take x.2):=by unfold bC;rw[List.foldl_append];rfl
theorem mv (l:List UInt8) (s m:Nat) (b:List UInt8) (hb:b.length=64) (hm:m<=64) (h:64 * s+64<=l.length):splice l (64 * s) (b.take m)=dg l (s,b.take m ++ (ak l s).drop m):=by
 unfold splice dg ak;simp only;have hlm:(b.take m).length=m:=by rw[List.length_take];omega
 simp only[List.append_assoc];rw[hlm,List.drop_take]
 congr 2
 rw[<-List.drop_drop,<-List.drop_drop];have h1:((l.drop (64 * s)).drop m).length>=64 - m:=by rw[List.length_drop,List.length_drop];omega
 conv=>lhs;rw[<-List.take_append_drop (64 - m) ((l.drop (64 * s)).drop m)]
 congr 1
 simp only[List.drop_drop]
 congr 1
 omega
def ij (m:Nat) (xs:List (Wr × Nat)):Prop:=∀x ∈ xs,x.1.sec < m/\x.1.b.length=64/\x.2<=64
theorem lX {ae:List UInt8} {m:Nat} (hi:ae.length=64 * m) {x:Wr × Nat} (h:x.1.sec < m/\x.1.b.length=64/\x.2<=64):(x.1.b.take x.2 ++ (ak ae x.1.sec).drop x.2).length=64:=by rw[List.length_append,List.length_take,List.length_drop,gV _ _ (by omega)];omega
theorem lP (m:Nat):∀ (xs:List (Wr × Nat)) (ae:List UInt8),ij m xs->ae.length=64 * m->(bC ae xs).length=64 * m
 | [],_,_,hi=>hi
 | x :: xs,ae,h,hi=>by
   have hx:=h x (by simp);have e:bC ae (x :: xs)=bC (dg ae (x.1.sec,x.1.b.take x.2 ++ (ak ae x.1.sec).drop x.2)) xs:=by show bC (splice ae (64 * x.1.sec) (x.1.b.take x.2)) xs=_;rw[mv _ _ _ _ hx.2.1 hx.2.2 (by omega)]
   rw[e];exact lP m xs _ (λy hy=>h y (by simp[hy])) (by rw[jS _ _ (by show 64 * x.1.sec+64<=_;omega) (lX hi hx)];exact hi)
theorem lO (m i:Nat):∀ (xs:List (Wr × Nat)) (ae:List UInt8),ij m xs->ae.length=64 * m->(∀x ∈ xs,x.1.sec≠i)->ak (bC ae xs) i=ak ae i
 | [],_,_,_,_=>rfl
 | x :: xs,ae,h,hi,hf=>by
   have hx:=h x (by simp);have e:bC ae (x :: xs)=bC (dg ae (x.1.sec,x.1.b.take x.2 ++ (ak ae x.1.sec).drop x.2)) xs:=by show bC (splice ae (64 * x.1.sec) (x.1.b.take x.2)) xs=_;rw[mv _ _ _ _ hx.2.1 hx.2.2 (by omega)]
   have hl:64 * x.1.sec+64<=ae.length:=by omega
   rw[e,lO m i xs _ (λy hy=>h y (by simp[hy])) (by rw[jS _ _ hl (lX hi hx)];exact hi) (λy hy=>hf y (by simp[hy])),mu _ _ hl (lX hi hx),if_neg (hf x (by simp))]
theorem rT (m:Nat):∀ (xs:List (Wr × Nat)) (ae:List UInt8),ij m xs->ae.length=64 * m->(xs.map λx=>x.1.sec).Nodup->∀x ∈ xs,ak (bC ae xs) x.1.sec=x.1.b.take x.2 ++ (ak ae x.1.sec).drop x.2
 | [],_,_,_,_,x,hx=>by cases hx
 | y :: xs,ae,h,hi,hn,x,hx=>by
   have hy:=h y (by simp);have hl:64 * y.1.sec+64<=ae.length:=by omega
   have hpl:=lX hi hy;have e:bC ae (y :: xs)=bC (dg ae (y.1.sec,y.1.b.take y.2 ++ (ak ae y.1.sec).drop y.2)) xs:=by show bC (splice ae (64 * y.1.sec) (y.1.b.take y.2)) xs=_;rw[mv _ _ _ _ hy.2.1 hy.2.2 (by omega)]
   have hl2:(dg ae (y.1.sec,y.1.b.take y.2 ++ (ak ae y.1.sec).drop y.2)).length=64 * m:=by rw[jS _ _ hl hpl];exact hi
   rw[List.map_cons,List.nodup_cons]at hn;rw[e];rcases List.mem_cons.1 hx with rfl|hx
   · rw[lO m _ xs _ (λz hz=>h z (by simp[hz])) hl2 (λz hz e=>hn.1 (List.mem_map.2 ⟨z,hz,e⟩)),mu _ _ hl hpl,if_pos rfl]
   · rw[rT m xs _ (λz hz=>h z (by simp[hz])) hl2 hn.2 x hx,mu _ _ hl hpl,if_neg (λe=>hn.1 (List.mem_map.2 ⟨x,hx,e.symm⟩))]
theorem pU {ae:List UInt8} {ts:List Wr} (h:gr ae ts) (c:Nat->Nat) (hc:∀k,c k<=64):ij (ae.length / 64) (ez c ts):=by intro x hx;obtain⟨k,hk,rfl⟩:=List.mem_mapIdx.1 hx;have:=h.2.2 (ts[k]).pair (List.mem_map.2 ⟨_,List.getElem_mem hk,rfl⟩);exact⟨this.1,this.2,hc k⟩
theorem wO (c:Nat->Nat) (ts:List Wr):∀i,(∀x ∈ ts.map Wr.pair,x.1≠i)->∀x ∈ ez c ts,x.1.sec≠i:=by intro i h x hx;obtain⟨k,hk,rfl⟩:=List.mem_mapIdx.1 hx;exact h (ts[k]).pair (List.mem_map.2 ⟨_,List.getElem_mem hk,rfl⟩)
theorem rS (m:Nat):∀ (ts:List Wr) (k0:Nat) (ae:List UInt8),gL m (ts.map Wr.pair)->ae.length=64 * m->bC ae (ts.mapIdx λk t=>(t,(λ_=>64) (k0+k)))=aI ae (ts.map Wr.pair)
 | [],_,_,_,_=>rfl
 | t :: ts,k0,ae,h,hi=>by
   have ht:=h t.pair (by simp);have h1:t.sec < m:=ht.1;have h2:t.b.length=64:=ht.2;have e1:(ak ae t.sec).length=64:=gV _ _ (by omega);have e2:splice ae (64 * t.sec) (t.b.take 64)=dg ae t.pair:=by rw[mv _ _ _ _ h2 (Nat.le_refl _) (by omega),List.take_of_length_le (by omega),List.drop_of_length_le (by omega),List.append_nil];rfl
   rw[List.mapIdx_cons,List.map_cons];show bC (splice ae (64 * t.sec) (t.b.take 64)) (ts.mapIdx λk t=>(t,64))=aI (dg ae t.pair) (ts.map Wr.pair);rw[e2];exact rS m ts 0 (dg ae t.pair) (λx hx=>h x (by rw[List.map_cons];exact List.mem_cons_of_mem _ hx)) (by rw[jS _ _ (by show 64 * t.sec+64<=_;omega) h2];exact hi)
theorem Af {ae:List UInt8} {ts:List Wr} (h:gr ae ts) (c:Nat->Nat) (hc:∀k,c k<=64):gw (bC ae (ez c ts)) (aI ae (ts.map Wr.pair)) (ts.map Wr.pair)=bC ae (ez c ts):=by have hf:=pU h c hc;have hl:=lP _ _ _ hf h.gC;exact u7 (ae.length / 64) ae _ _ h.gC hl h.2.2 λi hi hne=>lO _ i _ _ hf h.gC (wO c ts i hne)
end Go.Proofs.YtdilnodbfnlhdaaGreatDoor
namespace Go.Proofs.YtdilnodbfnlhdaaGreatDoor
open Go.RowKit Tide
theorem yt:(Tryz.prog.info? 298).map (λi=>(i.zero,i.size,i.bytes))=some (some (.agg #[.int .i64 0,.slice none 0 0]),2,32):=by kernel_rfl
theorem kQ:(Tryz.prog.info? 5).map (·.size)=some 1:=by kernel_rfl
theorem zp {w:World} {n:Nat} {t:TypeId} {cs:List Value} (hn:n=w.heap.size):∀j u,cs[j]? =some u->(w.alloc (.cells cs.toArray t)).cell? ((⟨n,0,none⟩:Addr).add j)=some u:=by subst hn;intro j u hu;exact World.news_of_block (heap_alloc_new w _) j u (by simpa using hu)
theorem ml {W:World} {B n c vb vo:Nat} {l:List UInt8} (h:Bytes W B (.slice (some ⟨vb,vo,none⟩) n c) l) (hn:l.length=n):∃ad,some (⟨vb,vo,none⟩:Addr)=some ad/\∀j v,(aj l)[j]? =some v->W.cell? (ad.add j)=some v:=by
 subst hn;obtain⟨A,c',e,_,_,hc⟩:=h.form;injection e with e _ _;subst e;refine⟨_,rfl,λj v hv=> ?_⟩;have hj:j < l.length:=by
  have:=(List.getElem?_eq_some_iff.1 hv).1
  rwa[aR]at this
 obtain⟨b,o,e,_,hcell⟩:=hc j hj;injection e with e;injection e with e1 e2;subst e1 e2;rw[ib l j hj]at hv;rw[da,hcell j hj,hv]
theorem aK.grown {W W9:World} {F:Nat->Prop} {p:Nat} {ae now:List UInt8} {ts:List Wr} {bd cd bn cn:Nat} {vp:Value} {st:Bool} {lf:Nat} (h:aK W F p ae now ts bd cd bn cn vp st lf) (hg:W.grownBy W9 vp.ownBlock):
 W9.cell? ⟨p,2,none⟩=some vp/\W9.frozen? ⟨p,2,none⟩=false/\p < W9.heap.size:=by
 have hK:Kept (λk=>vp.ownBlock=some k) W W9:=(Kept.refl _ _).grown hg (λk e=> .inl e);have hb:=hK.heap h.block (λe=>(h.eT p e).1 rfl);refine⟨by rw[cell_of_row _ _ 2 _ _ _ hb];rfl,?_,Nat.lt_of_lt_of_le h.iC hK.size⟩;unfold World.frozen?;rw[show W9.heap[(⟨p,2,none⟩:Addr).block]? =_ from hb];simp
theorem EN {W:World} {F:Nat->Prop} {p:Nat} {ae now:List UInt8} {ts:List Wr} {bd cd bn cn:Nat} {vp:Value} {st:Bool} {lf:Nat} (h:aK W F p ae now ts bd cd bn cn vp st lf) (hp:st=true->lf≠0) (hlf:lf<=9223372036854775807) (h0:st=false->lf=0) (hL:ae.length<=30000) (hn:ts.length<=1000) (i:Nat) (hi:i < ae.length / 64)
 {v:Value} {B:Nat} {b:List UInt8} (hv:Bytes W B v b) (hB:B<=W.heap.size) (hap:∀k,v.ownBlock=some k->¬F k) (hb:b.length=64):
 Calls Tryz.prog 182 #[.pointer (some ⟨p,0,none⟩),.int .i64 (i:Nat),v] W λe w'=>e= .returned .nilIface/\∃F' ts' vp',aK w' F' p ae (dg now (i,b)) ts' bd cd bn cn vp' st (lf - 1)/\ts'.map Wr.pair=ts.map Wr.pair ++ [(i,b)]/\ts'.length=ts.length+1/\(∀k,F' k->F k\/W.heap.size<=k)/\Kept F W w':=by
 obtain⟨i0,hinf,hz0,hz1,hz2⟩:=info_parts yt;have HIn:=ab hinf;obtain⟨A,c,rfl,_,_,hcell⟩:=hv.form;obtain⟨vb,vo,rfl,_,_⟩:=hcell 0 (by omega);rw[hb]at hv hap ⊢;have CH:=nw h hL i;rw[decide_eq_true (show(0:Int)<=(i:Int) by omega),decide_eq_true (show(i:Int) < ((ae.length / 64:Nat):Int) by omega)]at CH;have CP:=ab (sd h hp hlf h0);have HV0:=ab hv;have HB64:=ab hb;have HAp:=ab hap;clear hinf hv hb hcell hap h hp hlf h0
 go_enter Tryz.func182,Tryz.ntmps182
 go_wp2_with fail
 refine CH.mono ?_;rintro en w1 ⟨rfl,rfl⟩
 go_wp2_with fail
 refine CP.out.mono ?_;rintro en W1 ⟨rfl,hD1,hK1⟩;have K0:=ab hK1;have hB1:=Nat.le_trans hB hK1.size;have HV:=ab (kk HV0.out hB hK1 HAp.out);have HD:=ab (hD1.below (Below.refl W1.heap.size W1).drew);have CC:=gP (.slice (some ⟨vb,vo,none⟩) 64 c) b B W1.drew HV.out hB1 (by have:=HB64.out;omega);rw[HB64.out]at CC;have HC:=ab CC;obtain⟨A2,c2,rfl,_,_⟩:=o3 hD1;obtain⟨_,c1,c2',_,_,hfr⟩:=hD1.facts;clear CC hD1 hK1 CP CH
 go_wp2_with fail
 go_region_law (first
  | (go_simp;(with_reducible refine(HC.out).mono ?_);rintro en w1 ⟨v1,rfl,ho,hb1⟩;obtain⟨g1,cap1,rfl,_,_⟩:=ho.form (by omega);have HO1:=ab ho;have HB1:=ab hb1;have D1:=ab (HD.out.below hb1);have hp1:=D1.out.iC;obtain⟨_,_,d2,_,_,_⟩:=D1.out.facts;clear ho hb1)
  | (refine step_append_lies _ rfl (.tmp 26) (.tmp 31) _ rfl 0 298 i0 _ 2 32 Tryz.underlying213 HIn.out hz0 hz1 hz2 rfl (by omega) _ ts.length (ts.flatMap Wr.cells) rfl (bp D1.out.aq ((Below.refl _ _).alloc (Nat.le_refl _) _)) _ 1 _ [.int .i64 (i:Int),sl g1 64 cap1] rfl rfl ?_ ?_ (by omega) ?_ ?_ ?_ _ rfl ?_;(exact zp rfl);(intro u hu;simp only[List.mem_cons,List.not_mem_nil,or_false]at hu;rcases hu with rfl|rfl<;>rfl);(unfold maxLen;omega);omega;(exact Nat.zero_le _);intro g cap w9 h1 h2 h3 h4;have hba:=(Below.refl w1.heap.size w1).alloc (Nat.le_refl _) (.cells #[.int .i64 (i:Int),sl g1 64 cap1] 298);obtain⟨e1,e2,e3⟩:=(D1.out.below hba).grown h2;have H9:=ab (HD.out.snoc (HB1.out.trans (hba.mono HB1.out.size)) (bp HO1.out hba) h2 h1 h3);clear h1 h2 h3 h4 hba))
 all_goals
  generalize hW2:World.setCell w9 ⟨p,2,none⟩ (sl g (ts.length+1) cap)=W2 at *;obtain⟨D2',K2'⟩:=H9.out;have K2:=ab ((Kept.refl F W1).drew.trans K2' (λk hk=> .inl hk));have D2:=ab D2';obtain⟨_,n1,_,_,_,_⟩:=D2'.facts;have HV2:=ab (kk HV.out hB1 K2.out HAp.out);have CS:=ab (kP bn ae.length cn i (by omega) hL (km D2').2 W2);clear D2' K2' hW2 e1 e2 e3 H9 HO1 HB1 D1 HD HC c1 c2' d2 hp1
  go_wp2_with fail
  refine CS.out.mono ?_;rintro en w3 ⟨rfl,rfl⟩
  go_wp2_with (refine ue rfl (.tmp 40) (.tmp 41) _ _ rfl 5 Tryz.underlying38 kQ bn (64 * i) 64 _ rfl (some ⟨vb,vo,none⟩) 64 c rfl 0 ae.length cn 5 (aj now) D2.out.now (aj b) ?d1 ?d2 (jg b) ?d3 ?_)
  case d1=>rw[aR,HB64.out];rfl
  case d2=>rw[aR,HB64.out];omega
  case d3=>exact λ_=>ml HV2.out (by rw[HB64.out])
  intro w4 o4 g4 z4;have h4:=o4.out;rw[th _ _ _ HB64.out]at h4;obtain⟨D4',K4'⟩:=D2.out.sw h4 g4.out;have D4:=ab D4';have K4:=ab (K2.out.trans K4' (λk hk=>hk.elim .inl (λe=> .inr e.1)));clear o4 g4 z4 h4 D4' K4'
  go_wp2_with fail
  go_ret
  refine⟨rfl,_,_,_,D4.out,?_,?_,?_,K0.out.trans K4.out (λk hk=> .inl hk)⟩
  · rw[List.map_append];rfl
  · rw[List.length_append];rfl
  · intro k hk;rcases hk with hk|hk
    · exact .inl hk
    · exact .inr (Nat.le_trans K0.out.size hk.1)
theorem mK {x:Nat->Addr} {W:World} {F:Nat->Prop} {p:Nat} {ae now:List UInt8} {ts:List Wr} {bd cd bn cn:Nat} {vp:Value} (hE:E3 x W) (h:aK W F p ae now ts bd cd bn cn vp true 0) (hL:ae.length<=30000) (i:Nat) (hi:i < ae.length / 64) (v:Value) {B:Nat} {b:List UInt8} (hv:Bytes W B v b) (hb:b.length=64):
 Calls Tryz.prog 182 #[.pointer (some ⟨p,0,none⟩),.int .i64 (i:Nat),v] W λe w'=>e= .returned (ai (x 2))/\W=w':=by
 obtain⟨A,c,rfl,_,_,_⟩:=hv.form;rw[hb];have CH:=nw h hL i;rw[decide_eq_true (show(0:Int)<=(i:Int) by omega),decide_eq_true (show(i:Int) < ((ae.length / 64:Nat):Int) by omega)]at CH;have CP:=ab (se hE h);clear hv hb hE h hi hL
 go_enter Tryz.func182,Tryz.ntmps182
 go_wp2_with fail
 refine CH.mono ?_;rintro en w1 ⟨rfl,rfl⟩
 go_wp2_with fail
 refine CP.out.mono ?_;rintro en w1 ⟨rfl,rfl⟩
 go_wp2_with fail
 go_ret
 exact⟨rfl,rfl⟩
end Go.Proofs.YtdilnodbfnlhdaaGreatDoor
