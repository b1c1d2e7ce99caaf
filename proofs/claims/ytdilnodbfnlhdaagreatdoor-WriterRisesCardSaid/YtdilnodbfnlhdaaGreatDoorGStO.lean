import Derived.Test.YtdilnodbfnlhdaaGreatDoorGSsR
import Derived.Test.YtdilnodbfnlhdaaGreatDoorGSsX
import Derived.Test.YtdilnodbfnlhdaaGreatDoorGSsF
import Derived.Test.YtdilnodbfnlhdaaGreatDoorGSsV
import Derived.Test.YtdilnodbfnlhdaaGreatDoorGStB
import Derived.Test.YtdilnodbfnlhdaaGreatDoorGSgA
import Derived.Test.YtdilnodbfnlhdaaGreatDoorGSeqX
import Derived.Deep.RegionHeld
set_option maxRecDepth 100000
set_option maxHeartbeats 4000000
namespace Tide
open Go Go.RowKit
variable {P:Program} {ops:Array Oper} {Q:Exit->Act->World->Prop} {S:World->Prop}
theorem EF {l n id:Nat} {a:Act} {w:World} (hm:P.follows .mixedOrders=true) (hd:∀ (i:Nat) (o:Oper),ops[i]? =some o->∀c,o.op≠ .defer c) (hQ:¬LetsOut Q) (hS:S w.drew)
 (h:S w.drew->wpAnyH P .any ops Q S ops.size (Array.replicate ops.size false) a w.drew):(Code.region id ops true).wpIn (Fence.wide.inRound l) n P Q a w:=
 wpIn_region_any hm (mJ hd hQ _ _ _ _ (wpAny_of_held _ _ _ _ (h hS)))
theorem my (w:World) {o:Oper} {a:Act} {K:Act->World->Prop} {E:Prop} (hgd:o.guard=none) (s x:Operand) (t:TypeId)
 (ho:o.op= .call { callee:= .builtin .append,args:= #[s,x],argTypes:= #[t,t] })
 (base:Nat) (e:TypeId) (i:TypeInfo) (z:Value) (size bytes:Nat) (ht:P.underlying t=some (.slice e)) (hi:P.info? e=some i) (hz:i.zero=some z)
 (hsize:i.size=size) (hby:i.bytes=bytes) (hzs:z.cells.size=size) (hsz:0 < size)
 (v:Value) (n:Nat) (xs:List Value) (hs:a.eval s=v) (hown:w.ownsRow base e size v n xs)
 (ad:Addr) (m c:Nat) (news:List Value) (hx:a.eval x= .slice (some ad) m c) (hl:news.length=m * size) (hnews:∀j u,news[j]? =some u->w.cell? (ad.add j)=some u) (h1:∀u ∈ news,u.oneCell'=true)
 (h63:n+m<=maxLen) (hbytes:(n+m) * bytes<=140737488355328) (hbase:base<=w.heap.size)
 (h:∀v' w',w'.ownsRow base e size v' (n+m) (xs ++ news)->w.grownBy w' v.ownBlock->(v'.ownBlock=v.ownBlock\/v'.ownBlock=some w.heap.size)->K (a.put o.dst v') w'):
 if Region.wanted o (yielded ops a.tmps)=true then Oper.wp P o a w K Q else E:=by
 have hw:Region.wanted o (yielded ops a.tmps)=true:=by simp[Region.wanted,hgd]
 rw[if_pos hw];obtain⟨v',w',hr,h2,h3,_,h5⟩:=run_append_own_at (P:=P) w base t o.type e i z size bytes ht hi hz hsize hby hzs hsz v n xs hown ad m c news hl hnews h1 h63 hbytes hbase;unfold Oper.wp execOp;simp only[ho,resolve,invoke,builtin,Sem.run_bind,Sem.run_pure,Result.andThen_ok,List.map_toArray,List.map_cons,List.map_nil,hs,hx,hr];exact h v' w' h2 h3 h5
end Tide
namespace Go.Proofs.YtdilnodbfnlhdaaGreatDoor
open Go.RowKit Go.Shelf Tide
attribute [local go_sem] Oper.semAt_some
theorem y8 (im:List UInt8) (y:Nat):bt im (y+1)=bt im y ++ if bL im (64 * y)=some 1 then[⟨bB ((ak im (64 * y)).take 8),64 * y,jz im (64 * y)⟩]else[]:=by
 unfold bt;rw[List.range_succ,List.filter_append,List.map_append]
 congr 1
 by_cases h:bL im (64 * y)=some 1
 · rw[if_pos h];simp[h]
 · rw[if_neg h];simp[h]
theorem rC (im:List UInt8) (k:Nat):(bt im k).length<=k:=by
 unfold bt;rw[List.length_map];have:=List.length_filter_le (λp=>bL im (64 * p) == some 1) (List.range k)
 rwa[List.length_range]at this
def ld (N b p dev:Nat) (us:List ah) (X:World):Prop:=∃vs,aO X (λk=>k=p\/vs.ownBlock=some k) p dev us vs/\∀k,vs.ownBlock=some k->N<=k/\k≠b
theorem Az {β:Type} (B N b p dev:Nat) (us:β->List ah):OwnFrom B (λ(s:β) X=>ld N b p dev (us s) X):=by
 rintro s A C row ⟨vs,h,h2⟩ hg hr;refine⟨vs,h.an (G:=λk=>row=some k) ((Kept.refl _ A).grown hg (λk e=> .inl e)) (λk hk e=> ?_),h2⟩;obtain⟨_,o,ho,hc⟩:=hr k e;rcases hk with rfl|e2
 · have hb:A.heap[k]? =_:=h.block;rw[hb]at ho;injection ho with ho;rw[<-ho]at hc;cases hc
 · obtain⟨cur,ho2⟩:=fG h.used e2;rw[ho2]at ho;injection ho with ho;rw[<-ho]at hc;cases hc
section
variable {D:az} {x:Nat->Addr} {W:World} {Fd:Nat->Prop} {dev:Nat} {d:Dv}
theorem zQ (hD:aC x D) (hd:D W Fd dev d) (hlen:64<=d.ae.length / 64) (hno:∀y,y < d.ae.length / 64 / 64->bL (aI d.ae d.aq) (64 * y)=some 1->bB ((ak (aI d.ae d.aq) (64 * y)).take 8) < 2 ^ 63)
 (CS:∀ (W':World) (vs:Value),W'.ownsRow 0 224 3 vs (bt (aI d.ae d.aq) (d.ae.length / 64 / 64)).length ((bt (aI d.ae d.aq) (d.ae.length / 64 / 64)).flatMap ah.cells)->
   Calls Tryz.prog 116 #[vs,.func (.func 117) #[] #[]] W' λe w'=>e= .returned (.tuple #[])/\
    w'.ownsRow 0 224 3 vs (bt (aI d.ae d.aq) (d.ae.length / 64 / 64)).length ((dE (bt (aI d.ae d.aq) (d.ae.length / 64 / 64)) (bt (aI d.ae d.aq) (d.ae.length / 64 / 64)).length).flatMap ah.cells)/\Kept (λk=>vs.ownBlock=some k) W' w'):
 Calls Tryz.prog 58 #[.pointer (some ⟨dev,0,none⟩)] W λe w'=>∃p Fs vs,e= .returned (.tuple #[.pointer (some ⟨p,0,none⟩),.nilIface])/\D w' Fd dev d/\
  aO w' Fs p dev (dE (bt (aI d.ae d.aq) (d.ae.length / 64 / 64)) (bt (aI d.ae d.aq) (d.ae.length / 64 / 64)).length) vs/\(∀k,Fs k->W.heap.size<=k)/\Below W.heap.size W w':=by
 have hlim:=(hD.right _ _ _ _ hd).2.2.1;obtain⟨im,him⟩:=aa (aI d.ae d.aq);have HIm:=ab him;rw[him]at hno CS ⊢;obtain⟨S,hS⟩:=aa (d.ae.length / 64);have HSz:=ab hS;have CL:=ab (hD.len W Fd dev d hd);rw[hS]at hlen hno CS CL ⊢;have HLim:=ab (show S<=1000 by omega);have HNo:=ab hno;have HCS:=ab CS;have HDv:=ab hd;have q0:decide ((S:Int) < 64)=false:=decide_eq_false (by omega);have CF:=ab (λp w=>qz p w);clear hno CS hd him hS hlim;refine(callsIn_wide (n:=7)).1 ?_;refine callsIn_of_wp_marks Tryz.func58 rfl trivial ?_ rfl;simp only[Tryz.ntmps58,List.size_toArray,List.length_cons,List.length_nil,Nat.reduceAdd,Nat.reduceSub,Array.replicate_succ,Array.replicate_zero,List.push_toArray,List.append_toArray,List.nil_append,List.cons_append]
 gi_wp2_with fail
 refine⟨trivial,(callsIn_wide.2 CL.out).mono ?_⟩;rintro e w1 ⟨rfl,rfl⟩
 gi_wp2_with fail
 have CF2:=CF.out W.heap.size ((W.alloc (.cells #[.pointer (some ⟨dev,0,none⟩),.slice none 0 0] 218)).alloc (.cells #[.pointer (some ⟨W.heap.size,0,none⟩)] 135));obtain⟨W1,hW1⟩:=aa ((W.alloc (.cells #[.pointer (some ⟨dev,0,none⟩),.slice none 0 0] 218)).alloc (.cells #[.pointer (some ⟨W.heap.size,0,none⟩)] 135));have hz1:W1.heap.size=W.heap.size+2:=by rw[<-hW1];simp
 have hb1:Below W.heap.size W W1:=by rw[<-hW1];exact((Below.refl W.heap.size W).alloc (Nat.le_refl _) _).alloc (by simp) _
 have xb:Boxed W1 (W.heap.size+1) 135 (.pointer (some ⟨W.heap.size,0,none⟩)):=by
  rw[<-hW1];have:=Boxed.new (W.alloc (.cells #[.pointer (some ⟨dev,0,none⟩),.slice none 0 0] 218)) 135 (.pointer (some ⟨W.heap.size,0,none⟩))
  rwa[World.size_alloc]at this
 have xs:aH W1 W.heap.size 218 (.pointer (some ⟨dev,0,none⟩)) (.slice none 0 0):=by show W1.heap[W.heap.size]? =_;rw[<-hW1,Below.heap_alloc _ _ _ (by simp)];exact heap_alloc_new W _
 have st1:aO W1 (λk=>k=W.heap.size) W.heap.size dev [] (.slice none 0 0):=
  { block:=xs,used:=⟨rfl,.inl ⟨rfl,rfl⟩⟩,fp:=⟨rfl,λk e=>by cases e⟩,lt:=λk hk=>by rw[hk,hz1];omega }
 rw[hW1]at CF2 ⊢;refine⟨trivial,(callsIn_wide.2 CF2).mono ?_⟩;rintro e w2 ⟨rfl,hw2⟩;rw[hz1];have hb12:Below W1.heap.size W1 w2:=by rw[hw2];exact(Below.refl _ _).alloc (Nat.le_refl _) _
 have hz2:w2.heap.size=W.heap.size+3:=by rw[hw2,World.size_alloc,hz1]
 have xf2:Boxed w2 (W.heap.size+2) 135 (.pointer (some ⟨W.heap.size,0,none⟩)):=by
  rw[hw2];have:=Boxed.new W1 135 (.pointer (some ⟨W.heap.size,0,none⟩))
  rwa[hz1]at this
 have hb2:Below W.heap.size W w2:=hb1.trans (hb12.mono (by omega));have xb2:Boxed w2 (W.heap.size+1) 135 (.pointer (some ⟨W.heap.size,0,none⟩)):=(hb12.block _ xb.lt).trans xb;have st2:=st1.below hb12;have HO2:=ab (show ld W.heap.size (W.heap.size+1) W.heap.size dev [] w2 from⟨_,st2.tight,λk e=>by cases e⟩);have HD2:=ab (hD.an _ _ _ (λ_=>False) _ _ HDv.out (Kept.al hb2) (λ_ _ h=>h));have HFl:=ab (hD.lt _ _ _ _ HDv.out);have HB2:=ab hb2;have XB2:=ab xb2;have HZ2:=ab hz2;have hin:(Tryz.prog.info? 224).map (λi=>(i.zero,i.size,i.bytes))=some (some (.agg #[.int .i64 0,.int .i64 0,.int .i64 0]),3,24):=qX;obtain⟨i0,hi0,hz0,hz1',hz2'⟩:=info_parts hin;have HIn:=ab hi0;clear CF CF2 hW1 hw2 hb1 xb xs hb12 hb2 st1 hz1
 gi_wp2_with fail
 refine jT rfl (by omega) (gf:=150) rfl trivial (enters_of Tryz.func150 (by kernel_rfl) rfl) (encs:=iQ)
  (λ_=>rfl) (qA _ (by omega) (W.heap.size+2) w2 hD HD2.out st2 xf2 (λ_ _=>True)) (λ_ _=>trivial) (λ_ _ _ _ _ _ _=>trivial)
  (λpre X=>Below W.heap.size W X/\Boxed X (W.heap.size+1) 135 (.pointer (some ⟨W.heap.size,0,none⟩))/\ld W.heap.size (W.heap.size+1) W.heap.size dev (bt im pre.length) X)
  (λ_ _ _=>False)
  ?hI (λ_=>nZ _) ⟨HB2.out,XB2.out,HO2.out⟩
  (λy a' X=>a'= { tmps:= #[.pointer (some ⟨dev,0,none⟩),undef,.pointer none,.nilIface,.pointer (some ⟨W.heap.size+1,0,none⟩),.int .i64 ((64 * y:Nat):Int),undef,.pointer (some ⟨dev,0,none⟩),.int .i64 (S:Int),.bool false,undef,.pointer (some ⟨dev,0,none⟩),.agg #[.pointer (some ⟨dev,0,none⟩),.slice none 0 0],.pointer (some ⟨W.heap.size,0,none⟩),.pointer (some ⟨W.heap.size,0,none⟩),.func (.func 150) #[] #[.pointer (some ⟨W.heap.size+2,0,none⟩)],.int .i64 ((64 * y:Nat):Int),undef,undef,undef,undef,undef,undef,undef,undef,undef,undef,undef,undef,undef,undef,undef,undef,undef,undef,undef,undef,undef,undef,undef,undef,undef,undef,undef,undef,undef,undef],defers:= [] })
  (λ_ _=>fU _ _) ?assign ?body ?done ?stop
 case hI=>exact OwnFrom.and (ownFrom_below (by have:=HZ2.out;omega) (by have:=HZ2.out;omega)) (OwnFrom.and (iB _ _ _ _) (Az _ _ _ _ _ _))
 case assign=>
  rintro l pre y A0 K hI hN hK
  gi_wp2_with fail
  exact hK _ _ (KeepsFrom.refl _ _) trivial hI (by simp)
 case body=>
  rintro l pre y a' A0 hl hr ⟨hI1,hI2,hI3⟩ rfl hN;have hym:y < S / 64:=by have:=hN.mem;rw[HSz.out]at this;exact List.mem_range.1 this
  have hpy:pre.length=y:=by have h1:=hN.elem;rw[HSz.out,List.getElem?_range (by have:=hN.lt;rwa[List.length_range,HSz.out]at this)]at h1;exact Option.some.inj h1
  rw[hpy]at hI3;obtain⟨vs,hst,hvs⟩:=hI3;have hdA:D A0 Fd dev d:=hD.an _ _ _ (λ_=>False) _ _ HDv.out (Kept.al hI1) (λ_ _ h=>h);have CSe:=ab (oJ hD hdA hst (64 * y) (by rw[HSz.out];omega));obtain⟨hp,c0,c1,fz⟩:=hst.block.facts;have cb:=hI2.cell;have HI1:=ab hI1;have HI2:=ab hI2;have HSt:=ab hst;have HVs:=ab hvs;have HdA:=ab hdA;have HPy:=ab hpy;have HY:=ab hym;obtain⟨f,hf⟩:=aa ((((64 * y:Nat)):Int));rw[hf]at CSe ⊢;have HF:=ab hf;clear hI1 hI2 hst hvs hdA hpy hf hN hr xb2 st2 xf2 hym
  gi_wp2_with fail
  refine⟨trivial,CallsIn.inRound l ((callsIn_wide.2 CSe.out).mono ?_)⟩;rintro e w3 ⟨v3,rfl,ho,hb3⟩;rw[HIm.out]at ho;have hsl:(ak im (64 * y)).length=64:=by have:=ho.1;rw[aR]at this;omega
  obtain⟨gs,cs,rfl,_,hgl⟩:=ho.form (by omega);have hcs:64<=cs/\cs<=9223372036854775807:=by
   rcases ho.2 with⟨h1,_⟩|⟨_,_,_,h1,_,_,h2,h3,_⟩
   · cases h1
   · injection h1 with _ _ e;rw[e];exact⟨h2,h3⟩
  have hm:=sP im (64 * y);rw[List.getElem?_eq_getElem (by omega)]at hm;have c63:w3.cell? ⟨gs,63,none⟩=some (.int .u8 (((ak im (64 * y))[63]'(by omega)).toNat:Int)):=by
   have h1:=ho.cells (g:=gs) rfl 63 _ (ib _ 63 (by omega))
   rwa[da,Nat.zero_add]at h1
  generalize (ak im (64 * y))[63]'(by omega)=mk at *;have HMs:=ab (y8 im y);have hst3:=HSt.out.below hb3;have HB3:=ab (HI1.out.trans (hb3.mono HI1.out.size));have hx3:Boxed w3 (W.heap.size+1) 135 (.pointer (some ⟨W.heap.size,0,none⟩)):=(hb3.block _ HI2.out.lt).trans HI2.out;have HX3:=ab hx3;have HSt3:=ab hst3;have HK3:=ab (lG (B:=w2.heap.size) hb3);by_cases hmk:mk=1
  · have e1:((mk.toNat:Nat):Int)=1:=by rw[hmk];rfl
    rw[e1]at c63;have hmk1:bL im (64 * y)=some 1:=by rw[<-hm,hmk]
    have hnb:=HNo.out y HY.out hmk1;have hd3:D w3 Fd dev d:=hD.an _ _ _ (λ_=>False) _ _ HdA.out (Kept.al hb3) (λ_ _ h=>h);have hb8:Bytes w3.drew w3.heap.size (.slice (some ⟨gs,0,none⟩) 8 cs) ((ak im (64 * y)).take 8):=(Bytes.dm ho).take (by omega) rfl rfl (by omega) hcs.2;have CLo:=ab (rz _ _ _ w3.drew hb8 (by rw[List.length_take];omega) hnb);have hcut:=λW=>nc gs 64 cs 8 8 rfl (by omega) hcs.1 (by omega) W;have CEn:=wX hD (hD.an _ _ _ (λ_=>False) _ _ hd3 (Kept.al (dp w3 1)) (λ_ _ h=>h)) (hst3.below (dp w3 1)) (64 * y) (by rw[HSz.out];have:=HY.out;omega);rw[HIm.out,HF.out]at CEn;rw[hmk1]at HMs;obtain⟨nb,hnb2⟩:=aa (bB ((ak im (64 * y)).take 8));obtain⟨en,hen⟩:=aa (jz im (64 * y));rw[hnb2]at CLo HMs;rw[hen]at CEn HMs;rw[if_pos rfl]at HMs;obtain⟨_,_,c13,fz3⟩:=hst3.block.facts;have cb3:=hx3.cell;have CEn2:=(show Calls Tryz.prog 115 #[.pointer (some ⟨W.heap.size,0,none⟩),.int .i64 f] w3.drew _ from CEn).mono (R':=λe w6=>e= .returned (.int .i64 (en:Nat))/\Hid (Below w3.heap.size w3 w6)/\Hid (w6.cell? ⟨W.heap.size+1,0,none⟩=some (.pointer (some ⟨W.heap.size,0,none⟩)))/\Hid (w6.cell? ⟨W.heap.size,1,none⟩=some vs)/\Hid (w3.heap.size<=w6.heap.size)) (by rintro e w6 ⟨rfl,hb⟩;have hb':Below w3.heap.size w3 w6:=⟨hb.os,hb.tape,hb.output,hb.size,hb.block⟩;exact⟨rfl,ab hb',ab ((hb'.cell (p:=⟨W.heap.size+1,0,none⟩) (World.block_lt_of_cell? _ _ cb3)).trans cb3),ab ((hb'.cell (p:=⟨W.heap.size,1,none⟩) (World.block_lt_of_cell? _ _ c13)).trans c13),ab hb'.size⟩);have CEn:=ab CEn2;have HUs:=ab hst3.used;have HMl:=ab (show(bt im y).length<=1000 by have:=rC im y;have:=HY.out;have:=HLim.out;omega)
    have HFin:=ab (λ(w6:World) (hb6:Below w3.heap.size w3 w6) (y6:w6.cell? ⟨W.heap.size,1,none⟩=some vs) (wa:World) (v9:Value) (w9:World) (hwa:wa=w6.alloc (.cells #[.int .i64 (nb:Nat),.int .i64 f,.int .i64 (en:Nat)] 224)) (h1:w9.ownsRow 0 224 3 v9 ((bt im y).length+1) ((bt im y).flatMap ah.cells ++ [.int .i64 (nb:Nat),.int .i64 f,.int .i64 (en:Nat)])) (h2:wa.grownBy w9 vs.ownBlock) (h3:v9.ownBlock=vs.ownBlock\/v9.ownBlock=some wa.heap.size)=>
     show w9.cell? ⟨W.heap.size,1,none⟩=some vs/\w9.frozen? ⟨W.heap.size,1,none⟩=false/\w9.cell? ⟨W.heap.size+1,0,none⟩=some (.pointer (some ⟨W.heap.size,0,none⟩))/\(w9.setCell ⟨W.heap.size,1,none⟩ v9).cell? ⟨W.heap.size+1,0,none⟩=some (.pointer (some ⟨W.heap.size,0,none⟩))/\
      KeepsFrom w2.heap.size A0 (w9.setCell ⟨W.heap.size,1,none⟩ v9)/\True/\Below W.heap.size W (w9.setCell ⟨W.heap.size,1,none⟩ v9)/\Boxed (w9.setCell ⟨W.heap.size,1,none⟩ v9) (W.heap.size+1) 135 (.pointer (some ⟨W.heap.size,0,none⟩))/\ld W.heap.size (W.heap.size+1) W.heap.size dev (bt im (pre ++ [y]).length) (w9.setCell ⟨W.heap.size,1,none⟩ v9) by
     have hba:Below w3.heap.size w3 wa:=by rw[hwa];exact hb6.alloc hb6.size _
     have hsa:=HSt3.out.below hba;have hxa:Boxed wa (W.heap.size+1) 135 (.pointer (some ⟨W.heap.size,0,none⟩)):=(hba.block _ HX3.out.lt).trans HX3.out;have hx9:Boxed w9 (W.heap.size+1) 135 (.pointer (some ⟨W.heap.size,0,none⟩)):=hxa.kept h2 (hxa.not_row (by decide) hsa.used);have hKo:Kept (λk=>vs.ownBlock=some k) wa w9:=(Kept.refl _ _).grown h2 (λk e=> .inl e);obtain⟨hp9,c09,c19,fz9⟩:=(hsa.block.kept hKo (j7 hsa.block hsa.used (by decide))).facts;obtain⟨g9,cap9,rfl⟩:=ownsRow_succ h1;have hz3:=HB3.out.size;have hza:=hba.size;have hz2:=HZ2.out;have hA2:W.heap.size+2<=A0.heap.size:=HI2.out.lt;have hs9:aO (w9.setCell ⟨W.heap.size,1,none⟩ (.slice (some ⟨g9,0,none⟩) ((bt im y).length+1) cap9)) (λk=>k=W.heap.size\/(Value.slice (some ⟨g9,0,none⟩) ((bt im y).length+1) cap9).ownBlock=some k) W.heap.size dev (bt im y ++ [⟨nb,64 * y,en⟩]) (.slice (some ⟨g9,0,none⟩) ((bt im y).length+1) cap9):=by
      obtain⟨F',g1,g2,g3⟩:=hsa.snoc (g:=g9) (cap:=cap9) h2 ⟨nb,64 * y,en⟩ (by rw[<-HF.out]at h1;exact h1) (by
       rcases h3 with h3|h3
       · exact .inl (by rw[<-h3];rfl)
       · exact .inr (by simpa[Value.ownBlock]using h3))
      exact g1.tight
     have hset:Kept (λk=>k=W.heap.size) w9 (w9.setCell ⟨W.heap.size,1,none⟩ (.slice (some ⟨g9,0,none⟩) ((bt im y).length+1) cap9)):=(Kept.refl (λk=>k=W.heap.size) w9).setCell (p:=⟨W.heap.size,1,none⟩) (.inl rfl) _;have hbW:Below W.heap.size W w9:=(HB3.out.trans (hba.mono hz3)).grown h2 (by omega) (λk e=>(HVs.out k e).1);have hxs:Boxed (w9.setCell ⟨W.heap.size,1,none⟩ (.slice (some ⟨g9,0,none⟩) ((bt im y).length+1) cap9)) (W.heap.size+1) 135 (.pointer (some ⟨W.heap.size,0,none⟩)):=hset.heap hx9 (by omega);refine⟨c19,fz9 1,hx9.cell,hxs.cell,?_,trivial,hbW.setCell (p:=⟨W.heap.size,1,none⟩) (Nat.le_refl _) _,hxs,?_⟩
     · refine((HK3.out.trans (lG (B:=w2.heap.size) hba)).trans ?_).trans ((KeepsOthers.setCell _ _ _).from _);refine(KeepsOthers.of_grownBy h2 λj o' e hj=> ?_).from _;obtain⟨c,hc⟩:=fG hsa.used e;rw[hj]at hc;injection hc with hc;rw[hc];rfl
     · have e9:bt im (pre ++ [y]).length=bt im y ++ [⟨nb,64 * y,en⟩]:=by rw[List.length_append,List.length_singleton,HPy.out];exact HMs.out
       rw[e9];refine⟨_,hs9,λk e=> ?_⟩;have hk:g9=k:=by simpa[Value.ownBlock]using e
       subst hk;rcases h3 with h3|h3
       · exact HVs.out g9 (by rw[<-h3];rfl)
       · have:g9=wa.heap.size:=by simpa[Value.ownBlock]using h3
         have hz6:=hb6.size;exact⟨by omega,by omega⟩)
    have hHeld0:w3.drew.cell? ⟨W.heap.size+1,0,none⟩=some (.pointer (some ⟨W.heap.size,0,none⟩)):=cb3;have c13d:w3.drew.cell? ⟨W.heap.size,1,none⟩=some vs:=c13;have hz3':0 < S:=by omega
    clear ho hb3 hm hsl hb8 hnb hd3 hmk1 CEn2 hst3 hx3 fz3 fz CSe hgl e1 hlen hz3'
    gi_wp2_with fail
    refine EF (S:=λw'=>w'.cell? ⟨W.heap.size+1,0,none⟩=some (.pointer (some ⟨W.heap.size,0,none⟩))) (by kernel_rfl) (nQ (by kernel_rfl)) (λ⟨_,_,h⟩=>h) hHeld0 (λhHeld=> ?_);refine wpAnyH_take (i:=0) (v:= ?v1) rfl (by kernel_rfl) (by kernel_rfl) (by kernel_rfl) (λ_ _ _ h=>h) (Or.inl ⟨by rfl,?h1⟩) hHeld ?r1
    case h1=>
     intro w hSw
     (try dsimp only at hSw)
     go_simp
     try with_reducible rfl
    (try simp only[Act.put])
    refine wpAnyH_take (i:=1) (v:= ?v2) rfl (by kernel_rfl) (by kernel_rfl) (by kernel_rfl) (λ_ _ _ h=>h) (Or.inl ⟨by rfl,?h2⟩) hHeld ?r2
    case h2=>
     intro w hSw
     (try dsimp only at hSw)
     go_simp
     try with_reducible rfl
    (try simp only[Act.put])
    refine wpAnyH_take (i:=2) (v:= ?v3) rfl (by kernel_rfl) (by kernel_rfl) (by kernel_rfl) (λ_ _ _ h=>h) (Or.inl ⟨by rfl,?h3⟩) hHeld ?r3
    case h3=>
     intro w hSw
     (try dsimp only at hSw)
     go_simp
     try with_reducible rfl
    (try simp only[Act.put])
    refine wpAnyH_take (i:=3) (v:= ?v4) rfl (by kernel_rfl) (by kernel_rfl) (by kernel_rfl) (λ_ _ _ h=>h) (Or.inl ⟨by rfl,?h4⟩) hHeld ?r4
    case h4=>
     intro w hSw
     (try dsimp only at hSw)
     go_simp
     try with_reducible rfl
    (try simp only[Act.put])
    refine wpAnyH_take (i:=5) (v:= ?v5) rfl (by kernel_rfl) (by kernel_rfl) (by kernel_rfl) (λ_ _ _ h=>h) (Or.inl ⟨by rfl,?h5⟩) hHeld ?r5
    case h5=>
     intro w hSw
     (try dsimp only at hSw)
     go_simp
     try with_reducible rfl
    (try simp only[Act.put])
    refine wpAnyH_take (i:=6) (v:= ?v6) rfl (by kernel_rfl) (by kernel_rfl) (by kernel_rfl) (λ_ _ _ h=>h) (Or.inl ⟨by rfl,?h6⟩) hHeld ?r6
    case h6=>
     intro w hSw
     (try dsimp only at hSw)
     go_simp
     try with_reducible rfl
    (try simp only[Act.put])
    refine wpAnyH_take (i:=8) (v:= ?v7) rfl (by kernel_rfl) (by kernel_rfl) (by kernel_rfl) (λ_ _ _ h=>h) (Or.inl ⟨by rfl,?h7⟩) hHeld ?r7
    case h7=>
     intro w hSw
     (try dsimp only at hSw)
     go_simp
     try with_reducible rfl
    (try simp only[Act.put])
    refine wpAnyH_take (i:=9) (v:= ?v8) rfl (by kernel_rfl) (by kernel_rfl) (by kernel_rfl) (λ_ _ _ h=>h) (Or.inl ⟨by rfl,?h8⟩) hHeld ?r8
    case h8=>
     intro w hSw
     (try dsimp only at hSw)
     go_simp
     try with_reducible rfl
    (try simp only[Act.put])
    refine wpAnyH_take (i:=10) (v:= ?v9) rfl (by kernel_rfl) (by kernel_rfl) (by kernel_rfl) (λ_ _ _ h=>h) (Or.inl ⟨by rfl,?h9⟩) hHeld ?r9
    case h9=>
     intro w hSw
     (try dsimp only at hSw)
     go_simp
     try with_reducible rfl
    (try simp only[Act.put])
    refine wpAnyH_ready (rs:= [4,7]) (by kernel_rfl) (by simp) ?_;refine AllReadyH.cons rfl (λK hK=> ?_) (AllReadyH.cons rfl (λK hK=> ?_) AllReadyH.nil)
    · go_simp
      refine hK.out _ _ hHeld (λhHeld=> ?_);clear hK K;refine wpAnyH_ready (rs:= [7]) (by kernel_rfl) (by simp) ?_;refine AllReadyH.cons rfl (λK hK=> ?_) AllReadyH.nil
      go_simp
      (with_reducible refine(CLo.out).mono ?_)
      rintro e w5 ⟨rfl,rfl⟩;refine hK.out _ _ hHeld (λhHeld=> ?_);clear hK K;refine wpAnyH_ready (rs:= [11]) (by kernel_rfl) (by simp) ?_;refine AllReadyH.cons rfl (λK hK=> ?_) AllReadyH.nil
      go_simp
      (with_reducible refine(CEn.out).mono ?_)
      rintro e w6 ⟨rfl,hb6,x6,y6,hz6⟩;have y6o:=y6.out;refine hK.out _ _ x6.out (λhHeld=> ?_);clear hK K;refine wpAnyH_take (i:=12) (v:= ?v10) rfl (by kernel_rfl) (by kernel_rfl) (by kernel_rfl) (λ_ _ _ h=>h) (Or.inl ⟨by rfl,?h10⟩) hHeld ?r10
      case h10=>
       intro w hSw
       (try dsimp only at hSw)
       go_simp
       try with_reducible rfl
      (try simp only[Act.put])
      refine wpAnyH_ready (rs:= [13]) (by kernel_rfl) (by simp) ?_;refine AllReadyH.cons rfl (λK hK=> ?_) AllReadyH.nil
      go_simp
      refine hK.out _ _ ((World.cell?_alloc_lt _ _ _ (World.block_lt_of_cell? _ _ hHeld)).trans hHeld) (λhHeld=> ?_);clear hK K;refine wpAnyH_ready (rs:= [14]) (by kernel_rfl) (by simp) ?_;refine AllReadyH.cons rfl (λK hK=> ?_) AllReadyH.nil;refine my _ rfl (.tmp 28) (.tmp 37) 216 rfl 0 224 i0 (.agg #[.int .i64 0,.int .i64 0,.int .i64 0]) 3 24 Tryz.underlying216 HIn.out hz0 hz1' hz2' rfl (by omega) _ (bt im y).length ((bt im y).flatMap ah.cells) rfl (bp (bp HUs.out hb6.out) ((Below.refl _ _).alloc (Nat.le_refl _) _)) ⟨w6.heap.size,0,none⟩ 1 1 [.int .i64 (nb:Nat),.int .i64 f,.int .i64 (en:Nat)] rfl rfl (λj u hu=>World.news_of_block (heap_alloc_new w6 (.cells #[.int .i64 (nb:Nat),.int .i64 f,.int .i64 (en:Nat)] 224)) j u (by simpa using hu)) ?_ ?_ ?_ (Nat.zero_le _) ?_
      · intro u hu;simp only[List.mem_cons,List.not_mem_nil,or_false]at hu;rcases hu with rfl|rfl|rfl<;>rfl
      · unfold maxLen;have:=HMl.out;omega
      · have:=HMl.out;omega
      intro v9 w9 h1 h2 h3;obtain⟨g9,cap9,rfl⟩:=ownsRow_succ h1;have HR9:=ab (HFin.out w6 hb6.out y6.out _ _ w9 rfl h1 h2 h3);clear h1 h2 h3;have c91:=HR9.out.1;have f91:=HR9.out.2.1;refine hK.out _ _ HR9.out.2.2.1 (λhHeld=> ?_);clear hK K;refine wpAnyH_take (i:=15) (v:= ?v11) rfl (by kernel_rfl) (by kernel_rfl) (by kernel_rfl) (λ_ _ _ h=>h) (Or.inl ⟨by rfl,?h11⟩) hHeld ?r11
      case h11=>
       intro w hSw
       (try dsimp only at hSw)
       go_simp
       try with_reducible rfl
      (try simp only[Act.put])
      refine wpAnyH_take (i:=16) (v:= ?v12) rfl (by kernel_rfl) (by kernel_rfl) (by kernel_rfl) (λ_ _ _ h=>h) (Or.inl ⟨by rfl,?h12⟩) hHeld ?r12
      case h12=>
       intro w hSw
       (try dsimp only at hSw)
       go_simp
       try with_reducible rfl
      (try simp only[Act.put])
      refine wpAnyH_ready (rs:= [17]) (by kernel_rfl) (by simp) ?_;refine AllReadyH.cons rfl (λK hK=> ?_) AllReadyH.nil
      go_simp
      refine hK.out _ _ HR9.out.2.2.2.1 (λhHeld=> ?_);clear hK K;refine wpAnyH_done (by kernel_rfl) ?_ _;exact HR9.out.2.2.2.2
    · go_simp
      (with_reducible refine(CLo.out).mono ?_)
      rintro e w5 ⟨rfl,rfl⟩;refine hK.out _ _ hHeld (λhHeld=> ?_);clear hK K;refine wpAnyH_ready (rs:= [4,11]) (by kernel_rfl) (by simp) ?_;refine AllReadyH.cons rfl (λK hK=> ?_) (AllReadyH.cons rfl (λK hK=> ?_) AllReadyH.nil)
      · go_simp
        refine hK.out _ _ hHeld (λhHeld=> ?_);clear hK K;refine wpAnyH_ready (rs:= [11]) (by kernel_rfl) (by simp) ?_;refine AllReadyH.cons rfl (λK hK=> ?_) AllReadyH.nil
        go_simp
        (with_reducible refine(CEn.out).mono ?_)
        rintro e w6 ⟨rfl,hb6,x6,y6,hz6⟩;have y6o:=y6.out;refine hK.out _ _ x6.out (λhHeld=> ?_);clear hK K;refine wpAnyH_take (i:=12) (v:= ?v13) rfl (by kernel_rfl) (by kernel_rfl) (by kernel_rfl) (λ_ _ _ h=>h) (Or.inl ⟨by rfl,?h13⟩) hHeld ?r13
        case h13=>
         intro w hSw
         (try dsimp only at hSw)
         go_simp
         try with_reducible rfl
        (try simp only[Act.put])
        refine wpAnyH_ready (rs:= [13]) (by kernel_rfl) (by simp) ?_;refine AllReadyH.cons rfl (λK hK=> ?_) AllReadyH.nil
        go_simp
        refine hK.out _ _ ((World.cell?_alloc_lt _ _ _ (World.block_lt_of_cell? _ _ hHeld)).trans hHeld) (λhHeld=> ?_);clear hK K;refine wpAnyH_ready (rs:= [14]) (by kernel_rfl) (by simp) ?_;refine AllReadyH.cons rfl (λK hK=> ?_) AllReadyH.nil;refine my _ rfl (.tmp 28) (.tmp 37) 216 rfl 0 224 i0 (.agg #[.int .i64 0,.int .i64 0,.int .i64 0]) 3 24 Tryz.underlying216 HIn.out hz0 hz1' hz2' rfl (by omega) _ (bt im y).length ((bt im y).flatMap ah.cells) rfl (bp (bp HUs.out hb6.out) ((Below.refl _ _).alloc (Nat.le_refl _) _)) ⟨w6.heap.size,0,none⟩ 1 1 [.int .i64 (nb:Nat),.int .i64 f,.int .i64 (en:Nat)] rfl rfl (λj u hu=>World.news_of_block (heap_alloc_new w6 (.cells #[.int .i64 (nb:Nat),.int .i64 f,.int .i64 (en:Nat)] 224)) j u (by simpa using hu)) ?_ ?_ ?_ (Nat.zero_le _) ?_
        · intro u hu;simp only[List.mem_cons,List.not_mem_nil,or_false]at hu;rcases hu with rfl|rfl|rfl<;>rfl
        · unfold maxLen;have:=HMl.out;omega
        · have:=HMl.out;omega
        intro v9 w9 h1 h2 h3;obtain⟨g9,cap9,rfl⟩:=ownsRow_succ h1;have HR9:=ab (HFin.out w6 hb6.out y6.out _ _ w9 rfl h1 h2 h3);clear h1 h2 h3;have c91:=HR9.out.1;have f91:=HR9.out.2.1;refine hK.out _ _ HR9.out.2.2.1 (λhHeld=> ?_);clear hK K;refine wpAnyH_take (i:=15) (v:= ?v14) rfl (by kernel_rfl) (by kernel_rfl) (by kernel_rfl) (λ_ _ _ h=>h) (Or.inl ⟨by rfl,?h14⟩) hHeld ?r14
        case h14=>
         intro w hSw
         (try dsimp only at hSw)
         go_simp
         try with_reducible rfl
        (try simp only[Act.put])
        refine wpAnyH_take (i:=16) (v:= ?v15) rfl (by kernel_rfl) (by kernel_rfl) (by kernel_rfl) (λ_ _ _ h=>h) (Or.inl ⟨by rfl,?h15⟩) hHeld ?r15
        case h15=>
         intro w hSw
         (try dsimp only at hSw)
         go_simp
         try with_reducible rfl
        (try simp only[Act.put])
        refine wpAnyH_ready (rs:= [17]) (by kernel_rfl) (by simp) ?_;refine AllReadyH.cons rfl (λK hK=> ?_) AllReadyH.nil
        go_simp
        refine hK.out _ _ HR9.out.2.2.2.1 (λhHeld=> ?_);clear hK K;refine wpAnyH_done (by kernel_rfl) ?_ _;exact HR9.out.2.2.2.2
      · go_simp
        (with_reducible refine(CEn.out).mono ?_)
        rintro e w6 ⟨rfl,hb6,x6,y6,hz6⟩;have y6o:=y6.out;refine hK.out _ _ x6.out (λhHeld=> ?_);clear hK K;refine wpAnyH_take (i:=12) (v:= ?v16) rfl (by kernel_rfl) (by kernel_rfl) (by kernel_rfl) (λ_ _ _ h=>h) (Or.inl ⟨by rfl,?h16⟩) hHeld ?r16
        case h16=>
         intro w hSw
         (try dsimp only at hSw)
         go_simp
         try with_reducible rfl
        (try simp only[Act.put])
        refine wpAnyH_ready (rs:= [4,13]) (by kernel_rfl) (by simp) ?_;refine AllReadyH.cons rfl (λK hK=> ?_) (AllReadyH.cons rfl (λK hK=> ?_) AllReadyH.nil)
        · go_simp
          refine hK.out _ _ hHeld (λhHeld=> ?_);clear hK K;refine wpAnyH_ready (rs:= [13]) (by kernel_rfl) (by simp) ?_;refine AllReadyH.cons rfl (λK hK=> ?_) AllReadyH.nil
          go_simp
          refine hK.out _ _ ((World.cell?_alloc_lt _ _ _ (World.block_lt_of_cell? _ _ hHeld)).trans hHeld) (λhHeld=> ?_);clear hK K;refine wpAnyH_ready (rs:= [14]) (by kernel_rfl) (by simp) ?_;refine AllReadyH.cons rfl (λK hK=> ?_) AllReadyH.nil;refine my _ rfl (.tmp 28) (.tmp 37) 216 rfl 0 224 i0 (.agg #[.int .i64 0,.int .i64 0,.int .i64 0]) 3 24 Tryz.underlying216 HIn.out hz0 hz1' hz2' rfl (by omega) _ (bt im y).length ((bt im y).flatMap ah.cells) rfl (bp (bp HUs.out hb6.out) ((Below.refl _ _).alloc (Nat.le_refl _) _)) ⟨w6.heap.size,0,none⟩ 1 1 [.int .i64 (nb:Nat),.int .i64 f,.int .i64 (en:Nat)] rfl rfl (λj u hu=>World.news_of_block (heap_alloc_new w6 (.cells #[.int .i64 (nb:Nat),.int .i64 f,.int .i64 (en:Nat)] 224)) j u (by simpa using hu)) ?_ ?_ ?_ (Nat.zero_le _) ?_
          · intro u hu;simp only[List.mem_cons,List.not_mem_nil,or_false]at hu;rcases hu with rfl|rfl|rfl<;>rfl
          · unfold maxLen;have:=HMl.out;omega
          · have:=HMl.out;omega
          intro v9 w9 h1 h2 h3;obtain⟨g9,cap9,rfl⟩:=ownsRow_succ h1;have HR9:=ab (HFin.out w6 hb6.out y6.out _ _ w9 rfl h1 h2 h3);clear h1 h2 h3;have c91:=HR9.out.1;have f91:=HR9.out.2.1;refine hK.out _ _ HR9.out.2.2.1 (λhHeld=> ?_);clear hK K;refine wpAnyH_take (i:=15) (v:= ?v18) rfl (by kernel_rfl) (by kernel_rfl) (by kernel_rfl) (λ_ _ _ h=>h) (Or.inl ⟨by rfl,?h18⟩) hHeld ?r18
          case h18=>
           intro w hSw
           (try dsimp only at hSw)
           go_simp
           try with_reducible rfl
          (try simp only[Act.put])
          refine wpAnyH_take (i:=16) (v:= ?v19) rfl (by kernel_rfl) (by kernel_rfl) (by kernel_rfl) (λ_ _ _ h=>h) (Or.inl ⟨by rfl,?h19⟩) hHeld ?r19
          case h19=>
           intro w hSw
           (try dsimp only at hSw)
           go_simp
           try with_reducible rfl
          (try simp only[Act.put])
          refine wpAnyH_ready (rs:= [17]) (by kernel_rfl) (by simp) ?_;refine AllReadyH.cons rfl (λK hK=> ?_) AllReadyH.nil
          go_simp
          refine hK.out _ _ HR9.out.2.2.2.1 (λhHeld=> ?_);clear hK K;refine wpAnyH_done (by kernel_rfl) ?_ _;exact HR9.out.2.2.2.2
        · go_simp
          refine hK.out _ _ ((World.cell?_alloc_lt _ _ _ (World.block_lt_of_cell? _ _ hHeld)).trans hHeld) (λhHeld=> ?_);clear hK K;refine wpAnyH_ready (rs:= [4]) (by kernel_rfl) (by simp) ?_;refine AllReadyH.cons rfl (λK hK=> ?_) AllReadyH.nil;have c96:(w6.alloc (.cells #[.int .i64 (nb:Nat),.int .i64 f,.int .i64 (en:Nat)] 224)).cell? ⟨W.heap.size,1,none⟩=some vs:=(World.cell?_alloc_lt _ _ _ (World.block_lt_of_cell? _ _ y6.out)).trans y6.out
          go_simp
          refine hK.out _ _ hHeld (λhHeld=> ?_);clear hK K;refine wpAnyH_ready (rs:= [14]) (by kernel_rfl) (by simp) ?_;refine AllReadyH.cons rfl (λK hK=> ?_) AllReadyH.nil;refine my _ rfl (.tmp 28) (.tmp 37) 216 rfl 0 224 i0 (.agg #[.int .i64 0,.int .i64 0,.int .i64 0]) 3 24 Tryz.underlying216 HIn.out hz0 hz1' hz2' rfl (by omega) _ (bt im y).length ((bt im y).flatMap ah.cells) rfl (bp (bp HUs.out hb6.out) ((Below.refl _ _).alloc (Nat.le_refl _) _)) ⟨w6.heap.size,0,none⟩ 1 1 [.int .i64 (nb:Nat),.int .i64 f,.int .i64 (en:Nat)] rfl rfl (λj u hu=>World.news_of_block (heap_alloc_new w6 (.cells #[.int .i64 (nb:Nat),.int .i64 f,.int .i64 (en:Nat)] 224)) j u (by simpa using hu)) ?_ ?_ ?_ (Nat.zero_le _) ?_
          · intro u hu;simp only[List.mem_cons,List.not_mem_nil,or_false]at hu;rcases hu with rfl|rfl|rfl<;>rfl
          · unfold maxLen;have:=HMl.out;omega
          · have:=HMl.out;omega
          intro v9 w9 h1 h2 h3;obtain⟨g9,cap9,rfl⟩:=ownsRow_succ h1;have HR9:=ab (HFin.out w6 hb6.out y6.out _ _ w9 rfl h1 h2 h3);clear h1 h2 h3;have c91:=HR9.out.1;have f91:=HR9.out.2.1;refine hK.out _ _ HR9.out.2.2.1 (λhHeld=> ?_);clear hK K;refine wpAnyH_take (i:=15) (v:= ?v21) rfl (by kernel_rfl) (by kernel_rfl) (by kernel_rfl) (λ_ _ _ h=>h) (Or.inl ⟨by rfl,?h21⟩) hHeld ?r21
          case h21=>
           intro w hSw
           (try dsimp only at hSw)
           go_simp
           try with_reducible rfl
          (try simp only[Act.put])
          refine wpAnyH_take (i:=16) (v:= ?v22) rfl (by kernel_rfl) (by kernel_rfl) (by kernel_rfl) (λ_ _ _ h=>h) (Or.inl ⟨by rfl,?h22⟩) hHeld ?r22
          case h22=>
           intro w hSw
           (try dsimp only at hSw)
           go_simp
           try with_reducible rfl
          (try simp only[Act.put])
          refine wpAnyH_ready (rs:= [17]) (by kernel_rfl) (by simp) ?_;refine AllReadyH.cons rfl (λK hK=> ?_) AllReadyH.nil
          go_simp
          refine hK.out _ _ HR9.out.2.2.2.1 (λhHeld=> ?_);clear hK K;refine wpAnyH_done (by kernel_rfl) ?_ _;exact HR9.out.2.2.2.2
  · have q1:(((mk.toNat:Nat):Int) == 1)=false:=by rw[beq_eq_false_iff_ne];intro e;exact hmk (UInt8.toNat_inj.1 (by show mk.toNat=1;omega))
    have hmk1:¬bL im (64 * y)=some 1:=λh=>by rw[<-hm]at h;exact hmk (Option.some.inj h)
    rw[if_neg hmk1,List.append_nil]at HMs;clear hmk
    gi_wp2_with fail
    refine⟨HK3.out,trivial,HB3.out,HX3.out,?_⟩;rw[List.length_append,List.length_singleton,HPy.out,HMs.out];exact⟨_,HSt3.out,HVs.out⟩
 case done=>
  rintro D0 A0 hD0 ⟨hI1,hI2,hI3⟩ hdf;rw[List.length_range,HSz.out]at hI3;obtain⟨vs,hst,hvs⟩:=hI3;have CSr:=ab (HCS.out A0 vs hst.used);obtain⟨hp,c0,c1,fz⟩:=hst.block.facts;have cb:=hI2.cell;have HI1:=ab hI1;have HI2:=ab hI2;have HSt:=ab hst;have HVs:=ab hvs;have HDF:=ab hdf;have HDz:=ab hD0;clear hI1 hI2 hst hvs hdf hD0 xb2 st2 xf2
  gi_wp2_with fail
  refine⟨trivial,(callsIn_wide.2 CSr.out).mono ?_⟩;rintro e w5 ⟨rfl,ho5,hk5⟩;have hz2:=HZ2.out;have hx5:Boxed w5 (W.heap.size+1) 135 (.pointer (some ⟨W.heap.size,0,none⟩)):=hk5.heap HI2.out (λe=>(HVs.out _ e).2 rfl);have cb5:=hx5.cell;have hb5:Below W.heap.size W w5:=(Tide.Below.kept HI1.out hk5 HI1.out.size (λk e=>(HVs.out k e).1))
  have hs5:aO w5 (λk=>k=W.heap.size\/vs.ownBlock=some k) W.heap.size dev (dE (bt im (S / 64)) (bt im (S / 64)).length) vs:=
   { block:=HSt.out.block.kept hk5 (j7 HSt.out.block HSt.out.used (by decide)),used:=by rw[oN];exact ho5,fp:=⟨.inl rfl,λk e=> .inr e⟩,lt:=λk hk=>Nat.lt_of_lt_of_le (HSt.out.lt k hk) hk5.size }
  have hdf5:w5.heap[D0]? =some (.deferred (some [])):=hk5.heap HDF.out (λe=>by obtain⟨cur,hc⟩:=fG HSt.out.used e;rw[HDF.out]at hc;cases hc);have HB5:=ab hb5;have HS5:=ab hs5;have HDF5:=ab hdf5;clear ho5 hk5 hx5 hb5 hs5 hdf5 CSr c0 c1 fz hp cb
  gi_wp2_with fail
  refine⟨by simp,.inl ⟨_,_,rfl,run_takeDeferred HDF5.out,?_⟩⟩;have hput:Kept (λk=>k=D0) w5 (w5.putObj D0 (.deferred none)):=(Kept.refl (λk=>k=D0) w5).grown (grownBy_putObj' _ _ _) (λj e=> .inl (by injection e with e;exact e.symm));have hbf:Below W.heap.size W (w5.putObj D0 (.deferred none)):=js HB5.out HB5.out.size (by have:=HDz.out;have:=HZ2.out;omega);refine⟨_,by simp[results,Tryz.results58,go_sem],W.heap.size,_,vs,rfl,hD.an _ _ _ (λ_=>False) _ _ HDv.out (Kept.al hbf) (λ_ _ h=>h),HS5.out.an hput (λk hk e=> ?_),λk hk=> ?_,hbf⟩
  · subst e;rcases hk with hk|hk
    · have:=HDz.out;have:=HZ2.out;omega
    · obtain⟨cur,hc⟩:=fG HS5.out.used hk;rw[HDF5.out]at hc;cases hc
  · rcases hk with rfl|hk
    · exact Nat.le_refl _
    · exact(HVs.out k hk).1
 case stop=>exact λ_ _ _ _ _ h=>h.elim
end
end Go.Proofs.YtdilnodbfnlhdaaGreatDoor
namespace Go.Proofs.YtdilnodbfnlhdaaGreatDoor
open Go.RowKit Go.Shelf Tide
section
variable {D:az} {a x:Nat->Addr} {w W W':World} {p dev:Nat} {us:List ah} {d:Dv}
variable {n:Nat}
end
end Go.Proofs.YtdilnodbfnlhdaaGreatDoor
namespace Go.Proofs.YtdilnodbfnlhdaaGreatDoor
open Go.RowKit Go.Shelf Tide
section
variable {W:World} {us:List ah} {b c n:Nat}
theorem DD (h:W.ownsRow 0 224 3 (.slice (some ⟨b,0,none⟩) n c) n (us.flatMap ah.cells)) (hn:us.length=n) (hmax:n<=19):
 Calls Tryz.prog 153 #[.slice (some ⟨b,0,none⟩) n c,.int .i64 (n:Nat),.func (.func 117) #[] #[]] W λe w'=>e= .returned (.tuple #[])/\w'.ownsRow 0 224 3 (.slice (some ⟨b,0,none⟩) n c) n ((dE us n).flatMap ah.cells)/\Kept (λk=>k=b) W w':=by
 have CI:=ab (yu h hn (by omega));have q1:decide ((20:Int)<=(n:Int))=false:=decide_eq_false (by omega);have q2:decide ((20:Int) < (n:Int))=false:=decide_eq_false (by omega);have q1n:decide (20<=n)=false:=decide_eq_false (by omega);have q2n:decide (20 < n)=false:=decide_eq_false (by omega);clear h hn
 go_enter Tryz.func153,Tryz.ntmps153
 go_wp2_with fail
 refine wp_loop_rounds 1 ?_;rw[rounds_succ]
 go_wp2_with fail
 refine CI.out.mono ?_;rintro e w1 ⟨rfl,ho,hk⟩;have HO:=ab ho;have HK:=ab hk;clear ho hk CI
 go_wp2_with fail
 refine wp_loop_rounds 1 ?_;rw[rounds_succ]
 go_wp2_with fail
 go_end0
 exact⟨rfl,HO.out,HK.out⟩
theorem Di (vs:Value) (h:W.ownsRow 0 224 3 vs us.length (us.flatMap ah.cells)) (hmax:us.length<=19):
 Calls Tryz.prog 116 #[vs,.func (.func 117) #[] #[]] W λe w'=>e= .returned (.tuple #[])/\w'.ownsRow 0 224 3 vs us.length ((dE us us.length).flatMap ah.cells)/\Kept (λk=>vs.ownBlock=some k) W w':=by
 by_cases h0:us.length=0
 · obtain⟨A,c,rfl⟩:∃A c,vs= .slice A 0 c:=by
    rcases h.2 with⟨h1,_⟩|⟨g,cap,cur,h1,_⟩
    · exact⟨none,0,h1⟩
    · exact⟨_,cap,by rw[h1,h0]⟩
   refine(Dj A c W).mono ?_;rintro e w' ⟨rfl,rfl⟩;rw[h0]at h ⊢;exact⟨rfl,h,Kept.refl _ _⟩
 · obtain⟨g,cap,rfl,_,_⟩:=h.form (by omega);have CI:=ab (DD h rfl hmax)
   go_enter Tryz.func116,Tryz.ntmps116
   go_wp2_with fail
   refine CI.out.mono ?_;rintro e w1 ⟨rfl,ho,hk⟩;have HO:=ab ho;have HK:=ab hk;clear ho hk CI
   go_wp2_with fail
   go_end0
   exact⟨rfl,HO.out,HK.out.mono (λk _ e=>by subst e;rfl)⟩
end
section
variable {D:az} {x:Nat->Addr} {w W:World} {dev n:Nat} {d:Dv} {m:aM}
theorem zV (hD:aC x D) {Fd:Nat->Prop} (h1:D W Fd dev d) (hpe:d.aq= []) (hL:aQ n d.ae m) (hn:64<=n) (hn2:n<=1000) (hno:∀g ∈ m.ag,g.number < 2 ^ 63):
 Calls Tryz.prog 58 #[.pointer (some ⟨dev,0,none⟩)] W λe w'=>∃p Fs vs,e= .returned (.tuple #[.pointer (some ⟨p,0,none⟩),.nilIface])/\D w' Fd dev d/\aO w' Fs p dev (aB m) vs/\(∀k,Fs k->W.heap.size<=k)/\Below W.heap.size W w':=by
 have hl:d.ae.length / 64=n:=by have:=hL.len;omega
 have hfl:aI d.ae d.aq=d.ae:=by rw[hpe];rfl
 have hml:=rC d.ae (n / 64);have hop:=zQ hD h1 (by omega) (λy hy hmk=>by
  rw[hfl]at hmk ⊢;have hy':y < n / 64:=by rw[<-hl];exact hy
  by_cases hex:∃g ∈ m.ag,g.place=y
  · obtain⟨g,hg,rfl⟩:=hex;rw[(hL.ag g hg).num];exact hno g hg
  · exact absurd hmk (hL.free y (by rw[hL.places];exact hy') (λg hg e=>hex ⟨g,hg,e⟩))) (λW' vs ho=>by
  rw[hfl,hl]at ho ⊢;exact Di vs ho (by omega))
 rw[hfl,hl,zT hL]at hop;exact hop
end
end Go.Proofs.YtdilnodbfnlhdaaGreatDoor
namespace Go.Proofs.YtdilnodbfnlhdaaGreatDoor
open Go.RowKit Go.Shelf Tide
def dx (N:Nat) (m:aM):Prop:=∀g ∈ m.ag,g.number<=N
theorem dx.last {N:Nat} {m:aM} (h:dx N m):eS m.ag<=N:=by
 unfold eS;cases hg:m.ag.getLast? with
 | none=>simp only;omega
 | some g=>have:=h g (List.mem_of_getLast? hg);simp only;omega
theorem dx.mono {N M:Nat} {m:aM} (h:dx N m) (hNM:N<=M):dx M m:=λg hg=>Nat.le_trans (h g hg) hNM
theorem sf {N:Nat} {gs:List aE} {b:List UInt8} (h:∀g ∈ gs,g.number<=N):∀g ∈ gG gs b,g.number<=N:=by
 rcases List.eq_nil_or_concat gs with rfl|⟨l,x,hc⟩
 · exact h
 · rw[List.concat_eq_append]at hc;subst hc;rw[iZ];intro g hg;rcases List.mem_append.1 hg with hg|hg
   · exact h g (by simp[hg])
   · simp only[List.mem_singleton]at hg;subst hg;exact h x (by simp)
theorem tw {N:Nat} {m t:aM} (h:dx N m) (ht:takeD m=some t):dx (N+1) t:=by
 unfold takeD at ht;split at ht
 · cases ht
 · injection ht with ht;subst ht;intro g hg;rcases List.mem_append.1 hg with hg|hg
   · exact Nat.le_succ_of_le (h g hg)
   · simp only[List.mem_singleton]at hg;subst hg;have:=h.last;simp only;omega
theorem pF {N:Nat} {m:aM} {b:List UInt8} (h:dx N m):dx (N+1) (cJ m b).1:=by
 unfold cJ;split
 · exact h.mono (Nat.le_succ _)
 · split
   · exact(show dx N { m with ag:=gG m.ag b } from sf h).mono (Nat.le_succ _)
   · cases ht:takeD m with
     | none=>exact h.mono (Nat.le_succ _)
     | some t=>exact sf (tw h ht)
theorem DM (bs:List (List UInt8)):bs.length<=(bs.map λb=>fS b.length).sum:=by
 induction bs with
 | nil=>simp
 | cons b bs ih=>rw[List.map_cons,List.sum_cons,List.length_cons];unfold fS;unfold fS at ih;omega
theorem tZ {m:aM} (h:m.Wf):m.ag.length<=m.places:=by
 have h2:(m.ag.map aE.place).Subset (List.range m.places):=λy hy=>by obtain⟨g,hg,rfl⟩:=List.mem_map.1 hy;exact List.mem_range.2 (h.place g hg)
 have h3:=h.apart.length_le_of_subset h2
 rwa[List.length_map,List.length_range]at h3
end Go.Proofs.YtdilnodbfnlhdaaGreatDoor
namespace Go.Proofs.YtdilnodbfnlhdaaGreatDoor
open Go.RowKit Go.Shelf Tide
end Go.Proofs.YtdilnodbfnlhdaaGreatDoor
