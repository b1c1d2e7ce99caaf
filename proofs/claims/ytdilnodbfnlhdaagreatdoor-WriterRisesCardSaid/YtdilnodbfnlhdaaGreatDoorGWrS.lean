import Derived.Test.YtdilnodbfnlhdaaGreatDoorGCiO
import Derived.Test.YtdilnodbfnlhdaaGreatDoorGTkL
import Derived.Test.YtdilnodbfnlhdaaGreatDoorGKinB
import Derived.Test.YtdilnodbfnlhdaaGreatDoorGWrP
import Derived.Test.YtdilnodbfnlhdaaGreatDoorGUiR
set_option maxRecDepth 100000
set_option maxHeartbeats 4000000
namespace Go.Proofs.YtdilnodbfnlhdaaGreatDoor
open Go Go.RowKit Tide
theorem BO {W W':World} {B k:Nat} {v:Value} {es:List (List Value)} {K:Nat->Prop} (h:bQ W B v k es) (hk:Kept K W W') (hB:B<=W.heap.size) (hv:∀b,v.ownBlock=some b->¬K b):bQ W' B v k es:=by obtain⟨hn,A,c,rfl,hc⟩:=h;refine⟨hn,A,c,rfl,λhx=> ?_⟩;obtain⟨b,o,rfl,hb,hcell⟩:=hc hx;exact⟨b,o,rfl,hb,λi j e u he hu=>(hk.cell (p:=⟨b,o+(i * k+j),none⟩) (Nat.lt_of_lt_of_le hb hB) (hv b rfl)).trans (hcell i j e u he hu)⟩
theorem BP {W:World} {B B' k:Nat} {v:Value} {es:List (List Value)} (h:bQ W B v k es) (hB:B<=B'):bQ W B' v k es:=by obtain⟨hn,A,c,rfl,hc⟩:=h;refine⟨hn,A,c,rfl,λhx=> ?_⟩;obtain⟨b,o,rfl,hb,hcell⟩:=hc hx;exact⟨b,o,rfl,Nat.lt_of_lt_of_le hb hB,hcell⟩
theorem nN {W W':World} {e:aD} {vo vd:Value} {K:Nat->Prop} (h:dY W W.heap.size e vo vd) (hk:Kept K W W') (hv:∀b,vo.ownBlock=some b\/vd.ownBlock=some b->¬K b):dY W' W'.heap.size e vo vd:=
 ⟨BP (BO h.1 hk (Nat.le_refl _) (λb e=>hv b (.inl e))) hk.size,(jb h.2 hk (Nat.le_refl _) (λb e=>hv b (.inr e))).more hk.size⟩
theorem vk {w:World} {B:Nat} {v:Value} {bs:List (Int × List Int)} (h:dX w B v bs):ie w B v (bs.map λp=>⟨p.1,p.2⟩):=by obtain⟨es,h1,h2,h3⟩:=h;refine⟨es,h1,by rw[List.length_map];exact h2,λi hi=> ?_⟩;rw[List.length_map]at hi;obtain⟨u,h4,h5⟩:=h3 i hi;rw[List.getElem_map];exact⟨_,h4,u,rfl,h5⟩
structure ei where
 lo:Nat
 bu:Nat
 cu:Nat
 t:Nat
 g:Nat->Nat
 vp:Value
 cs:List (List Int)
abbrev ei.vu (S:ei):Value:= .slice (some ⟨S.bu,0,none⟩) 12 S.cu
structure bl (D:az) (w W:World) (S:ei) (H:Nat->Nat->Prop) (us:Nat->av) (s:bZ) (N:Nat):Prop where
 bP:et D w W S.g H 12 192 N us
 ru:W.ownsRow S.lo 81 1 S.vu 12 (gH 12 dK S.g)
 tok:cE W S.t s
 di:cO W S.lo S.vp S.cs
 low:w.heap.size<=S.lo/\S.lo<=W.heap.size
 ne:S.bu≠S.t
 fv:S.lo<=S.t
 free:∀k,k=S.bu\/k=S.t->¬aJ 12 H k/\k < W.heap.size
 dz:∀k,aJ 12 H k->S.lo<=k
section
variable {D:az} {a x:Nat->Addr} {w W W':World} {S:ei} {H H':Nat->Nat->Prop} {us us':Nat->av} {s s':bZ} {N M:Nat} {P:Nat->Prop}
theorem nW {b c n base:Nat} {T:TypeId} {xs:List Value} (h:W.ownsRow base T 1 (.slice (some ⟨b,0,none⟩) n c) n xs) (hk:Kept P W W') (hP:¬P b):W'.ownsRow base T 1 (.slice (some ⟨b,0,none⟩) n c) n xs:=
 hk.own h (λk e=>by injection e with e;have e:b=k:=e;subst e;exact hP)
theorem bl.kept (hD:aC x D) (h:bl D w W S H us s N) (hk:Kept P W W') (hP:∀k,P k->S.lo<=k/\¬aJ 12 H k/\k≠S.bu/\k≠S.t):bl D w W' S H us s N where
 bP:=h.bP.kept hD hk (λk e=>⟨(hP k e).2.1,Nat.le_trans h.low.1 (hP k e).1⟩)
 ru:=nW h.ru hk (λe=>(hP _ e).2.2.1 rfl)
 tok:=h.tok.kept hk (λe=>(hP _ e).2.2.2 rfl)
 di:=h.di.an (λb o hb=>hk.cell (p:=⟨b,o,none⟩) (Nat.lt_of_lt_of_le hb h.low.2) (λe=>Nat.not_lt.2 (hP b e).1 hb))
 low:=⟨h.low.1,Nat.le_trans h.low.2 hk.size⟩
 ne:=h.ne
 fv:=h.fv
 free:=λk e=>⟨(h.free k e).1,Nat.lt_of_lt_of_le (h.free k e).2 hk.size⟩
 dz:=h.dz
theorem bl.below (hD:aC x D) (h:bl D w W S H us s N) (hb:Below W.heap.size W W'):bl D w W' S H us s N:=h.kept hD (P:=λ_=>False) (Kept.al hb) (λ_ e=>e.elim)
theorem bl.mono (h:bl D w W S H us s N) (hM:N<=M):bl D w W S H us s M:= { h with bP:=h.bP.mono hM }
theorem bl.step (h:bl D w W S H us s N) (hs:b7 D w W S.g H 12 192 M us' W'):∃H',bl D w W' S H' us' s M/\(∀k,aJ 12 H' k->aJ 12 H k\/W.heap.size<=k)/\Kept (aJ 12 H) W W':=by
 obtain⟨H',g1,g2,g3⟩:=hs;have hall:∀k,aJ 12 H' k->aJ 12 H k\/W.heap.size<=k:=λk ⟨i,hi,e⟩=>(g2 i k e).imp (λe=>⟨i,hi,e⟩) id;refine⟨H',{ bP:=g1,ru:=nW h.ru g3 (h.free _ (.inl rfl)).1,tok:=h.tok.kept g3 (h.free _ (.inr rfl)).1,di:=h.di.an (λb o hb=>g3.cell (p:=⟨b,o,none⟩) (Nat.lt_of_lt_of_le hb h.low.2) (λe=>Nat.not_lt.2 (h.dz b e) hb)),low:=⟨h.low.1,Nat.le_trans h.low.2 g3.size⟩,ne:=h.ne,fv:=h.fv,free:=λk e=>⟨λe2=> ?_,Nat.lt_of_lt_of_le (h.free k e).2 g3.size⟩,dz:=λk e=> ?_ },hall,g3⟩
 · rcases hall k e2 with e3|e3
   · exact(h.free k e).1 e3
   · have:=(h.free k e).2;omega
 · rcases hall k e with e3|e3
   · exact h.dz k e3
   · exact Nat.le_trans h.low.2 e3
theorem bl.D7 (hD:aC x D) (h:bl D w W S H us s N) (hk:Kept (λk=>k=S.t) W W') (ht:cE W' S.t s'):bl D w W' S H us s' N where
 bP:=h.bP.kept hD hk (λk e=>⟨by rw[e];exact(h.free _ (.inr rfl)).1,by rw[e];exact Nat.le_trans h.low.1 h.fv⟩)
 ru:=nW h.ru hk h.ne
 tok:=ht
 di:=h.di.an (λb o hb=>hk.cell (p:=⟨b,o,none⟩) (Nat.lt_of_lt_of_le hb h.low.2) (λe=>by have e:b=S.t:=e;have:=h.fv;have hb:b < S.lo:=hb;omega))
 low:=⟨h.low.1,Nat.le_trans h.low.2 hk.size⟩
 ne:=h.ne
 fv:=h.fv
 free:=λk e=>⟨(h.free k e).1,Nat.lt_of_lt_of_le (h.free k e).2 hk.size⟩
 dz:=h.dz
theorem bl.Eg (h:bl D w W S H us s N):eH D w W (λk=>k < S.lo) S.g H 12 us dK S.vu S.vp S.cs N where
 bP:=h.bP
 gm:=⟨by decide,by decide,λi h1 h2=>by omega⟩
 rows:=λW' hk=>jb (Row.dm h.ru (Nat.le_refl _)) hk (Nat.le_refl _) (λk e=>by injection e with e;have e:S.bu=k:=e;subst e;exact(h.free _ (.inl rfl)).1)
 lo_le:=λk e=>Nat.lt_of_lt_of_le e h.low.2
 dz:=λk e e2=>Nat.not_lt.2 (h.dz k e) e2
 di:=dH.iW h.di h.low.2
theorem bl.bq (hE:ar w a) (h:bl D w W S H us s N):ar W a:=hE.below h.bP.since
end
structure cz (W:World) (S:ei) (H:Nat->Nat->Prop) (X:Nat) (e:aD) (vo vd:Value) (st:Int) (x:Value) (asks ep q:Int) (vp:Value) (cp:Int) (pg:List UInt8):Prop where
 box:bh W X e vo vd st x asks ep q vp cp
 lists:dY W W.heap.size e vo vd
 aw:Bytes W W.heap.size vp pg
 fR:∀k,(k=X\/vo.ownBlock=some k\/vd.ownBlock=some k\/vp.ownBlock=some k)->S.lo<=k/\k < W.heap.size/\¬aJ 12 H k/\k≠S.bu/\k≠S.t
 apart:∀k,(vo.ownBlock=some k\/vd.ownBlock=some k\/vp.ownBlock=some k)->k≠X
section
variable {W W':World} {S:ei} {H H':Nat->Nat->Prop} {X:Nat} {e:aD} {vo vd x y vp vp':Value} {st asks ep q cp st' asks' ep' q' cp':Int} {pg pg':List UInt8} {P:Nat->Prop}
theorem cz.kept (h:cz W S H X e vo vd st x asks ep q vp cp pg) (hk:Kept P W W') (hP:∀k,P k->¬(k=X\/vo.ownBlock=some k\/vd.ownBlock=some k\/vp.ownBlock=some k)) (hH:∀k,aJ 12 H' k->aJ 12 H k\/W.heap.size<=k):cz W' S H' X e vo vd st x asks ep q vp cp pg where
 box:=h.box.kept hk (λe=>hP _ e (.inl rfl))
 lists:=nN h.lists hk (λb e e2=>hP b e2 (e.elim (λe=> .inr (.inl e)) (λe=> .inr (.inr (.inl e)))))
 aw:=(jb h.aw hk (Nat.le_refl _) (λb e e2=>hP b e2 (.inr (.inr (.inr e))))).more hk.size
 fR:=λk e=>by obtain⟨h1,h2,h3,h4⟩:=h.fR k e;exact⟨h1,Nat.lt_of_lt_of_le h2 hk.size,λe2=>(hH k e2).elim h3 (λe3=>by omega),h4⟩
 apart:=h.apart
theorem cz.below (h:cz W S H X e vo vd st x asks ep q vp cp pg) (hb:Below W.heap.size W W'):cz W' S H X e vo vd st x asks ep q vp cp pg:=h.kept (P:=λ_=>False) (Kept.al hb) (λ_ e=>e.elim) (λ_ e=> .inl e)
theorem cz.mE (h:cz W S H X e vo vd st x asks ep q vp cp pg) (hk:Kept (λk=>k=X) W W') (hb:bh W' X e vo vd st' y asks' ep' q' vp cp'):cz W' S H X e vo vd st' y asks' ep' q' vp cp' pg where
 box:=hb
 lists:=nN h.lists hk (λb e e2=>h.apart b (e.elim .inl (λe=> .inr (.inl e))) e2)
 aw:=(jb h.aw hk (Nat.le_refl _) (λb e e2=>h.apart b (.inr (.inr e)) e2)).more hk.size
 fR:=λk e=>by obtain⟨h1,h2,h3⟩:=h.fR k e;exact⟨h1,Nat.lt_of_lt_of_le h2 hk.size,h3⟩
 apart:=h.apart
theorem cz.self (h:cz W S H X e vo vd st x asks ep q vp cp pg):S.lo<=X/\X < W.heap.size/\¬aJ 12 H X/\X≠S.bu/\X≠S.t:=h.fR X (.inl rfl)
end
end Go.Proofs.YtdilnodbfnlhdaaGreatDoor
namespace Go.Proofs.YtdilnodbfnlhdaaGreatDoor
open Go Go.RowKit Tide
theorem EC (a:Nat->Addr) (ep:Int) (cs:List (List Int)) (v:Value) (B:Nat) (w:World) (hv:cO w B v cs) (hB:B<=w.heap.size) (hE:ji w a) (hr:aP ep cs=true) (nx:Nat) (hn:nx<=4095):
 Calls Tryz.prog 110 #[cL ep v,.int .i64 (nx:Int)] w λe w'=>e= .returned (.int .i64 ((bU cs nx).length:Nat))/\Below w.heap.size w w':=by
 obtain⟨hlen,A,c,rfl,hcl⟩:=hv.form;clear hcl;have B0:=ab (show Below w.heap.size w (w.alloc (.cells #[.int .i64 ep,.slice A cs.length c] 24)) from(Below.refl w.heap.size w).alloc (Nat.le_refl _) _);have P0:=ab (aH.new w 24 (.int .i64 ep) (.slice A cs.length c));have CP:=ab (sb a ep cs (.slice A cs.length c) nx B _ (hv.below (B0.out.mono hB)) (Nat.le_trans hB B0.out.size) (hE.below B0.out));obtain⟨r1,r2,r3,r4,r5,r6,r7⟩:=fm hr;obtain⟨hc,hch⟩:=jw (cs:=cs) (nx:=nx) r3;obtain⟨l,hl⟩:=aa (bU cs nx);have HG:=ab (λW1 (hb:Below w.heap.size w W1)=>(show ∃b o u,A=some ⟨b,o,none⟩/\W1.cell? ⟨b,o+nx % cs.length,none⟩=some u/\∃A2 c2,u= .slice A2 l.length c2 from by obtain⟨_,A',c',e,hcell⟩:=(hv.below (hb.mono hB)).form;injection e with e1 e2 e3;subst e1;obtain⟨b,o,u,hA,hb2,h0,h1⟩:=hcell (nx % cs.length) hc;obtain⟨_,A2,c2,e2,_⟩:=dn h1;refine⟨b,o,u,hA,h0,A2,c2,?_⟩;rw[e2,<-hl,hch]));have hm:((nx:Int) % (cs.length:Int))=((nx % cs.length:Nat):Int):=by rw[Int.natCast_emod]
 have HR:=ab hr;have HM:=ab hm;have HN:=ab hn;rw[hl];have i0:((nx % cs.length:Nat):Int) < (cs.length:Int):=by omega
 have i1:(0:Int)<=((nx % cs.length:Nat):Int):=by omega
 clear hv hB hE hr hch hl hm hn r1 r2 r3 r4 r5 r6 r7;unfold cL at *
 go_enter Tryz.func110,Tryz.ntmps110
 go_wp2_with fail
 refine CP.out.mono ?_;rintro en w1 ⟨x,rfl,hx,hb⟩;have HB1:=ab (B0.out.trans (hb.mono B0.out.size));obtain⟨_,p0,p1,_⟩:=(P0.out.below hb P0.out.lt).facts;have hn:=HN.out;rcases hx with⟨h,_⟩|⟨_,h,_⟩|⟨_,_,_,rfl⟩
 · rw[HR.out]at h;cases h
 · exact absurd ⟨by omega,by omega⟩ h
 rw[HM.out];obtain⟨b,o,u,rfl,hc0,A2,c2,rfl⟩:=HG.out w1 HB1.out;clear hb hn CP HG;generalize nx % cs.length=j at *
 go_wp2_with fail
 go_ret
 exact⟨rfl,HB1.out⟩
section
variable {D:az} {a:Nat->Addr} {w W:World} {S:ei} {H:Nat->Nat->Prop} {us:Nat->av} {s:bZ} {N X:Nat} {e:aD} {vo vd x vp:Value} {asks ep:Int} {pg:List UInt8}
def uJ (D:az) (a:Nat->Addr) (w W:World) (S:ei) (H:Nat->Nat->Prop) (us:Nat->av) (s:bZ) (N X:Nat) (e:aD) (vo vd x:Value) (asks ep:Int) (nx:Nat) (vp:Value) (j:Nat) (pg:List UInt8) (en:Ending) (w':World):Prop:=
 ∃H' us',bl D w w' S H' us' s (N+3)/\(∀k,aJ 12 H' k->aJ 12 H k\/W.heap.size<=k)/\Kept (λk=>aJ 12 H k\/k=X) W w'/\
  ((∃y,en= .returned y/\bf a y 13/\(dN dK ep S.cs (nx:Int) (j:Int) pg us).2=13/\cz w' S H' X e vo vd 2 x asks ep (nx:Int) vp (j:Int) pg)\/
    (en= .returned .nilIface/\ga S.cs nx (j+1) us'/\cz w' S H' X e vo vd (if j+1=(bU S.cs nx).length then 3 else 2) x asks ep (nx:Int) vp ((j+1:Nat):Int) pg))
theorem E1 {nx j:Nat} (hD:aC (three a) D) (hE:ar w a) (hs:bl D w W S H us s N) (hN:N+3<=90000) (hw:cz W S H X e vo vd 2 x asks ep (nx:Int) vp (j:Int) pg) (hr:aP ep S.cs=true) (hn:nx<=4095)
 (hb:1<=pg.length/\pg.length<=2048) (hj:j < (bU S.cs nx).length) (hm:ga S.cs nx j us):
 Calls Tryz.prog 54 #[.pointer (some ⟨X,0,none⟩),S.vu,cL ep S.vp] W (uJ D a w W S H us s N X e vo vd x asks ep nx vp j pg):=by
 obtain⟨hlen,A,c,hv,hcl⟩:=hs.di.form;have hself:=hw.self;have B0:=ab (show Below W.heap.size W (W.alloc (.cells #[.int .i64 ep,S.vp] 24)) from(Below.refl W.heap.size W).alloc (Nat.le_refl _) _);have P0:=ab (aH.new W 24 (.int .i64 ep) S.vp);obtain⟨d0,d1,d2,d3,d4,d5,d6⟩:=(hw.below B0.out).box.rest;obtain⟨_,p0,p1,_⟩:=P0.out.facts;obtain⟨Ap,np,cp,hvp⟩:∃A n c,vp= .slice A n c:=by obtain⟨A,c,h,_⟩:=hw.aw.form;exact⟨A,_,c,h⟩
 have CS:=ab (λ(W1:World) (hb1:Below W.heap.size W W1)=>by have h1:=hs.below hD hb1;have h2:=hw.below hb1;exact wG hD hE h1.Eg hN ep (nx:Int) (j:Int) vp pg h2.aw (λk e=>by have:=h2.fR k (.inr (.inr (.inr e)));exact⟨this.2.2.1,this.2.1⟩));have hput:=hm.put hr hn hb.1 hb.2 hj;have HPut:=ab hput;have CC:=ab (λ(W1:World) (hg:cO W1 S.lo S.vp S.cs) (hl:S.lo<=W1.heap.size) (hE1:ar W1 a)=>EC a ep S.cs S.vp S.lo W1 hg hl (qp hE1) hr nx hn);have HS:=ab hs;have HW:=ab hw;have HDv:=ab hD;have HE:=ab hE;have HJ:=ab hj;obtain⟨L,hL⟩:=aa ((bU S.cs nx).length);obtain⟨sr,hsr⟩:=aa (dN dK ep S.cs (nx:Int) (j:Int) pg us);rw[hL]at CC HJ;have HLen:=ab hL;rw[hsr]at CS HPut;have HSr:=ab hsr;have HX:=ab (show X < W.heap.size from hself.2.1);have K1:=ab (show(W.alloc (.cells #[.int .i64 ep,S.vp] 24)).cell? ⟨W.heap.size,0,none⟩=some (.int .i64 ep)/\(W.alloc (.cells #[.int .i64 ep,S.vp] 24)).cell? ⟨W.heap.size,1,none⟩=some S.vp/\(W.alloc (.cells #[.int .i64 ep,S.vp] 24)).cell? ⟨X,16,none⟩=some (.int .i64 (nx:Int))/\(W.alloc (.cells #[.int .i64 ep,S.vp] 24)).cell? ⟨X,17,none⟩=some vp/\(W.alloc (.cells #[.int .i64 ep,S.vp] 24)).cell? ⟨X,18,none⟩=some (.int .i64 (j:Int)) from⟨p0,p1,d4,d5,d6⟩);have i1: -9223372036854775808<=(j:Int)+1:=by omega
 have i2:(j:Int)+1<=9223372036854775807:=by have hc:=(fm hr).2.2.2.2.1;have h3:=(fm hr).2.2.1;obtain⟨h4,h5⟩:=jw (cs:=S.cs) (nx:=nx) h3;have:=(hc _ (List.getElem_mem h4)).2;rw[<-h5]at this;omega
 clear hs hw hD hE hj hm hput hL hsr hself hcl hr hb hn hN d0 d1 d2 p1 d4 d5 d6;subst hvp;have HV:=ab hv;rw[hv]at CS CC K1 B0 P0 p0 d3 ⊢;clear hv
 go_enter Tryz.func54,Tryz.ntmps54
 go_wp2_with fail
 go_quiet (fail)
 clear p0 d3
 go_wp2_with fail
 have B1:=ab (λn=>below_drewN B0.out n);have HPl:=ab (λn=>show W.heap.size < ((W.alloc (.cells #[.int .i64 ep,.slice A S.cs.length c] 24)).drewN n).heap.size from P0.out.lt);have HXl:=ab (λn=>show X < ((W.alloc (.cells #[.int .i64 ep,.slice A S.cs.length c] 24)).drewN n).heap.size from Nat.lt_of_lt_of_le HX.out (B1.out n).size)
 have CS1:=ab (λn=>show Calls Tryz.prog 109 #[S.vu,cL ep (.slice A S.cs.length c),.int .i64 (nx:Int),.int .i64 (j:Int),.slice Ap np cp] ((W.alloc (.cells #[.int .i64 ep,.slice A S.cs.length c] 24)).drewN n) (λen w2=>∃H' y,en= .returned y/\bf a y sr.2/\bl D w w2 S H' sr.1 s (N+3)/\(∀k,aJ 12 H' k->aJ 12 H k\/W.heap.size<=k)/\Kept (aJ 12 H) ((W.alloc (.cells #[.int .i64 ep,.slice A S.cs.length c] 24)).drewN n) w2) from
  (CS.out _ (B1.out n)).mono λen w2 ⟨y,he,hy,hst⟩=>by obtain⟨H',g1,g2,g3⟩:=(HS.out.below HDv.out (B1.out n)).step hst;exact⟨H',y,he,hy,g1,λk e=>(g2 k e).imp id (λh=>Nat.le_trans (B1.out n).size h),g3⟩)
 clear CS;have HFr:=ab (show ¬aJ 12 H W.heap.size from λh=>by have:=(HS.out.bP.lt _ h).2;omega);have HFx:=ab (show ¬aJ 12 H X from HW.out.self.2.2.1);unfold cL at *
 go_region_held3 (λY=>Y.cell? ⟨W.heap.size,0,none⟩=some (.int .i64 ep)/\Y.cell? ⟨W.heap.size,1,none⟩=some (.slice A S.cs.length c)/\Y.cell? ⟨X,16,none⟩=some (.int .i64 (nx:Int))/\Y.cell? ⟨X,17,none⟩=some (.slice Ap np cp)/\Y.cell? ⟨X,18,none⟩=some (.int .i64 (j:Int)))
  (first|exact K1.out|exact K2.out)
  (first
    | ((with_reducible refine(CS1.out _).mono ?_);rintro en w2 ⟨H',y,rfl,hy,hs2,hH,hk⟩;have K2:=ab (And.intro ((hk.cell (p:=⟨W.heap.size,0,none⟩) (HPl.out _) HFr.out).trans K1.out.1) (And.intro ((hk.cell (p:=⟨W.heap.size,1,none⟩) (HPl.out _) HFr.out).trans K1.out.2.1) (And.intro ((hk.cell (p:=⟨X,16,none⟩) (HXl.out _) HFx.out).trans K1.out.2.2.1) (And.intro ((hk.cell (p:=⟨X,17,none⟩) (HXl.out _) HFx.out).trans K1.out.2.2.2.1) ((hk.cell (p:=⟨X,18,none⟩) (HXl.out _) HFx.out).trans K1.out.2.2.2.2)))))))
 have hkW:Kept (aJ 12 H) W w2:=(Kept.al (B1.out _) (F:=aJ 12 H)).trans hk (λ_ h=> .inl h);have hw2:=HW.out.kept hkW (λk e e2=>(HW.out.fR k e2).2.2.1 e) hH;have HKW:=ab hkW;have HW2:=ab hw2;have HS2:=ab hs2;have HH:=ab hH;have hE2:=hs2.bq HE.out;have e8:w2.cell? ⟨3,0,none⟩=some (ai (a 8)):=hE2.var 8 (by decide);have CI:=ab (rh a y sr.2 8 w2 hE2 hy (by decide));obtain⟨k0,k1,k2,k3,k4⟩:=K2.out;have P2:=ab (And.intro k0 k1);have PZ:=ab (show W.heap.size < w2.heap.size from Nat.lt_of_lt_of_le (HPl.out _) hk.size);have HY:=ab hy;clear hkW hw2 hs2 hH hE2 hk CS1 K1 K2 k0 k1 k2 k3 k4 B1 HPl HXl;rcases HPut.out with h13|⟨h0,hm1⟩
 · have hy:=HY.out;rw[h13]at CI hy;obtain⟨m,hm,hme,rfl⟩:∃m,m < 19/\13=m+1/\y=ai (a m):=by
    rcases hy with⟨h,_⟩|h
    · cases h
    · exact h
   have HFin:=ab hy;have H13:=ab (show(dN dK ep S.cs (nx:Int) (j:Int) pg us).2=13 from by rw[HSr.out];exact h13);clear hy hme h13 HY
   go_wp2_with fail
   refine CI.out.mono ?_;rintro en w3 ⟨rfl,rfl⟩;clear CI
   go_wp2_with fail
   go_ret
   exact⟨H',sr.1,HS2.out,HH.out,HKW.out.mono (λ_ _ h=> .inl h),.inl ⟨_,rfl,HFin.out,H13.out,HW2.out⟩⟩
 · have hy:=HY.out;rw[h0]at CI hy;obtain rfl:y= .nilIface:=by
    rcases hy with⟨_,h⟩|⟨m,_,h,_⟩
    · exact h
    · cases h
   have HM1:=ab hm1;obtain⟨d0,d1,d2,d3,d4,d5,d6⟩:=HW2.out.box.rest;have f12:=HW2.out.box.free 12;have f18:=HW2.out.box.free 18;clear hy h0 hm1 HY d0 d1 d2 d3 d5
   go_wp2_with fail
   refine CI.out.mono ?_;rintro en w3 ⟨rfl,rfl⟩;clear CI
   go_wp2_with fail
   obtain⟨W3,hW3⟩:=aa (w2.setCell ⟨X,18,none⟩ (.int .i64 ((j:Int)+1)));rw[hW3];have hK3:Kept (λk=>k=X) w2 W3:=by rw[<-hW3];exact(Kept.refl (λk=>k=X) w2).setCell (p:=⟨X,18,none⟩) (.inl rfl) _
   have hw3:=HW2.out.mE hK3 (show bh W3 X e vo vd 2 x asks ep (nx:Int) (.slice Ap np cp) ((j+1:Nat):Int) from by rw[<-hW3];exact HW2.out.box.Cy _);have hs3:=HS2.out.kept HDv.out hK3 (λk e=>by subst e;have:=HW2.out.self;exact⟨this.1,this.2.2⟩);have HK3:=ab hK3;have HW3:=ab hw3;have HS3:=ab hs3;have hz3:=hK3.size;have hXne:W.heap.size≠X:=by have:=HX.out;omega
   have hg3:=hs3.di;rw[HV.out]at hg3;have CC1:=ab (CC.out W3.drew (hg3.below (Below.refl _ _).drew) hs3.low.2 ((hs3.bq HE.out).below (Below.refl _ _).drew));obtain⟨d0,d1,d2,d3,d4,d5,d6⟩:=hw3.box.rest;have K3:=ab (show W3.cell? ⟨W.heap.size,0,none⟩=some (.int .i64 ep)/\W3.cell? ⟨W.heap.size,1,none⟩=some (.slice A S.cs.length c)/\W3.cell? ⟨X,16,none⟩=some (.int .i64 (nx:Int))/\W3.cell? ⟨X,18,none⟩=some (.int .i64 ((j:Int)+1)) from⟨(hK3.cell (p:=⟨W.heap.size,0,none⟩) PZ.out hXne).trans P2.out.1,(hK3.cell (p:=⟨W.heap.size,1,none⟩) PZ.out hXne).trans P2.out.2,d4,d6⟩);have PZ3:=ab (Nat.lt_of_lt_of_le PZ.out hz3);have HXz3:=ab (Nat.lt_of_lt_of_le HW2.out.self.2.1 hz3);clear hg3 hW3 hK3 hw3 hs3 hz3 hXne d0 d1 d2 d3 d4 d5 d6 CC f12 f18;unfold cL at *
   go_region_held3 (λY=>Y.cell? ⟨W.heap.size,0,none⟩=some (.int .i64 ep)/\Y.cell? ⟨W.heap.size,1,none⟩=some (.slice A S.cs.length c)/\Y.cell? ⟨X,16,none⟩=some (.int .i64 (nx:Int))/\Y.cell? ⟨X,18,none⟩=some (.int .i64 ((j:Int)+1)))
    (first|exact K3.out|exact K4.out)
    (first
      | ((with_reducible refine CC1.out.mono ?_);rintro en w4 ⟨rfl,hb4⟩;have K4:=ab (And.intro ((hb4.cell (p:=⟨W.heap.size,0,none⟩) PZ3.out).trans K3.out.1) (And.intro ((hb4.cell (p:=⟨W.heap.size,1,none⟩) PZ3.out).trans K3.out.2.1) (And.intro ((hb4.cell (p:=⟨X,16,none⟩) HXz3.out).trans K3.out.2.2.1) ((hb4.cell (p:=⟨X,18,none⟩) HXz3.out).trans K3.out.2.2.2))))))
   have HB34:=ab (((Below.refl W3.heap.size W3).drew).trans hb4);clear hb4 CC1 K3;have hw4:=HW3.out.below HB34.out;have f12:=hw4.box.free 12;have d0:=hw4.box.rest.1;have HW4:=ab hw4;have HS4:=ab (HS3.out.below HDv.out HB34.out);have HK4:=ab (show Kept (λk=>aJ 12 H k\/k=X) W w4 from((HKW.out.mono (λ_ _ h=> .inl h)).trans (HK3.out.mono (λ_ _ h=> .inr h)) (λ_ h=> .inl h)).trans (Kept.al HB34.out (F:=λk=>aJ 12 H k\/k=X)) (λ_ h=> .inl h));clear hw4 K4 i1 i2 d4 d6;by_cases hjl:j+1=L
   · have q:(j:Int)+1=(L:Int):=by omega
     have HQ:=ab hjl;clear hjl
     go_wp2_with fail
     go_ret
     have hK5:Kept (λk=>k=X) w4 (w4.setCell ⟨X,12,none⟩ (.int .i64 3)):=(Kept.refl (λk=>k=X) w4).setCell (p:=⟨X,12,none⟩) (.inl rfl) _;refine⟨H',sr.1,HS4.out.kept HDv.out hK5 (λk e=>by subst e;have:=HW4.out.self;exact⟨this.1,this.2.2⟩),HH.out,HK4.out.trans (hK5.mono (λ_ _ h=> .inr h)) (λ_ h=> .inl h),.inr ⟨rfl,HM1.out,?_⟩⟩;rw[HLen.out,if_pos HQ.out];exact HW4.out.mE hK5 (HW4.out.box.oK 3)
   · have q:¬(j:Int)+1=(L:Int):=by omega
     have HQ:=ab hjl;clear hjl d0 f12
     go_wp2_with fail
     go_ret
     refine⟨H',sr.1,HS4.out,HH.out,HK4.out,.inr ⟨rfl,HM1.out,?_⟩⟩;rw[HLen.out,if_neg HQ.out];exact HW4.out
end
end Go.Proofs.YtdilnodbfnlhdaaGreatDoor
namespace Go.Proofs.YtdilnodbfnlhdaaGreatDoor
open Go Go.RowKit Tide
section
variable {D:az} {a:Nat->Addr} {w W:World} {S:ei} {H:Nat->Nat->Prop} {us:Nat->av} {s:bZ} {N X:Nat} {e:aD} {vo vd x vp:Value} {st asks ep q cp:Int} {pg:List UInt8} {T:World->Prop} {K:ByteArray->Nat}
def fY (s:bZ) (l:List Int):bZ:= { s with nx:=s.nx+1,all:=(cB s.nx s.all l).2 }
def gx (s:bZ) (e:aD):List fe:=(cB s.nx s.all (bI e)).1.map λp=>⟨p.1,p.2⟩
def o9 (D:az) (w W:World) (S:ei) (H:Nat->Nat->Prop) (us:Nat->av) (s:bZ) (N X:Nat) (K:ByteArray->Nat) (e:aD) (vo vd x:Value) (asks cp:Int) (en:Ending) (w':World):Prop:=
 en= .returned .nilIface/\Kept (λk=>k=X\/k=S.t) W w'/\bl D w w' S H us (fY s (bI e)) N/\∃vp,cz w' S H X e vo vd 2 x (asks+1) s.ep s.nx vp cp (eN K e (gx s e)).1
theorem uY (hD:aC (three a) D) (hL:dI a T K w) (hs:bl D w W S H us s N) (hw:cz W S H X e vo vd st x asks ep q vp cp pg) (ha:asks < 8) (h0:0<=asks) (hz:eh e) (hK:(bO K e).2=0) (hn:s.nx < 4096) (hf:gK s.nx s.all):
 Calls Tryz.prog 53 #[.pointer (some ⟨X,0,none⟩),.int .i64 s.ep,.pointer (some ⟨S.t,0,none⟩)] W (o9 D w W S H us s N X K e vo vd x asks cp):=by
 obtain⟨k0,k1,k2,k3,k4,k5,k6,k7,k8,k9,k10,k11⟩:=hw.box.qj;obtain⟨d0,d1,d2,d3,d4,d5,d6⟩:=hw.box.rest;have hLW:=hL.below hs.bP.since;have HLW:=ab hL;have HS:=ab hs;have HW:=ab hw;have HDv:=ab hD;obtain⟨hR,_,_⟩:=kj hK;have hup:=mA hR;have hlen:=tu e;obtain⟨tk1,tk2⟩:=mB hn hup hf;have hpk:=n8 hK tk1;have HPK:=ab (show(eN K e (gx s e)).2=0 from hpk.1);have CS:=ab (tv a T K e vo vd W.heap.size W hw.lists (Nat.le_refl _) hz hLW);rw[if_pos hR]at CS;have CT:=ab (λ(W1:World) (u:Value) (hb:Below W.heap.size W W1) (hr:Row W1 W1.heap.size u (ay (bI e))) (ho:∀k,u.ownBlock=some k->W.heap.size<=k)=>by have hs1:=hs.below hD hb;have hE1:E5 a W1:=E5.iV (hs1.bq hL.bq);exact DY (bI e) u W1.heap.size hs1.tok hE1 (λW2 hk=>jb hr hk (Nat.le_refl _) (λk e1 e2=>by have:=ho k e1;have:=(hs.free S.t (.inr rfl)).2;omega)) hlen.1 hlen.2 hup hn);have i8:¬asks=8:=by omega
 have HN:=ab hn;have HZ:=ab hz;have i9: -9223372036854775808<=asks+1:=by omega
 have i10:asks+1<=9223372036854775807:=by omega
 clear hLW hL hs hw hD hR hup hlen tk1 tk2 hpk hK hf hz hn;unfold o9
 go_enter Tryz.func53,Tryz.ntmps53
 go_wp2_with fail
 refine CS.out.mono ?_;rintro en w1 ⟨u,rfl,⟨hu,ho⟩,hb⟩;have CT1:=ab (CT.out w1 u hb hu ho);have HS1:=ab (HS.out.below HDv.out hb);have HW1:=ab (HW.out.below hb);have HB1:=ab hb;obtain⟨_,Au,cu,rfl,_⟩:=dn hu;clear hu ho hb CS CT k0 k1 k2 k3 k4 k5 k6 k7 k8 k9 k10 k11 d0 d1 d2 d3 d4 d5 d6
 go_wp2_with fail
 refine CT1.out.mono ?_;rintro en w2 ⟨vb,rfl,hob,hT,hk⟩;have HS2:=ab (HS1.out.D7 HDv.out hk hT);have hw2:=HW1.out.kept hk (λk e e2=>(HW1.out.fR k e2).2.2.2.2 e) (λ_ e=> .inl e);have HW2:=ab hw2;have HK2:=ab hk;have HOB:=ab hob;obtain⟨k0,k1,k2,k3,k4,k5,k6,k7,k8,k9,k10,k11⟩:=hw2.box.qj;obtain⟨d0,d1,d2,d3,d4,d5,d6⟩:=hw2.box.rest;have f12:=hw2.box.free 12;have f14:=hw2.box.free 14;have f15:=hw2.box.free 15;have f16:=hw2.box.free 16;obtain⟨W3,hW3⟩:=aa (((w2.setCell ⟨X,14,none⟩ (.int .i64 (asks+1))).setCell ⟨X,15,none⟩ (.int .i64 s.ep)).setCell ⟨X,16,none⟩ (.int .i64 (s.nx:Int)));have HK3:Kept (λk=>k=X) w2 W3:=by rw[<-hW3];exact(((Kept.refl (λk=>k=X) w2).setCell (p:=⟨X,14,none⟩) (.inl rfl) _).setCell (p:=⟨X,15,none⟩) (.inl rfl) _).setCell (p:=⟨X,16,none⟩) (.inl rfl) _
 have hw3:cz W3 S H X e vo vd st x (asks+1) s.ep s.nx vp cp pg:=HW2.out.mE HK3 (by rw[<-hW3];exact((HW2.out.box.Cx _).Cz _).setAt _);have hs3:bl D w W3 S H us (fY s (bI e)) N:=HS2.out.kept HDv.out HK3 (λk e=>by subst e;have:=HW2.out.self;exact⟨this.1,this.2.2⟩);have hB3:=hob.kept HK3 (λk e=> .inl (by subst e;exact HW1.out.self.2.1));have CP:=ab (AI a T K e vo vd vb (gx s e) W3.heap.size W3 hw3.lists (vk hB3.vj) (Nat.le_refl _) HZ.out (HLW.out.below hs3.bP.since));have HW3:=ab hw3;have HS3:=ab hs3;have HK13:=ab (show Kept (λk=>k=X\/k=S.t) w1 W3 from(hk.mono (λ_ _ h=> .inr h)).trans (HK3.mono (λ_ _ h=> .inl h)) (λ_ h=> .inl h));have HE3:=ab hW3;clear hob hT hk hw2 CT1 HK3 hw3 hs3 hB3 hW3
 go_wp2_with fail
 rw[HE3.out];refine CP.out.mono ?_;rintro en w4 ⟨ub,x4,rfl,hu,hx,hb⟩;rw[HPK.out]at hx;obtain⟨pb,hpb⟩:=aa (eN K e (gx s e));rw[hpb]at hu;have HPB:=ab hpb;obtain⟨Bu,du,rfl⟩:=kH hu;obtain rfl:x4= .nilIface:=by
  rcases hx with⟨_,h⟩|⟨m,_,h0,_⟩
  · exact h
  · omega
 have HU:=ab hu;have HB4:=ab hb;have hw4:=HW3.out.below hb;have HW4:=ab hw4;have HS4:=ab (HS3.out.below HDv.out hb);obtain⟨d0,d1,d2,d3,d4,d5,d6⟩:=hw4.box.rest;have f12:=hw4.box.free 12;have f17:=hw4.box.free 17;clear hu hx hb hw4 CP hpb HE3
 go_wp2_with fail
 go_ret
 obtain⟨W5,hW5⟩:=aa ((w4.setCell ⟨X,17,none⟩ (.slice Bu pb.1.length du)).setCell ⟨X,12,none⟩ (.int .i64 2));rw[hW5];have hK5:Kept (λk=>k=X) w4 W5:=by rw[<-hW5];exact((Kept.refl (λk=>k=X) w4).setCell (p:=⟨X,17,none⟩) (.inl rfl) _).setCell (p:=⟨X,12,none⟩) (.inl rfl) _
 have hbox:bh W5 X e vo vd 2 x (asks+1) s.ep s.nx (.slice Bu pb.1.length du) cp:=by rw[<-hW5];exact(HW4.out.box.CV _).oK 2
 have hself:=HW4.out.self;have hX3:=HW3.out.self.2.1;have hul:∀k,(Value.slice Bu pb.1.length du).ownBlock=some k->W3.heap.size<=k/\k < w4.heap.size:=λk e=>HU.out.lt k e;have hs5:bl D w W5 S H us (fY s (bI e)) N:=HS4.out.kept HDv.out hK5 (λk e=>by subst e;exact⟨hself.1,hself.2.2⟩);have hsz:=hK5.size;refine⟨rfl,?_,hs5,.slice Bu pb.1.length du,?_⟩
 · have h1:Kept (λk=>k=X\/k=S.t) W w1:=Kept.al HB1.out;have h2:=h1.trans HK13.out (λ_ h=> .inl h);have h3:=h2.trans (Kept.al HB4.out (F:=λk=>k=X\/k=S.t)) (λ_ h=> .inl h);exact h3.trans (hK5.mono (λ_ _ h=> .inl h)) (λ_ h=> .inl h)
 · rw[HPB.out];refine { box:=hbox,lists:=nN HW4.out.lists hK5 (λb e e2=>HW4.out.apart b (e.elim .inl (λe=> .inr (.inl e))) e2),aw:=(jb (Bytes.dm HU.out) hK5 (Nat.le_refl _) (λb e e2=>by have:=hul b e;omega)).more hsz,fR:=λk e=> ?_,apart:=λk e=> ?_ }
   · rcases e with e|e|e|e
     · obtain⟨h1,h2,h3⟩:=HW4.out.fR k (.inl e);exact⟨h1,Nat.lt_of_lt_of_le h2 hsz,h3⟩
     · obtain⟨h1,h2,h3⟩:=HW4.out.fR k (.inr (.inl e));exact⟨h1,Nat.lt_of_lt_of_le h2 hsz,h3⟩
     · obtain⟨h1,h2,h3⟩:=HW4.out.fR k (.inr (.inr (.inl e)));exact⟨h1,Nat.lt_of_lt_of_le h2 hsz,h3⟩
     · obtain⟨h1,h2⟩:=hul k e;have hl:=HS3.out.low;have hb:=(HS3.out.free S.bu (.inl rfl)).2;have ht:=(HS3.out.free S.t (.inr rfl)).2;exact⟨by omega,by omega,λhA=>by have:=(HS3.out.bP.lt k hA).2;omega,by omega,by omega⟩
   · rcases e with e|e|e
     · exact HW4.out.apart k (.inl e)
     · exact HW4.out.apart k (.inr (.inl e))
     · have:=hul k e;omega
end
end Go.Proofs.YtdilnodbfnlhdaaGreatDoor
namespace Go.Proofs.YtdilnodbfnlhdaaGreatDoor
open Go Go.RowKit Tide
section
variable {D:az} {a:Nat->Addr} {w W:World} {S:ei} {H:Nat->Nat->Prop} {us:Nat->av} {s:bZ} {N X:Nat} {e:aD} {vo vd x vp:Value} {asks ep q cp:Int} {pg:List UInt8} {T:World->Prop} {K:ByteArray->Nat}
def mT (D:az) (w W:World) (S:ei) (H:Nat->Nat->Prop) (us:Nat->av) (s:bZ) (N X:Nat) (K:ByteArray->Nat) (e:aD) (vo vd x:Value) (asks cp:Int) (en:Ending) (w':World):Prop:=
 en= .returned (.int .i64 2)/\Kept (λk=>k=X\/k=S.t) W w'/\bl D w w' S H us (fY s (bI e)) N/\∃vp,cz w' S H X e vo vd 2 x (asks+1) s.ep s.nx vp cp (eN K e (gx s e)).1
theorem tl (hD:aC (three a) D) (hL:dI a T K w) (hs:bl D w W S H us s N) (hw:cz W S H X e vo vd 1 x asks ep q vp cp pg) (ha:asks < 8) (h0:0<=asks) (hz:eh e) (hK:(bO K e).2=0) (hn:s.nx < 4096) (hf:gK s.nx s.all):
 Calls Tryz.prog 23 #[.pointer (some ⟨X,0,none⟩),S.vu,cL s.ep S.vp,.pointer (some ⟨S.t,0,none⟩)] W (mT D w W S H us s N X K e vo vd x asks cp):=by
 obtain⟨A,c,hv,_⟩:=dH.form (dH.iW hs.di hs.low.2);have B0:=ab (show Below W.heap.size W (W.alloc (.cells #[.int .i64 s.ep,S.vp] 24)) from(Below.refl W.heap.size W).alloc (Nat.le_refl _) _);have hw0:=hw.below B0.out;have hs0:=hs.below hD B0.out;obtain⟨d0,_⟩:=hw0.box.rest;have CA:=ab (uY hD hL hs0 hw0 ha h0 hz hK hn hf);rw[hv]at B0 d0 CA ⊢;clear hD hL hs hw ha h0 hz hK hn hf hw0 hs0 hv;unfold mT cL at *
 go_enter Tryz.func23,Tryz.ntmps23
 go_wp2_with fail
 refine CA.out.mono ?_;rintro en w1 ⟨rfl,hk,hs1,vp1,hw1⟩;have d0:=hw1.box.rest.1;have HS1:=ab hs1;have HW1:=ab hw1;have HK1:=ab ((Kept.al B0.out (F:=λk=>k=X\/k=S.t)).trans hk (λ_ h=> .inl h));clear hk hs1 hw1 CA
 go_wp2_with fail
 go_ret
 exact⟨rfl,HK1.out,HS1.out,vp1,HW1.out⟩
def uF (D:az) (a:Nat->Addr) (w W:World) (S:ei) (H:Nat->Nat->Prop) (us:Nat->av) (s:bZ) (N X:Nat) (e:aD) (vo vd:Value) (asks ep:Int) (nx:Nat) (vp:Value) (j:Nat) (pg:List UInt8) (en:Ending) (w':World):Prop:=
 ∃H' us',bl D w w' S H' us' s (N+3)/\(∀k,aJ 12 H' k->aJ 12 H k\/W.heap.size<=k)/\Kept (λk=>aJ 12 H k\/k=X) W w'/\
  ((∃y,en= .returned (.int .i64 4)/\bf a y 13/\(dN dK ep S.cs (nx:Int) (j:Int) pg us).2=13/\cz w' S H' X e vo vd 4 y asks ep (nx:Int) vp (j:Int) pg)\/
    (en= .returned (.int .i64 (if j+1=(bU S.cs nx).length then 3 else 2))/\ga S.cs nx (j+1) us'/\cz w' S H' X e vo vd (if j+1=(bU S.cs nx).length then 3 else 2) .nilIface asks ep (nx:Int) vp ((j+1:Nat):Int) pg))
theorem tt {nx j:Nat} (hD:aC (three a) D) (hE:ar w a) (hs:bl D w W S H us s N) (hN:N+3<=90000) (hw:cz W S H X e vo vd 2 .nilIface asks ep (nx:Int) vp (j:Int) pg) (hr:aP ep S.cs=true) (hn:nx<=4095)
 (hb:1<=pg.length/\pg.length<=2048) (hj:j < (bU S.cs nx).length) (hm:ga S.cs nx j us):
 Calls Tryz.prog 23 #[.pointer (some ⟨X,0,none⟩),S.vu,cL ep S.vp,.pointer (some ⟨S.t,0,none⟩)] W (uF D a w W S H us s N X e vo vd asks ep nx vp j pg):=by
 obtain⟨A,c,hv,_⟩:=dH.form (dH.iW hs.di hs.low.2);have B0:=ab (show Below W.heap.size W (W.alloc (.cells #[.int .i64 ep,S.vp] 24)) from(Below.refl W.heap.size W).alloc (Nat.le_refl _) _);have hw0:=hw.below B0.out;have hs0:=hs.below hD B0.out;obtain⟨d0,_⟩:=hw0.box.rest;have CA:=ab (E1 hD hE hs0 hN hw0 hr hn hb hj hm);obtain⟨L,hL⟩:=aa ((bU S.cs nx).length);have HDv:=ab hD;have HLen:=ab hL;rw[hv]at B0 d0 CA ⊢;clear hD hE hs hw hr hn hb hj hm hw0 hs0 hv hL hN;unfold cL at *
 go_enter Tryz.func23,Tryz.ntmps23
 go_wp2_with fail
 refine CA.out.mono ?_;rintro en w1 ⟨H',us',hs1,hH,hk,hcase⟩;have HS1:=ab hs1;have HH:=ab (show ∀k,aJ 12 H' k->aJ 12 H k\/W.heap.size<=k from λk e=>(hH k e).imp id (λh=>Nat.le_trans B0.out.size h));have HK1:=ab ((Kept.al B0.out (F:=λk=>aJ 12 H k\/k=X)).trans hk (λ_ h=> .inl h));clear hs1 hH hk CA;rcases hcase with⟨y,rfl,hy,h13,hw1⟩|⟨rfl,hm1,hw1⟩
 · obtain⟨m,hm,hme,rfl⟩:∃m,m < 19/\13=m+1/\y=ai (a m):=by
    rcases hy with⟨h,_⟩|h
    · cases h
    · exact h
   have HY:=ab hy;have H13:=ab h13;have HW1:=ab hw1;have d0:=hw1.box.rest.1;have d1:=hw1.box.rest.2.1;have f12:=hw1.box.free 12;have f13:=hw1.box.free 13;clear hy hw1 hme hm h13
   go_wp2_with fail
   go_ret
   obtain⟨w2,hw2⟩:=aa ((w1.setCell ⟨X,12,none⟩ (.int .i64 4)).setCell ⟨X,13,none⟩ (ai (a m)));rw[hw2];have hK5:Kept (λk=>k=X) w1 w2:=by rw[<-hw2];exact((Kept.refl (λk=>k=X) w1).setCell (p:=⟨X,12,none⟩) (.inl rfl) _).setCell (p:=⟨X,13,none⟩) (.inl rfl) _
   refine⟨H',us',HS1.out.kept HDv.out hK5 (λk e=>by subst e;have:=HW1.out.self;exact⟨this.1,this.2.2⟩),HH.out,HK1.out.trans (hK5.mono (λ_ _ h=> .inr h)) (λ_ h=> .inl h),.inl ⟨_,rfl,HY.out,H13.out,?_⟩⟩;exact HW1.out.mE hK5 (by rw[<-hw2];exact(HW1.out.box.oK 4).CE _)
 · have HM1:=ab hm1;have HW1:=ab hw1;have d0:=hw1.box.rest.1;obtain⟨z,hz⟩:∃z:Int,(if j+1=(bU S.cs nx).length then 3 else 2)=z:=⟨_,rfl⟩;have HZ:=ab hz;rw[hz]at d0;clear hw1 hm1 hz
   go_wp2_with fail
   go_ret
   refine⟨H',us',HS1.out,HH.out,HK1.out,.inr ⟨?_,HM1.out,HW1.out⟩⟩;rw[HZ.out];rfl
end
end Go.Proofs.YtdilnodbfnlhdaaGreatDoor
namespace Go.Proofs.YtdilnodbfnlhdaaGreatDoor
open Go Go.RowKit Tide
def ow (X:Nat) (w:World):Nat:=match w.cell? ⟨X,12,none⟩,w.cell? ⟨X,18,none⟩with
 | some (.int _ z),some (.int _ c)=>if z=1 then 20 else if z=2 then 10 - c.toNat else 0
 | _,_=>0
theorem kL {W:World} {b:Nat} {e:aD} {vo vd x vp:Value} {st asks ep q cp:Int} (h:bh W b e vo vd st x asks ep q vp cp):ow b W=if st=1 then 20 else if st=2 then 10 - cp.toNat else 0:=by obtain⟨d0,_,_,_,_,_,d6⟩:=h.rest;unfold ow;rw[d0,d6]
section
variable {D:az} {a:Nat->Addr} {w W:World} {S:ei} {H:Nat->Nat->Prop} {us:Nat->av} {s:bZ} {N X:Nat} {e:aD} {vo vd x vp:Value} {asks ep q cp:Int} {pg:List UInt8} {T:World->Prop} {K:ByteArray->Nat}
theorem bl.fresh (hs:bl D w W S H us s N):∀k,W.heap.size<=k->S.lo<=k/\¬aJ 12 H k/\k≠S.bu/\k≠S.t:=λk h=>by have h1:=hs.low.2;have h2:=(hs.free S.bu (.inl rfl)).2;have h3:=(hs.free S.t (.inr rfl)).2;exact⟨by omega,λhA=>by have:=(hs.bP.lt k hA).2;omega,by omega,by omega⟩
theorem rH {W0 w1:World} (hnot:∀k,W.heap.size<=k->S.lo<=k/\¬aJ 12 H k/\k≠S.bu/\k≠S.t) (hX0:W.heap.size<=X) (hz0:W.heap.size<=W0.heap.size) (hbox:bh w1 X e vo vd 1 .nilIface 0 0 (-1) (.slice none 0 0) 0) (hl:mM w1 W0.heap.size e vo vd) (hap:∀k,vo.ownBlock=some k\/vd.ownBlock=some k->k≠X):
 cz w1 S H X e vo vd 1 .nilIface 0 0 (-1) (.slice none 0 0) 0 []:=by
 refine⟨hbox,hl.1,fO _ _,λk e=> ?_,λk e=> ?_⟩
 · rcases e with e|e|e|e
   · subst e;exact⟨(hnot k hX0).1,hbox.lt,(hnot k hX0).2⟩
   · have h:=hl.2 k (.inl e);have h2:=hnot k (Nat.le_trans hz0 h.1);exact⟨h2.1,h.2,h2.2⟩
   · have h:=hl.2 k (.inr e);have h2:=hnot k (Nat.le_trans hz0 h.1);exact⟨h2.1,h.2,h2.2⟩
   · cases e
 · rcases e with e|e|e
   · exact hap k (.inl e)
   · exact hap k (.inr e)
   · cases e
inductive iK (D:az) (a:Nat->Addr) (w:World) (S:ei) (us:Nat->av) (s:bZ) (N X:Nat) (K:ByteArray->Nat) (e:aD) (vo vd:Value) (wr:World) (H':Nat->Nat->Prop):Int->Value->Prop
 | asks (vp:Value) (h1:bl D w wr S H' us s N) (h2:cz wr S H' X e vo vd 1 .nilIface 0 0 (-1) vp 0 []):iK D a w S us s N X K e vo vd wr H' 1 .nilIface
 | writes (us':Nat->av) (vp:Value) (j:Nat) (hj:j < (bU S.cs s.nx).length) (h1:bl D w wr S H' us' (fY s (bI e)) (N+3 * j)) (hm:ga S.cs s.nx j us') (h2:cz wr S H' X e vo vd 2 .nilIface 1 s.ep s.nx vp (j:Int) (eN K e (gx s e)).1):iK D a w S us s N X K e vo vd wr H' 2 .nilIface
 | done (us':Nat->av) (vp:Value) (j:Nat) (h1:bl D w wr S H' us' (fY s (bI e)) (N+9)) (hm:gn S.cs (s.nx+1) us') (h2:cz wr S H' X e vo vd 3 .nilIface 1 s.ep s.nx vp (j:Int) (eN K e (gx s e)).1):iK D a w S us s N X K e vo vd wr H' 3 .nilIface
 | full (us':Nat->av) (y:Value) (vp:Value) (j:Nat) (hy:bf a y 13) (h1:bl D w wr S H' us' (fY s (bI e)) (N+9)) (h2:cz wr S H' X e vo vd 4 y 1 s.ep s.nx vp (j:Int) (eN K e (gx s e)).1):iK D a w S us s N X K e vo vd wr H' 4 y
def uk (D:az) (a:Nat->Addr) (w W:World) (S:ei) (H:Nat->Nat->Prop) (s:bZ) (N:Nat) (K:ByteArray->Nat) (e:aD) (en:Ending) (w':World):Prop:=
 ((bO K e).2≠0/\(∃x,en= .returned (.tuple #[.int .i64 0,x])/\bf a x (bO K e).2)/\Below W.heap.size W w')\/
 ((∃x,en= .returned (.tuple #[.int .i64 0,x])/\bf a x 13)/\Kept (λk=>aJ 12 H k\/k=S.t) W w')\/
 (en= .returned (.tuple #[.int .i64 (s.nx:Int),.nilIface])/\Kept (λk=>aJ 12 H k\/k=S.t) W w'/\∃H' us',(∀k,aJ 12 H' k->aJ 12 H k\/W.heap.size<=k)/\bl D w w' S H' us' (fY s (bI e)) (N+9)/\gn S.cs (s.nx+1) us'/\(bO K e).2=0)
theorem EB (hD:aC (three a) D) (hL:dI a T K w) (hs:bl D w W S H us s N) (hN:N+9<=90000) (B:Nat) (hi:dY W B e vo vd) (hB:B<=W.heap.size) (hz:eh e) (hr:aP s.ep S.cs=true) (hn:s.nx < 4096) (hf:gK s.nx s.all) (hfr:gn S.cs s.nx us):
 Calls Tryz.prog 19 #[S.vu,cL s.ep S.vp,.pointer (some ⟨S.t,0,none⟩),.agg (cj e vo vd)] W (uk D a w W S H s N K e):=by
 obtain⟨A,c,hv,_⟩:=dH.form (dH.iW hs.di hs.low.2);obtain⟨Ao,co,rfl,_,_⟩:=eV hi.1;obtain⟨Ad,cd,rfl,_,_,_⟩:=hi.2.form;have B0:=ab (show Below W.heap.size W ((W.alloc (.cells #[.int .i64 s.ep,S.vp] 24)).alloc (.cells (cj e (.slice Ao e.ops.length co) (.slice Ad e.data.length cd)) 40)) from((Below.refl W.heap.size W).alloc (Nat.le_refl _) _).alloc (by simp) _);have P0:=ab (show aH ((W.alloc (.cells #[.int .i64 s.ep,S.vp] 24)).alloc (.cells (cj e (.slice Ao e.ops.length co) (.slice Ad e.data.length cd)) 40)) W.heap.size 24 (.int .i64 s.ep) S.vp from(aH.new W 24 (.int .i64 s.ep) S.vp).alloc _);have CN:=ab (ua a T K e (.slice Ao e.ops.length co) (.slice Ad e.data.length cd) B _ (hi.below (B0.out.mono hB)) (Nat.le_trans hB B0.out.size) hz (hL.below (hs.bP.since.trans (B0.out.mono hs.bP.since.size))));have HS:=ab hs;have HDv:=ab hD;have HL:=ab hL;have HZ:=ab hz;have HR:=ab hr;have HN:=ab hN;have HNx:=ab hn;have HF:=ab hf;have HFr:=ab hfr;have HV:=ab hv;have HPg:=ab (λ(h:(bO K e).2=0)=>(n8 h (mB hn (mA (kj h).1) hf).1).2);have HL3:=ab (show(bU S.cs s.nx).length<=3 from by have h3:=(fm hr).2.2.1;obtain⟨h4,h5⟩:=jw (cs:=S.cs) (nx:=s.nx) h3;rw[h5];exact((fm hr).2.2.2.2.1 _ (List.getElem_mem h4)).2);rw[hv]at B0 P0 CN ⊢;clear hi hB hs hD hL hz hr hN hn hf hfr hv;unfold cL cj at *
 go_enter Tryz.func19,Tryz.ntmps19
 go_wp2_with fail
 refine CN.out.mono ?_;rintro en w1 ⟨hb,hcase⟩;have HB1:=ab (B0.out.trans (hb.mono B0.out.size));have HBn:=ab hb;have P1:=ab (P0.out.below hb P0.out.lt);clear hb CN;rcases hcase with⟨hk,X,vo2,vd2,rfl,hX,hbox,hl,hap⟩|⟨hk,x1,hx,rfl⟩
 rotate_left
 · obtain⟨m,hm,hme,rfl⟩:∃m,m < 19/\(bO K e).2=m+1/\x1=ai (a m):=by
    rcases hx with⟨h,_⟩|h
    · exact absurd h hk
    · exact h
   have HX:=ab hx;have HK:=ab hk;clear hk hx hme hm
   go_wp2_with fail
   go_ret2
   exact .inl ⟨HK.out,⟨_,rfl,HX.out⟩,HB1.out⟩
 · have hz1:=HB1.out.size;have hz0:=B0.out.size;have hX0:W.heap.size<=X:=Nat.le_trans hz0 hX;have hnot:∀k,W.heap.size<=k->S.lo<=k/\¬aJ 12 H k/\k≠S.bu/\k≠S.t:=HS.out.fresh;have hw1:cz w1 S H X e vo2 vd2 1 .nilIface 0 0 (-1) (.slice none 0 0) 0 []:=rH hnot hX0 hz0 hbox hl hap;have HStart:=ab (iK.asks (a:=a) (us:=us) (s:=s) (N:=N) (K:=K) (.slice none 0 0) (HS.out.below HDv.out HB1.out) hw1);have HKs:=ab hk;have HX0:=ab hX0;have HBx:=ab (show W.heap.size < w1.heap.size/\W.heap.size≠X from by have h1:W.heap.size < ((W.alloc (.cells #[.int .i64 s.ep,.slice A S.cs.length c] 24)).alloc (.cells #[.int .i64 e.kind,.int .i64 e.au,.int .i64 e.other,.int .i64 e.server,.int .i64 e.bF,.int .i64 e.seq,.slice Ao e.ops.length co,.string e.key,.int .i64 e.upto,.int .i64 e.part,.int .i64 e.parts,.slice Ad e.data.length cd] 40)).heap.size:=P0.out.lt;exact⟨Nat.lt_of_lt_of_le h1 HBn.out.size,by omega⟩);have HNot:=ab hnot;have HXl:=ab hbox.lt;obtain⟨_,p0,p1,_⟩:=P1.out.facts;have PP:=ab (And.intro p0 p1);clear hz1 hz0 hX0 hnot hw1 hk hX hbox hl hap p0 p1
   go_wp2_with fail
   go_loopw [] (λwr=>∃ (H':Nat->Nat->Prop) (st:Int) (x:Value),Hid (iK D a w S us s N X K e vo2 vd2 wr H' st x)/\Hid ((∀k,aJ 12 H' k->aJ 12 H k\/w1.heap.size<=k)/\Kept (λk=>aJ 12 H k\/k=S.t\/k=X) w1 wr)) (λwr=>ow X wr)
   case atStart=>exact⟨H,1,.nilIface,HStart,ab ⟨λ_ h=> .inl h,Kept.refl _ _⟩⟩
   case round=>
    obtain⟨H',st,x,hP,hK⟩:=hrel;have hnF:¬(aJ 12 H W.heap.size\/W.heap.size=S.t\/W.heap.size=X):=λh=>by
     have h1:=HNot.out W.heap.size (Nat.le_refl _);rcases h with h|h|h
     · exact h1.2.1 h
     · exact h1.2.2.2 h
     · exact HBx.out.2 h
    have p0:=(hK.out.2.cell (p:=⟨W.heap.size,0,none⟩) HBx.out.1 hnF).trans PP.out.1;have p1:=(hK.out.2.cell (p:=⟨W.heap.size,1,none⟩) HBx.out.1 hnF).trans PP.out.2;cases hP.out with
    | asks vp h1 h2=>
      have d0:=h2.box.rest.1;have CS:=ab (tl HDv.out HL.out h1 h2 (by decide) (by decide) HZ.out HKs.out HNx.out HF.out);have HRk:=ab (kL h2.box);rw[HV.out]at CS;clear h1 h2 hnF;unfold cL at *
      go_wp2_with fail
      refine CS.out.mono ?_;rintro en w2 ⟨rfl,hk,hs2,vp2,hw2⟩;have HK2:=ab hk;have HS2:=ab hs2;have HW2:=ab hw2;clear hk hs2 hw2 CS
      go_wp2_with fail
      have hch:=jw (cs:=S.cs) (nx:=s.nx) (fm HR.out).2.2.1;have hj:0 < (bU S.cs s.nx).length:=by rw[hch.2];have:=((fm HR.out).2.2.2.2.1 _ (List.getElem_mem hch.1)).1;omega
      have hnext:=iK.writes (a:=a) (us:=us) (s:=s) (N:=N) us vp2 0 hj HS2.out (HFr.out.rD (fm HR.out).2.2.1) HW2.out
      go_roundw
      case rel=>exact⟨H',2,.nilIface,ab hnext,ab ⟨hK.out.1,hK.out.2.trans HK2.out (λk e=> .inl (e.elim (λe=> .inr (.inr e)) (λe=> .inr (.inl e))))⟩⟩
      case measure=>rw[kL HW2.out.box,HRk.out];decide
    | writes us' vp j hj h1 hm h2=>
      have d0:=h2.box.rest.1;have hl3:=HL3.out;have CS:=ab (tt HDv.out HL.out.bq h1 (by have:=HN.out;omega) h2 HR.out (by have:=HNx.out;omega) (HPg.out HKs.out) hj hm);have HRk:=ab (kL h2.box);have HJ:=ab hj;rw[HV.out]at CS;clear h1 h2 hnF hm hj hl3;unfold cL at *
      go_wp2_with fail
      refine CS.out.mono ?_;rintro en w2 ⟨H2,us2,hs2,hH2,hk2,hcase⟩;have HK2:=ab (hK.out.2.trans hk2 (λk e=>e.elim (λe=>(hK.out.1 k e).imp .inl id) (λe=> .inl (.inr (.inr e)))));have HH2:=ab (show ∀k,aJ 12 H2 k->aJ 12 H k\/w1.heap.size<=k from λk e=>(hH2 k e).elim (hK.out.1 k) (λh=> .inr (Nat.le_trans hK.out.2.size h)));have HS2:=ab hs2;clear hs2 hH2 hk2 CS;rcases hcase with⟨y,rfl,hy,_,hw2⟩|⟨rfl,hm2,hw2⟩
      · have HY:=ab hy;have HW2:=ab hw2;clear hy hw2
        go_wp2_with fail
        have hj:=HJ.out;have hl3:=HL3.out
        go_roundw
        case rel=>exact⟨H2,4,y,ab (.full us2 y vp j HY.out (HS2.out.mono (by omega)) HW2.out),ab ⟨HH2.out,HK2.out⟩⟩
        case measure=>rw[kL HW2.out.box,HRk.out];simp only[Int.toNat_natCast];simp;omega
      · have HM2:=ab hm2;have HW2:=ab hw2;clear hm2 hw2
        go_wp2_with fail
        have hj:=HJ.out;have hl3:=HL3.out
        go_roundw
        case rel=>
         by_cases hl:j+1=(bU S.cs s.nx).length
         · have h2:=HW2.out;rw[if_pos hl]at h2;exact⟨H2,3,.nilIface,ab (.done us2 vp (j+1) (HS2.out.mono (by omega)) HM2.out.fresh h2),ab ⟨HH2.out,HK2.out⟩⟩
         · have h2:=HW2.out;rw[if_neg hl]at h2;exact⟨H2,2,.nilIface,ab (.writes us2 vp (j+1) (by omega) (HS2.out.mono (by omega)) HM2.out h2),ab ⟨HH2.out,HK2.out⟩⟩
        case measure=>rw[kL HW2.out.box,HRk.out];split<;>simp only[Int.toNat_natCast]<;>simp<;>omega
    | done us' vp j h1 hm h2=>
      obtain⟨d0,d1,d2,d3,d4,d5,d6⟩:=h2.box.rest;have HS2:=ab h1;have HM2:=ab hm;clear h1 h2 hm d2 d3 d5 d6 p0 p1 hnF
      go_wp2_with fail
      go_ret2
      refine .inr (.inr ⟨rfl,?_,H',us',λk e=>(hK.out.1 k e).imp id (λh=>Nat.le_trans HB1.out.size h),HS2.out,HM2.out,HKs.out⟩);exact(Kept.al HB1.out).trans hK.out.2 (λk e=>by
       rcases e with e|e|e
       · exact .inl (.inl e)
       · exact .inl (.inr e)
       · exact .inr (by rw[e];exact HX0.out))
    | full us' y vp j hy h1 h2=>
      obtain⟨d0,d1,d2,d3,d4,d5,d6⟩:=h2.box.rest;obtain⟨m,hm,hme,rfl⟩:∃m,m < 19/\13=m+1/\x=ai (a m):=by
       rcases hy with⟨h,_⟩|h
       · cases h
       · exact h
      have HY:=ab hy;clear h1 h2 hm hme hy d2 d3 d4 d5 d6 p0 p1 hnF
      go_wp2_with fail
      go_quiet (fail)
      go_wp2_with fail
      go_ret2
      refine .inr (.inl ⟨⟨_,rfl,HY.out⟩,?_⟩);have hkd:∀n,Kept (λk=>aJ 12 H k\/k=S.t\/k=X) w1 (wr.drewN n):=λn=>⟨hK.out.2.os,hK.out.2.tape,hK.out.2.output,hK.out.2.size,hK.out.2.block⟩
      exact((Kept.al HB1.out).trans (hkd _) (λk e=>by
       rcases e with e|e|e
       · exact .inl (.inl e)
       · exact .inl (.inr e)
       · exact .inr (by rw[e];exact HX0.out)))
end
end Go.Proofs.YtdilnodbfnlhdaaGreatDoor
namespace Go.Proofs.YtdilnodbfnlhdaaGreatDoor
open Go Go.RowKit Tide
def bT (W:World) (X:Nat) (v u:Value) (ep:Int) (vp vq:Value) (s m:Value):Prop:=W.heap[X]? =some (.cells #[v,u,.int .i64 ep,vp,.int .i64 ep,vq,s,m] 61 (0,0))
section
variable {W W':World} {X:Nat} {v u vp vq s m:Value} {ep:Int} {F:Nat->Prop}
theorem bT.cell (h:bT W X v u ep vp vq s m) {j:Nat} {y:Value} (hv:(#[v,u,.int .i64 ep,vp,.int .i64 ep,vq,s,m]:Array Value)[j]? =some y):W.cell? ⟨X,j,none⟩=some y:=by rw[cell_of_row _ _ j _ _ _ h,hv]
theorem bT.free (h:bT W X v u ep vp vq s m) (i:Nat):W.frozen? ⟨X,i,none⟩=false:=frozen_of_row _ _ i _ _ h
theorem bT.lt (h:bT W X v u ep vp vq s m):X < W.heap.size:=by
 rcases Nat.lt_or_ge X W.heap.size with hlt|hge
 · exact hlt
 · unfold bT at h;rw[Array.getElem?_eq_none hge]at h;cases h
theorem bT.kept (h:bT W X v u ep vp vq s m) (hk:Kept F W W') (hF:¬F X):bT W' X v u ep vp vq s m:=hk.heap h hF
theorem bT.below (h:bT W X v u ep vp vq s m) (hb:Below W.heap.size W W'):bT W' X v u ep vp vq s m:=(hb.block X h.lt).trans h
theorem bT.Ct (h:bT W X v u ep vp vq s m) (y:Value):bT (W.setCell ⟨X,0,none⟩ y) X y u ep vp vq s m:=heap_setCell_same _ _ _ _ _ _ h
theorem bT.Cu (h:bT W X v u ep vp vq s m) (y:Value):bT (W.setCell ⟨X,1,none⟩ y) X v y ep vp vq s m:=heap_setCell_same _ _ _ _ _ _ h
theorem bT.Cv (h:bT W X v u ep vp vq s m) (y:Value):bT (W.setCell ⟨X,6,none⟩ y) X v u ep vp vq y m:=heap_setCell_same _ _ _ _ _ _ h
theorem bT.Cw (h:bT W X v u ep vp vq s m) (y:Value):bT (W.setCell ⟨X,7,none⟩ y) X v u ep vp vq s y:=heap_setCell_same _ _ _ _ _ _ h
end
structure ig (D:az) (w W4:World) (X:Nat) (ep:Int) (vp vq:Value) (wr:World) (v u:Value) (gs:List Nat) (lr:List Value) (F:Nat->Nat->Prop):Prop where
 box:bT wr X v u ep vp vq (.pointer none) (.pointer none)
 un:∀i (hi:i < gs.length),cZ D w wr (F i) gs[i] 192 0 fE
 apart:∀i j,i < gs.length->j < gs.length->i≠j->∀k,F i k->¬F j k
 a:wr.ownsRow W4.heap.size 81 1 v gs.length (fl gs)
 r:wr.ownsRow W4.heap.size 84 1 u lr.length lr
 len:lr.length=gs.length
 lo:∀i,i < gs.length->∀k,F i k->W4.heap.size<=k
 free:∀k,v.ownBlock=some k\/u.ownBlock=some k->∀i,i < gs.length->¬F i k
 kept:Kept (λk=>k=X) W4 wr
 at_:w.heap.size<=X/\X < W4.heap.size
section
variable {D:az} {x:Nat->Addr} {w W4 wr w3 W9:World} {X:Nat} {ep:Int} {vp vq v u v' u':Value} {gs:List Nat} {lr:List Value} {F:Nat->Nat->Prop} {F':Nat->Prop} {g:Nat} {y:Value} {sm:List (Nat × Value)}
theorem ig.start (h:bT W4 X (.slice none 0 0) (.slice none 0 0) ep vp vq (.pointer none) (.pointer none)) (hX:w.heap.size<=X):ig D w W4 X ep vp vq W4 (.slice none 0 0) (.slice none 0 0) [] [] (λ_ _=>False) where
 box:=h
 un:=λi hi=>absurd hi (Nat.not_lt_zero i)
 apart:=λi _ hi=>absurd hi (Nat.not_lt_zero i)
 a:=World.ownsRow_nil _ _ _ 1
 r:=World.ownsRow_nil _ _ _ 1
 len:=rfl
 lo:=λi hi=>absurd hi (Nat.not_lt_zero i)
 free:=λ_ _ i hi=>absurd hi (Nat.not_lt_zero i)
 kept:=Kept.refl _ _
 at_:=⟨hX,h.lt⟩
theorem ig.step (hD:aC x D) (h:ig D w W4 X ep vp vq wr v u gs lr F) (h1:cZ D w w3 F' g 192 0 fE) (hF:∀j,F' j->wr.heap.size<=j) (b1:Below wr.heap.size wr w3)
 (hp:bJ w3 (λk=>v.ownBlock=some k\/u.ownBlock=some k) W4.heap.size v' u' (fl gs ++ [.pointer (some ⟨g,0,none⟩)]) (lr ++ [y]) sm W9):
 ig D w W4 X ep vp vq ((W9.setCell ⟨X,0,none⟩ v').setCell ⟨X,1,none⟩ u') v' u' (gs ++ [g]) (lr ++ [y]) (kI F gs.length F'):=by
 have z1:=b1.size;have z4:=h.kept.size;have z9:=hp.kept.size;have hR:∀k,v.ownBlock=some k\/u.ownBlock=some k->W4.heap.size<=k/\k < wr.heap.size:=λk e=>e.elim (h.a.lt k) (h.r.lt k);have kX:Kept (λk=>k=X) W9 ((W9.setCell ⟨X,0,none⟩ v').setCell ⟨X,1,none⟩ u'):=((Kept.refl (λk=>k=X) W9).setCell (p:=⟨X,0,none⟩) (.inl rfl) _).setCell (p:=⟨X,1,none⟩) (.inl rfl) _;have k3X:Kept (λk=>(v.ownBlock=some k\/u.ownBlock=some k)\/k=X) w3 ((W9.setCell ⟨X,0,none⟩ v').setCell ⟨X,1,none⟩ u'):=(hp.kept.mono (λ_ _ h=> .inl h)).trans (kX.mono (λ_ _ h=> .inr h)) (λ_ h=> .inl h);have krX:Kept (λk=>(v.ownBlock=some k\/u.ownBlock=some k)\/k=X) wr ((W9.setCell ⟨X,0,none⟩ v').setCell ⟨X,1,none⟩ u'):=(Kept.al b1).trans k3X (λ_ h=> .inl h);have hwl:w.heap.size<=X/\X < W4.heap.size:=h.at_;have hFl:∀i,i < gs.length->∀k,F i k->k < wr.heap.size:=λi hi k hk=>((h.un i hi).2 k hk).2;have hne:∀i,i < (gs ++ [g]).length->i≠gs.length->i < gs.length:=λi hi hn=>by rw[List.length_append,List.length_singleton]at hi;omega
 have hbox3:bT W9 X v u ep vp vq (.pointer none) (.pointer none):=(h.box.below b1).kept hp.kept (λe=>by have:=(hR X e).1;omega);have hlen:(fl gs ++ [Value.pointer (some ⟨g,0,none⟩)])=fl (gs ++ [g]):=by rw[AY];rfl
 have ha:=hp.a;rw[hlen,oe]at ha;refine { box:=(hbox3.Ct v').Cu u',un:=λi hi=> ?_,apart:=λi j hi hj hn k hk=> ?_,a:=kX.own ha (λk e e2=>by have:=(ha.lt k e).1;have e2:k=X:=e2;omega),r:=kX.own hp.r (λk e e2=>by have:=(hp.r.lt k e).1;have e2:k=X:=e2;omega),len:=by rw[List.length_append,List.length_append,h.len];rfl,lo:=λi hi k hk=> ?_,free:=λk e i hi=> ?_,kept:= ?_,at_:=h.at_ }
 · by_cases hn:i=gs.length
   · subst hn;rw[kJ,List.getElem_append_right (Nat.le_refl _)];simp only[Nat.sub_self,List.getElem_cons_zero];refine h1.kept hD k3X (λk e=>⟨λhf=> ?_,?_⟩)
     · have:=hF k hf;rcases e with e|e
       · have:=(hR k e).2;omega
       · omega
     · rcases e with e|e
       · have:=(hR k e).1;omega
       · omega
   · have hi':=hne i hi hn;rw[jR _ _ hn,List.getElem_append_left hi'];refine(h.un i hi').kept hD krX (λk e=>⟨λhf=> ?_,?_⟩)
     · rcases e with e|e
       · exact h.free k e i hi' hf
       · have:=h.lo i hi' k hf;omega
     · rcases e with e|e
       · have:=(hR k e).1;omega
       · omega
 · by_cases hni:i=gs.length
   · subst hni;have hj':=hne j hj (λe=>hn e.symm);rw[kJ]at hk;rw[jR _ _ (λe=>hn e.symm)];intro e;have:=hF k hk;have:=hFl j hj' k e;omega
   · have hi':=hne i hi hni;rw[jR _ _ hni]at hk;by_cases hnj:j=gs.length
     · subst hnj;rw[kJ];intro e;have:=hF k e;have:=hFl i hi' k hk;omega
     · rw[jR _ _ hnj];exact h.apart i j hi' (hne j hj hnj) hn k hk
 · by_cases hn:i=gs.length
   · subst hn;rw[kJ]at hk;have:=hF k hk;omega
   · rw[jR _ _ hn]at hk;exact h.lo i (hne i hi hn) k hk
 · by_cases hn:i=gs.length
   · subst hn;rw[kJ];intro hf;have h2:=hF k hf;have h3:=(h1.2 k hf).2;rcases hp.own k e with e|e
     · have:=(hR k e).2;omega
     · omega
   · have hi':=hne i hi hn;rw[jR _ _ hn];intro hf;rcases hp.own k e with e|e
     · exact h.free k e i hi' hf
     · have:=hFl i hi' k hf;omega
 · exact h.kept.trans krX (λk e=>by
    rcases e with e|e
    · exact .inr (hR k e).1
    · exact .inl e)
end
end Go.Proofs.YtdilnodbfnlhdaaGreatDoor
