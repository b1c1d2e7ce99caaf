import Derived.Test.YtiafamacjpgjoaaGreatDoorGCiS
set_option maxRecDepth 100000
set_option maxHeartbeats 8000000
namespace Go.Proofs.YtiafamacjpgjoaaGreatDoor
open Go Go.RowKit Tide
section
variable {D:aB} {a:Nat->Addr} {w W:World} {K:dg} {F H:Nat->Nat->Prop} {us:Nat->ah} {up:Nat->Bool} {N:Nat}
theorem xL (hD:ay (three a) D) (hE:av w a) (h:aP D w W K F H us us up N) (hN:N+20<=80000) (x:cD) (hx:x.text.length<=300) (hk:x.kind=0):
 Calls Tryz.prog 8 #[.pointer (some ⟨K.X,0,none⟩),.agg x.cells] W (gE D w K (N+20)):=by
 have HD:=ab hD;have HE:=ab hE;obtain⟨kind,ea,ek,tx⟩:=x;have hk:kind=0:=hk;subst hk;have P0:=ab (b8.start hD h ⟨0,ea,ek,tx⟩);obtain⟨Ap,cp,Ar,cr,fp,fr⟩:=h.iI;have HOk:=ab (h.ok (by omega));obtain⟨W0,hW0⟩:=aa (W.alloc (.cells (cD.cells ⟨0,ea,ek,tx⟩) 38));rw[hW0]at P0;obtain⟨⟨c0,c1,c2,c3,c4,c5,c6,c7⟩,d0,d1,d2,d3⟩:=P0.out.held;obtain⟨b,hb⟩:=aa W.heap.size;rw[hb]at P0 d0 d1 d2 d3;have HX:=ab (show tx.length<=100000 from Nat.le_trans hx (by decide));have hcv:=λw=>pU w tx;have BT:=ab (λY=>(eD Y tx HX.out).2.1);have B1:=ab (Below.refl W0.heap.size W0).drew;have H1:=ab (P0.out.below hD B1.out).dv;have HTx:=ab (λ(Y:World) (hS:Y.cell? ⟨K.X,0,none⟩=some K.vu/\Y.cell? ⟨K.X,2,none⟩=some K.vw/\Y.cell? ⟨K.X,4,none⟩=some (.int .i64 K.ep)/\Y.cell? ⟨K.X,5,none⟩=some K.vp/\Y.cell? ⟨K.X,6,none⟩=some (.int .i64 K.ep)/\Y.cell? ⟨K.X,7,none⟩=some K.vr/\Y.cell? ⟨b,1,none⟩=some (.int .i64 ea)/\Y.cell? ⟨b,2,none⟩=some (.int .i64 ek)/\Y.cell? ⟨b,3,none⟩=some (.string ⟨tx.toArray⟩))=>yU hS (BT.out Y));have T1:=ab (eD W0.drew tx HX.out);have T2:=ab (eD (aN W0.drew tx) tx HX.out);have BY2:=ab (show Below W0.heap.size W0 (aN W0.drew tx) from B1.out.trans (T1.out.2.1.mono B1.out.size));have BY3:=ab (show Below W0.heap.size W0 (aN (aN W0.drew tx) tx) from BY2.out.trans (T2.out.2.1.mono BY2.out.size));have V12:=ab T1.out.1;have V13:=ab (show Bytes (aN (aN W0.drew tx) tx) (aN (aN W0.drew tx) tx).heap.size (bP W0.drew tx) tx from(T1.out.1.below T2.out.2.1).more T2.out.2.1.size);have V23:=ab T2.out.1;have O12:=ab (show ∀j,(bP W0.drew tx).ownBlock=some j->W0.heap.size<=j/\j < (aN W0.drew tx).heap.size from λj e=>by have h1:=T1.out.2.2.1 j e;have h2:=T1.out.2.2.2;have h3:=B1.out.size;omega);have O13:=ab (show ∀j,(bP W0.drew tx).ownBlock=some j->W0.heap.size<=j/\j < (aN (aN W0.drew tx) tx).heap.size from λj e=>⟨(O12.out j e).1,Nat.lt_of_lt_of_le (O12.out j e).2 T2.out.2.1.size⟩);have O23:=ab (show ∀j,(bP (aN W0.drew tx) tx).ownBlock=some j->W0.heap.size<=j/\j < (aN (aN W0.drew tx) tx).heap.size from λj e=>by have h1:=T2.out.2.2.1 j e;have h2:=T2.out.2.2.2;have h3:=BY2.out.size;omega)
 have CL:=ab (λ(Y:World) (vb:Value) (hb:Below W0.heap.size W0 Y) (hv:Bytes Y Y.heap.size vb tx) (ho:∀j,vb.ownBlock=some j->W0.heap.size<=j/\j < Y.heap.size)=>(show Calls Tryz.prog 19 #[K.vu,cA K.ep K.vp,.int .i64 ea,.int .i64 ek,vb] Y λe w'=>∃y,e= .returned y/\bE a y (eJ up K.ep K.cs ea ek tx us).2/\(∃F',b8 D w w' K F' H (eJ up K.ep K.cs ea ek tx us).1 us up (N+3) b ⟨0,ea,ek,tx⟩)/\Kept (bX 6 F) Y w' from by have hp:=P0.out.below HD.out hb;refine(xu HD.out HE.out hp.aG.jS (by omega) K.ep ea ek vb tx hv (λj hj=>⟨λe=>by have h1:=(P0.out.aG.aX.lt j e).2;have h2:=(ho j hj).1;omega,(ho j hj).2⟩)).mono ?_;rintro e w' ⟨y,rfl,hy,hs⟩;exact⟨y,rfl,hy,hp.gO hs,by obtain⟨_,_,_,g3⟩:=hs;exact g3⟩));obtain⟨r,hr⟩:=aa (eJ up K.ep K.cs ea ek tx us);have CR:=ab (λ(Y:World) (vb:Value) (F':Nat->Nat->Prop) (hp:b8 D w Y K F' H r.1 us up (N+3) b ⟨0,ea,ek,tx⟩) (hv:Bytes Y Y.heap.size vb tx) (ho:∀j,vb.ownBlock=some j->¬a9 H j/\j < Y.heap.size)=>(show Calls Tryz.prog 20 #[K.vw,cA K.ep K.vr,.int .i64 ea,.int .i64 ek,vb] Y λe w'=>e= .returned (.int .i64 (r.2:Nat))/\∃H',b8 D w w' K F' H' r.1 r.1 up (N+3) b ⟨0,ea,ek,tx⟩from by have hc:=hp.aG.jM;rw[fr]at hc ⊢;have:=De hc K.ep ea ek vb tx (λW' hk=>dP hv hk (Nat.le_refl _) (λj e=>(ho j e).1)) ho HOk.out;rw[hr]at this;refine this.mono ?_;rintro e w' ⟨rfl,hs⟩;exact⟨rfl,hp.iP HD.out hs⟩));rw[hr]at CL;have HOC:=ab (show ∀j,W0.heap.size<=j->¬a9 H j/\¬bX 6 F j from λj hj=>⟨λe=>by have:=P0.out.aG.refs.lt j e;omega,λe=>by have:=(P0.out.aG.aX.lt j e).2;omega⟩);have HEY:=ab (λ(Y:World) (hb:Below w.heap.size w Y)=>hE.below hb);have L0:=ab P0.out.aG.low;clear hD hE h hx fp fr hr
 go_enter Tryz.func8,Tryz.ntmps8
 go_wp2_with fail
 clear c0 c1 c2 c3 c4 c5 c6 c7 d0 d1 d2 d3 hb hW0
 go_region_held (λY=>Y.cell? ⟨K.X,0,none⟩=some K.vu/\Y.cell? ⟨K.X,2,none⟩=some K.vw/\Y.cell? ⟨K.X,4,none⟩=some (.int .i64 K.ep)/\Y.cell? ⟨K.X,5,none⟩=some K.vp/\Y.cell? ⟨K.X,6,none⟩=some (.int .i64 K.ep)/\Y.cell? ⟨K.X,7,none⟩=some K.vr/\Y.cell? ⟨b,1,none⟩=some (.int .i64 ea)/\Y.cell? ⟨b,2,none⟩=some (.int .i64 ek)/\Y.cell? ⟨b,3,none⟩=some (.string ⟨tx.toArray⟩))
  (first|exact H1.out|exact H8.out|exact H9.out|exact H11.out|(refine HTx.out _ ?_;assumption))
  (first
    | (go_at_call 19;(first|(with_reducible refine(CL.out (aN W0.drew tx) (bP W0.drew tx) BY2.out V12.out O12.out).mono ?_)|(with_reducible refine(CL.out (aN (aN W0.drew tx) tx) (bP W0.drew tx) BY3.out V13.out O13.out).mono ?_)|(with_reducible refine(CL.out (aN (aN W0.drew tx) tx) (bP (aN W0.drew tx) tx) BY3.out V23.out O23.out).mono ?_));rintro en w8 ⟨y,rfl,hy,⟨F8,hU8⟩,hk8⟩;have U8:=ab hU8;have H8:=ab hU8.dv;have Z8:=ab (show W0.heap.size<=w8.heap.size by first|exact Nat.le_trans BY2.out.size hk8.size|exact Nat.le_trans BY3.out.size hk8.size);(first|(have V8a:=ab (And.intro (tk V13.out hk8 (λj e=>(HOC.out j (O13.out j e).1).2)) (λj e=>And.intro (HOC.out j (O13.out j e).1).1 (Nat.lt_of_lt_of_le (O13.out j e).2 hk8.size)));have V8b:=ab (And.intro (tk V23.out hk8 (λj e=>(HOC.out j (O23.out j e).1).2)) (λj e=>And.intro (HOC.out j (O23.out j e).1).1 (Nat.lt_of_lt_of_le (O23.out j e).2 hk8.size))))|skip);have CN:=ab (λ(Y:World) (hb:Below w8.heap.size w8 Y)=>iM a y r.2 Y ((HEY.out w8 hU8.aG.aX.since).below hb) hy);clear hU8 hk8 hy)
    | (go_at_call 14;(first|(with_reducible refine(CN.out w8 (Below.refl _ _)).mono ?_)|(with_reducible refine(CN.out (aN w8 tx) (BT.out w8)).mono ?_));rintro en w9 ⟨rfl,hb9⟩;(first|(have B89:=ab (show Below w8.heap.size w8 w9 from hb9);have U9:=ab (U8.out.below HD.out hb9);(first|(have V9a:=ab (And.intro ((V8a.out.1.below hb9).more hb9.size) (λj e=>And.intro (V8a.out.2 j e).1 (Nat.lt_of_lt_of_le (V8a.out.2 j e).2 hb9.size)));have V9b:=ab (And.intro ((V8b.out.1.below hb9).more hb9.size) (λj e=>And.intro (V8b.out.2 j e).1 (Nat.lt_of_lt_of_le (V8b.out.2 j e).2 hb9.size))))|skip))|(have B89:=ab (show Below w8.heap.size w8 w9 from(BT.out w8).trans (hb9.mono (BT.out w8).size));have U9:=ab (U8.out.below HD.out B89.out);have T8:=ab (eD w8 tx HX.out);have V9c:=ab (show Bytes w9 w9.heap.size (bP w8 tx) tx/\∀j,(bP w8 tx).ownBlock=some j->¬a9 H j/\j < w9.heap.size from And.intro ((T8.out.1.below hb9).more hb9.size) (λj e=>by have h1:=T8.out.2.2.1 j e;have h2:=T8.out.2.2.2;have h3:=hb9.size;have h4:=Z8.out;exact And.intro (HOC.out j (by omega)).1 (by omega)))));have H9:=ab U9.out.dv;clear hb9)
    | (go_at_call 20;(first|(with_reducible refine(CR.out (aN w9 tx) (bP w9 tx) F8 (U9.out.below HD.out (eD w9 tx HX.out).2.1) (eD w9 tx HX.out).1 (λj e=>by have T9:=eD w9 tx HX.out;have h1:=T9.2.2.1 j e;have h2:=T9.2.2.2;have h3:=B89.out.size;have h4:=Z8.out;exact And.intro (HOC.out j (by omega)).1 (by omega))).mono ?_)|(with_reducible refine(CR.out w9 (bP w8 tx) F8 U9.out V9c.out.1 V9c.out.2).mono ?_)|(with_reducible refine(CR.out w9 (bP W0.drew tx) F8 U9.out V9a.out.1 V9a.out.2).mono ?_)|(with_reducible refine(CR.out w9 (bP (aN W0.drew tx) tx) F8 U9.out V9b.out.1 V9b.out.2).mono ?_));rintro en w11 ⟨rfl,H11',hU11⟩;have U11:=ab hU11;have H11:=ab hU11.dv;clear hU11))
 all_goals go_wp2_with fail
 all_goals go_ret
 all_goals exact U11.out.done (by omega)
end
end Go.Proofs.YtiafamacjpgjoaaGreatDoor
namespace Go.Proofs.YtiafamacjpgjoaaGreatDoor
open Go Go.RowKit Tide
section
variable {D:aB} {a:Nat->Addr} {w W:World} {K:dg} {F H:Nat->Nat->Prop} {us:Nat->ah} {up:Nat->Bool} {N:Nat}
theorem xJ (hD:ay (three a) D) (hE:av w a) (h:aP D w W K F H us us up N) (hN:N+20<=80000) (x:cD) (hk:x.kind=2):
 Calls Tryz.prog 8 #[.pointer (some ⟨K.X,0,none⟩),.agg x.cells] W (gE D w K (N+20)):=by
 have HD:=ab hD;have HE:=ab hE;obtain⟨kind,ea,ek,tx⟩:=x;have hk:kind=2:=hk;subst hk;have P0:=ab (b8.start hD h ⟨2,ea,ek,tx⟩);obtain⟨Ap,cp,Ar,cr,fp,fr⟩:=h.iI;have HOk:=ab (h.ok (by omega));obtain⟨W0,hW0⟩:=aa (W.alloc (.cells (cD.cells ⟨2,ea,ek,tx⟩) 38));rw[hW0]at P0;obtain⟨⟨c0,c1,c2,c3,c4,c5,c6,c7⟩,d0,d1,d2,d3⟩:=P0.out.held;dsimp only at d0 d1 d2 d3;obtain⟨b,hb⟩:=aa W.heap.size;rw[hb]at P0 d0 d1 d2 d3;have B1:=ab (Below.refl W0.heap.size W0).drew;have P1:=ab (P0.out.below hD B1.out);have H1:=ab P1.out.dv;have HEY:=ab (λ(Y:World) (hb:Below w.heap.size w Y)=>hE.below hb);obtain⟨r,hr⟩:=aa (ey up K.ep K.cs ea us);have CL:=xt HD.out HE.out P1.out.aG.jS (by omega) K.ep ea;rw[hr]at CL;have CL:=ab CL;have CR:=ab (λ(Y:World) (F':Nat->Nat->Prop) (hp:b8 D w Y K F' H r.1 us up (N+3) b ⟨2,ea,ek,tx⟩)=>show Calls Tryz.prog 24 #[K.vw,cA K.ep K.vr,.int .i64 ea] Y (lQ Y K.q H r) from by have hc:=hp.aG.jM;rw[fr]at hc ⊢;have:=Db hc K.ep ea HOk.out (λb h0=>AF HOk.out h0 b _ 1);rw[hr]at this;exact this);have HOC:=ab (show ∀j,W0.heap.size<=j->¬a9 H j from λj hj e=>by have:=P0.out.aG.refs.lt j e;omega);clear hD hE h fp fr hr
 go_enter Tryz.func8,Tryz.ntmps8
 go_wp2_with fail
 clear c0 c1 c2 c3 c4 c5 c6 c7 d0 d1 d2 d3 hb hW0
 go_region_held3 (λY=>Y.cell? ⟨K.X,0,none⟩=some K.vu/\Y.cell? ⟨K.X,2,none⟩=some K.vw/\Y.cell? ⟨K.X,4,none⟩=some (.int .i64 K.ep)/\Y.cell? ⟨K.X,5,none⟩=some K.vp/\Y.cell? ⟨K.X,6,none⟩=some (.int .i64 K.ep)/\Y.cell? ⟨K.X,7,none⟩=some K.vr/\Y.cell? ⟨b,1,none⟩=some (.int .i64 ea)/\Y.cell? ⟨b,2,none⟩=some (.int .i64 ek)/\Y.cell? ⟨b,3,none⟩=some (.string ⟨tx.toArray⟩))
  (first|exact H1.out|exact H8.out)
  (first|(go_at_call 12;(with_reducible refine CL.out.mono ?_);rintro en w8 ⟨v8,x8,rfl,hv8,ho8,hx8,hs8⟩;obtain⟨F8,hU8⟩:=P1.out.gO hs8;have U8:=ab hU8;have H8:=ab hU8.dv;have V8:=ab hv8;have O8:=ab ho8;have X8:=ab hx8;clear hU8 hv8 ho8 hx8 hs8))
 rename_i hh;clear hh;obtain⟨A8,z8,rfl,_⟩:=V8.out.form;have B8:=ab (Below.refl w8.heap.size w8).drew;have P8:=ab (U8.out.below HD.out B8.out);have H9:=ab P8.out.dv;have C8:=ab (CR.out w8.drew F8 P8.out);clear CL CR H1 H8
 go_wp2_with fail
 go_region_held3 (λY=>Y.cell? ⟨K.X,0,none⟩=some K.vu/\Y.cell? ⟨K.X,2,none⟩=some K.vw/\Y.cell? ⟨K.X,4,none⟩=some (.int .i64 K.ep)/\Y.cell? ⟨K.X,5,none⟩=some K.vp/\Y.cell? ⟨K.X,6,none⟩=some (.int .i64 K.ep)/\Y.cell? ⟨K.X,7,none⟩=some K.vr/\Y.cell? ⟨b,1,none⟩=some (.int .i64 ea)/\Y.cell? ⟨b,2,none⟩=some (.int .i64 ek)/\Y.cell? ⟨b,3,none⟩=some (.string ⟨tx.toArray⟩))
  (first|exact H9.out|exact H10.out)
  (first|(go_at_call 24;(with_reducible refine C8.out.mono ?_);rintro en w9 ⟨v9,rfl,hv9,hs9⟩;obtain⟨H9',hU9⟩:=P8.out.iP HD.out hs9;have U9:=ab hU9;have H10:=ab hU9.dv;have V9:=ab hv9;have K9:=ab (show Kept (a9 H) w8.drew w9 from by obtain⟨_,_,_,g3⟩:=hs9;exact g3);clear hU9 hv9 hs9))
 rename_i hh;clear hh;obtain⟨A9,z9,rfl,_⟩:=V9.out.form;have cv8:=fT (tk (show Bytes w8.drew w8.drew.heap.size _ r.2.1 from V8.out.below B8.out) K9.out (λj e=>HOC.out j (Nat.le_trans B1.out.size (O8.out j e).1)));have cv9:=fT V9.out;have CN:=ab (iM a x8 r.2.2 w9 (HEY.out w9 U9.out.aG.aX.since) X8.out);clear C8 H9 H10
 go_wp2_with fail
 refine CN.out.mono ?_;rintro en w10 ⟨rfl,hb10⟩;have U10:=ab (U9.out.below HD.out hb10);clear hb10 CN cv8 cv9
 go_wp2_with fail
 go_ret
 exact U10.out.done (by omega)
end
end Go.Proofs.YtiafamacjpgjoaaGreatDoor
namespace Go.Proofs.YtiafamacjpgjoaaGreatDoor
open Go Go.RowKit Tide
section
variable {D:aB} {a:Nat->Addr} {w W:World} {K:dg} {F H:Nat->Nat->Prop} {us:Nat->ah} {up:Nat->Bool} {N:Nat}
theorem xI (hD:ay (three a) D) (hE:av w a) (h:aP D w W K F H us us up N) (hN:N+20<=80000) (x:cD) (hk:x.kind=3):
 Calls Tryz.prog 8 #[.pointer (some ⟨K.X,0,none⟩),.agg x.cells] W (gE D w K (N+20)):=by
 have HD:=ab hD;have HE:=ab hE;obtain⟨kind,ea,ek,tx⟩:=x;have hk:kind=3:=hk;subst hk;have P0:=ab (b8.start hD h ⟨3,ea,ek,tx⟩);obtain⟨Ap,cp,Ar,cr,fp,fr⟩:=h.iI;have HOk:=ab (h.ok (by omega));obtain⟨W0,hW0⟩:=aa (W.alloc (.cells (cD.cells ⟨3,ea,ek,tx⟩) 38));rw[hW0]at P0;obtain⟨⟨c0,c1,c2,c3,c4,c5,c6,c7⟩,d0,d1,d2,d3⟩:=P0.out.held;dsimp only at d0 d1 d2 d3;obtain⟨b,hb⟩:=aa W.heap.size;rw[hb]at P0 d0 d1 d2 d3;have B1:=ab (Below.refl W0.heap.size W0).drew;have P1:=ab (P0.out.below hD B1.out);have H1:=ab P1.out.dv;have HEY:=ab (λ(Y:World) (hb:Below w.heap.size w Y)=>hE.below hb);obtain⟨r,hr⟩:=aa (ec up K.ep K.cs ea us);have CL:=qT HD.out HE.out P1.out.aG.jS (by omega) K.ep ea;rw[hr]at CL;have CL:=ab CL;have CR:=ab (λ(Y:World) (F':Nat->Nat->Prop) (hp:b8 D w Y K F' H r.1 us up (N+4) b ⟨3,ea,ek,tx⟩)=>show Calls Tryz.prog 25 #[K.vw,cA K.ep K.vr,.int .i64 ea] Y (lQ Y K.q H r) from by have hc:=hp.aG.jM;rw[fr]at hc ⊢;have:=Cx hc K.ep ea HOk.out (λh0 _=>AG HOk.out h0 _);rw[hr]at this;exact this);have HOC:=ab (show ∀j,W0.heap.size<=j->¬a9 H j from λj hj e=>by have:=P0.out.aG.refs.lt j e;omega);clear hD hE h fp fr hr
 go_enter Tryz.func8,Tryz.ntmps8
 go_wp2_with fail
 clear c0 c1 c2 c3 c4 c5 c6 c7 d0 d1 d2 d3 hb hW0
 go_region_held3 (λY=>Y.cell? ⟨K.X,0,none⟩=some K.vu/\Y.cell? ⟨K.X,2,none⟩=some K.vw/\Y.cell? ⟨K.X,4,none⟩=some (.int .i64 K.ep)/\Y.cell? ⟨K.X,5,none⟩=some K.vp/\Y.cell? ⟨K.X,6,none⟩=some (.int .i64 K.ep)/\Y.cell? ⟨K.X,7,none⟩=some K.vr/\Y.cell? ⟨b,1,none⟩=some (.int .i64 ea)/\Y.cell? ⟨b,2,none⟩=some (.int .i64 ek)/\Y.cell? ⟨b,3,none⟩=some (.string ⟨tx.toArray⟩))
  (first|exact H1.out|exact H8.out)
  (first|(go_at_call 16;(with_reducible refine CL.out.mono ?_);rintro en w8 ⟨v8,x8,rfl,hv8,ho8,hx8,hs8⟩;obtain⟨F8,hU8⟩:=P1.out.gO hs8;have U8:=ab hU8;have H8:=ab hU8.dv;have V8:=ab hv8;have O8:=ab ho8;have X8:=ab hx8;clear hU8 hv8 ho8 hx8 hs8))
 rename_i hh;clear hh;obtain⟨A8,z8,rfl,_⟩:=V8.out.form;have B8:=ab (Below.refl w8.heap.size w8).drew;have P8:=ab (U8.out.below HD.out B8.out);have H9:=ab P8.out.dv;have C8:=ab (CR.out w8.drew F8 P8.out);clear CL CR H1 H8
 go_wp2_with fail
 go_region_held3 (λY=>Y.cell? ⟨K.X,0,none⟩=some K.vu/\Y.cell? ⟨K.X,2,none⟩=some K.vw/\Y.cell? ⟨K.X,4,none⟩=some (.int .i64 K.ep)/\Y.cell? ⟨K.X,5,none⟩=some K.vp/\Y.cell? ⟨K.X,6,none⟩=some (.int .i64 K.ep)/\Y.cell? ⟨K.X,7,none⟩=some K.vr/\Y.cell? ⟨b,1,none⟩=some (.int .i64 ea)/\Y.cell? ⟨b,2,none⟩=some (.int .i64 ek)/\Y.cell? ⟨b,3,none⟩=some (.string ⟨tx.toArray⟩))
  (first|exact H9.out|exact H10.out)
  (first|(go_at_call 25;(with_reducible refine C8.out.mono ?_);rintro en w9 ⟨v9,rfl,hv9,hs9⟩;obtain⟨H9',hU9⟩:=P8.out.iP HD.out hs9;have U9:=ab hU9;have H10:=ab hU9.dv;have V9:=ab hv9;have K9:=ab (show Kept (a9 H) w8.drew w9 from by obtain⟨_,_,_,g3⟩:=hs9;exact g3);clear hU9 hv9 hs9))
 rename_i hh;clear hh;obtain⟨A9,z9,rfl,_⟩:=V9.out.form;have cv8:=fT (tk (show Bytes w8.drew w8.drew.heap.size _ r.2.1 from V8.out.below B8.out) K9.out (λj e=>HOC.out j (Nat.le_trans B1.out.size (O8.out j e).1)));have cv9:=fT V9.out;have CN:=ab (iM a x8 r.2.2 w9 (HEY.out w9 U9.out.aG.aX.since) X8.out);clear C8 H9 H10
 go_wp2_with fail
 refine CN.out.mono ?_;rintro en w10 ⟨rfl,hb10⟩;have U10:=ab (U9.out.below HD.out hb10);clear hb10 CN cv8 cv9
 go_wp2_with fail
 go_ret
 exact U10.out.done (by omega)
end
end Go.Proofs.YtiafamacjpgjoaaGreatDoor
namespace Go.Proofs.YtiafamacjpgjoaaGreatDoor
open Go Go.RowKit Tide
section
variable {D:aB} {a:Nat->Addr} {w W:World} {K:dg} {F H:Nat->Nat->Prop} {us:Nat->ah} {up:Nat->Bool} {N:Nat}
theorem xN (hD:ay (three a) D) (hE:av w a) (h:aP D w W K F H us us up N) (hN:N+20<=80000) (x:cD) (hk:x.kind=4):
 Calls Tryz.prog 8 #[.pointer (some ⟨K.X,0,none⟩),.agg x.cells] W (gE D w K (N+20)):=by
 have HD:=ab hD;have HE:=ab hE;obtain⟨kind,ea,ek,tx⟩:=x;have hk:kind=4:=hk;subst hk;have P0:=ab (b8.start hD h ⟨4,ea,ek,tx⟩);obtain⟨Ap,cp,Ar,cr,fp,fr⟩:=h.iI;have HOk:=ab (h.ok (by omega));obtain⟨W0,hW0⟩:=aa (W.alloc (.cells (cD.cells ⟨4,ea,ek,tx⟩) 38));rw[hW0]at P0;obtain⟨⟨c0,c1,c2,c3,c4,c5,c6,c7⟩,d0,d1,d2,d3⟩:=P0.out.held;dsimp only at d0 d1 d2 d3;obtain⟨b,hb⟩:=aa W.heap.size;rw[hb]at P0 d0 d1 d2 d3;have B1:=ab (Below.refl W0.heap.size W0).drew;have P1:=ab (P0.out.below hD B1.out);have H1:=ab P1.out.dv;have HEY:=ab (λ(Y:World) (hb:Below w.heap.size w Y)=>hE.below hb);obtain⟨r,hr⟩:=aa (dS up K.ep K.cs ea us);have CL:=xw HD.out HE.out P1.out.aG.jS (by omega) K.ep ea;rw[hr]at CL;have CL:=ab CL;have CR:=ab (λ(Y:World) (F':Nat->Nat->Prop) (hp:b8 D w Y K F' H r.1 us up (N+10) b ⟨4,ea,ek,tx⟩)=>show Calls Tryz.prog 26 #[K.vw,cA K.ep K.vr,.int .i64 ea] Y (λe w'=>e= .returned (.int .i64 (r.2:Nat))/\aU Y K.q H r.1 w') from by have hc:=hp.aG.jM;rw[fr]at hc ⊢;have:=Dh hc K.ep ea (λhR _ _=>AJ HOk.out hR _);rw[hr]at this;exact this);clear hD hE h fp fr hr
 go_enter Tryz.func8,Tryz.ntmps8
 go_wp2_with fail
 clear c0 c1 c2 c3 c4 c5 c6 c7 d0 d1 d2 d3 hb hW0
 go_region_held3 (λY=>Y.cell? ⟨K.X,0,none⟩=some K.vu/\Y.cell? ⟨K.X,2,none⟩=some K.vw/\Y.cell? ⟨K.X,4,none⟩=some (.int .i64 K.ep)/\Y.cell? ⟨K.X,5,none⟩=some K.vp/\Y.cell? ⟨K.X,6,none⟩=some (.int .i64 K.ep)/\Y.cell? ⟨K.X,7,none⟩=some K.vr/\Y.cell? ⟨b,1,none⟩=some (.int .i64 ea)/\Y.cell? ⟨b,2,none⟩=some (.int .i64 ek)/\Y.cell? ⟨b,3,none⟩=some (.string ⟨tx.toArray⟩))
  (first|exact H1.out|exact H8.out|exact H9.out|exact H10.out)
  (first
    | (go_at_call 13;(with_reducible refine CL.out.mono ?_);rintro en w8 ⟨x8,rfl,hx8,hs8⟩;obtain⟨F8,hU8⟩:=P1.out.gO hs8;have U8:=ab hU8;have H8:=ab hU8.dv;have CN:=ab (iM a x8 r.2 w8 (HEY.out w8 hU8.aG.aX.since) hx8);clear hU8 hx8 hs8)
    | (go_at_call 14;(with_reducible refine CN.out.mono ?_);rintro en w9 ⟨rfl,hb9⟩;have U9:=ab (U8.out.below HD.out hb9);have H9:=ab U9.out.dv;clear hb9)
    | (go_at_call 26;(with_reducible refine(CR.out w9 F8 U9.out).mono ?_);rintro en w10 ⟨rfl,hs10⟩;obtain⟨H10',hU10⟩:=U9.out.iP HD.out hs10;have U10:=ab hU10;have H10:=ab hU10.dv;clear hU10 hs10))
 rename_i hh;clear hh;clear CL CR CN H1 H8 H9 H10
 go_wp2_with fail
 go_ret
 exact U10.out.done (by omega)
end
end Go.Proofs.YtiafamacjpgjoaaGreatDoor
namespace Go.Proofs.YtiafamacjpgjoaaGreatDoor
open Go Go.RowKit Tide
section
variable {D:aB} {a:Nat->Addr} {w W:World} {K:dg} {F H:Nat->Nat->Prop} {us:Nat->ah} {up:Nat->Bool} {N:Nat}
theorem xM (hD:ay (three a) D) (hE:av w a) (h:aP D w W K F H us us up N) (hN:N+20<=80000) (x:cD) (hk:x.kind=5):
 Calls Tryz.prog 8 #[.pointer (some ⟨K.X,0,none⟩),.agg x.cells] W (gE D w K (N+20)):=by
 have HD:=ab hD;have HE:=ab hE;obtain⟨kind,ea,ek,tx⟩:=x;have hk:kind=5:=hk;subst hk;have P0:=ab (b8.start hD h ⟨5,ea,ek,tx⟩);obtain⟨Ap,cp,Ar,cr,fp,fr⟩:=h.iI;have HOk:=ab (h.ok (by omega));obtain⟨W0,hW0⟩:=aa (W.alloc (.cells (cD.cells ⟨5,ea,ek,tx⟩) 38));rw[hW0]at P0;obtain⟨⟨c0,c1,c2,c3,c4,c5,c6,c7⟩,d0,d1,d2,d3⟩:=P0.out.held;dsimp only at d0 d1 d2 d3;obtain⟨b,hb⟩:=aa W.heap.size;rw[hb]at P0 d0 d1 d2 d3;have B1:=ab (Below.refl W0.heap.size W0).drew;have P1:=ab (P0.out.below hD B1.out);have H1:=ab P1.out.dv;have HEY:=ab (λ(Y:World) (hb:Below w.heap.size w Y)=>hE.below hb);obtain⟨r,hr⟩:=aa (eW up K.ep K.cs us);have CL:=xv HD.out HE.out P1.out.aG.jS (by omega) K.ep;rw[hr]at CL;have CL:=ab CL;have CR:=ab (λ(Y:World) (hp:b8 D w Y K F H us us up N b ⟨5,ea,ek,tx⟩)=>show Calls Tryz.prog 28 #[K.vw,cA K.ep K.vr] Y (λe w'=>e= .returned (.tuple #[.int .i64 r.1,.int .i64 (r.2:Nat)])/\Below Y.heap.size Y w') from by have hc:=hp.aG.jM;rw[fr]at hc ⊢;have:=Df hc K.ep;rw[hr]at this;exact this);clear hD hE h fp fr hr
 go_enter Tryz.func8,Tryz.ntmps8
 go_wp2_with fail
 clear c0 c1 c2 c3 c4 c5 c6 c7 d0 d1 d2 d3 hb hW0
 go_region_held3 (λY=>Y.cell? ⟨K.X,0,none⟩=some K.vu/\Y.cell? ⟨K.X,2,none⟩=some K.vw/\Y.cell? ⟨K.X,4,none⟩=some (.int .i64 K.ep)/\Y.cell? ⟨K.X,5,none⟩=some K.vp/\Y.cell? ⟨K.X,6,none⟩=some (.int .i64 K.ep)/\Y.cell? ⟨K.X,7,none⟩=some K.vr/\Y.cell? ⟨b,1,none⟩=some (.int .i64 ea)/\Y.cell? ⟨b,2,none⟩=some (.int .i64 ek)/\Y.cell? ⟨b,3,none⟩=some (.string ⟨tx.toArray⟩))
  (first|exact H1.out|exact H8.out)
  (first|(go_at_call 27;(with_reducible refine CL.out.mono ?_);rintro en w8 ⟨x8,rfl,hx8,hb8⟩;have U8:=ab (P1.out.below HD.out hb8);have H8:=ab U8.out.dv;have X8:=ab hx8;clear hx8 hb8))
 rename_i hh;clear hh;have B8:=ab (Below.refl w8.heap.size w8).drew;have P8:=ab (U8.out.below HD.out B8.out);have H9:=ab P8.out.dv;have C8:=ab (CR.out w8.drew P8.out);clear CL CR H1 H8
 go_wp2_with fail
 go_region_held3 (λY=>Y.cell? ⟨K.X,0,none⟩=some K.vu/\Y.cell? ⟨K.X,2,none⟩=some K.vw/\Y.cell? ⟨K.X,4,none⟩=some (.int .i64 K.ep)/\Y.cell? ⟨K.X,5,none⟩=some K.vp/\Y.cell? ⟨K.X,6,none⟩=some (.int .i64 K.ep)/\Y.cell? ⟨K.X,7,none⟩=some K.vr/\Y.cell? ⟨b,1,none⟩=some (.int .i64 ea)/\Y.cell? ⟨b,2,none⟩=some (.int .i64 ek)/\Y.cell? ⟨b,3,none⟩=some (.string ⟨tx.toArray⟩))
  (first|exact H9.out|exact H10.out)
  (first|(go_at_call 28;(with_reducible refine C8.out.mono ?_);rintro en w9 ⟨rfl,hb9⟩;have U9:=ab (P8.out.below HD.out hb9);have H10:=ab U9.out.dv;clear hb9))
 rename_i hh;clear hh;have CN:=ab (iM a x8 r.2 w9 (HEY.out w9 U9.out.aG.aX.since) X8.out);clear C8 H9 H10
 go_wp2_with fail
 refine CN.out.mono ?_;rintro en w10 ⟨rfl,hb10⟩;have U10:=ab (U9.out.below HD.out hb10);clear hb10 CN
 go_wp2_with fail
 go_ret
 exact U10.out.done (by omega)
end
end Go.Proofs.YtiafamacjpgjoaaGreatDoor
namespace Go.Proofs.YtiafamacjpgjoaaGreatDoor
open Go Go.RowKit Tide
theorem ow (x:Int) (n:Nat) (h0:0 < n) (h1:n<=1000):∃i:Nat,i < n/\wrap64 ((IntKind.u64.wrap x).tmod (n:Int))=(i:Int):=by
 have hx:0<=IntKind.u64.wrap x:=by simp[IntKind.wrap,IntKind.signed,IntKind.bits];omega
 obtain⟨y,hy⟩:∃y:Nat,IntKind.u64.wrap x=(y:Int):=⟨(IntKind.u64.wrap x).toNat,by omega⟩;refine⟨y % n,Nat.mod_lt _ h0,?_⟩;rw[hy,Int.tmod_eq_emod_of_nonneg (by omega)];have h2:((y:Int) % (n:Int))=((y % n:Nat):Int):=by push_cast;rfl
 have h3:=Nat.mod_lt y h0;rw[h2];unfold wrap64;omega
section
variable {D:aB} {a:Nat->Addr} {w W:World} {K:dg} {F H:Nat->Nat->Prop} {us:Nat->ah} {up:Nat->Bool} {N:Nat}
theorem xK (hD:ay (three a) D) (hE:av w a) (h:aP D w W K F H us us up N) (hN:N+20<=80000) (x:cD) (hk:x.kind=6):
 Calls Tryz.prog 8 #[.pointer (some ⟨K.X,0,none⟩),.agg x.cells] W (gE D w K (N+20)):=by
 have HD:=ab hD;have HE:=ab hE;obtain⟨kind,ea,ek,tx⟩:=x;have hk:kind=6:=hk;subst hk;have P0:=ab (b8.start hD h ⟨6,ea,ek,tx⟩);obtain⟨Ap,cp,Ar,cr,fp,fr⟩:=h.iI;have HOk:=ab (h.ok (by omega));obtain⟨W0,hW0⟩:=aa (W.alloc (.cells (cD.cells ⟨6,ea,ek,tx⟩) 38));rw[hW0]at P0;obtain⟨⟨c0,c1,c2,c3,c4,c5,c6,c7⟩,d0,d1,d2,d3⟩:=P0.out.held;dsimp only at d0 d1 d2 d3;obtain⟨b,hb⟩:=aa W.heap.size;rw[hb]at P0 d0 d1 d2 d3;have B1:=ab (Below.refl W0.heap.size W0).drew;have P1:=ab (P0.out.below hD B1.out);have H1:=ab P1.out.dv;have HEY:=ab (λ(Y:World) (hb:Below w.heap.size w Y)=>hE.below hb);obtain⟨i,hi,hki⟩:=ow ek 6 (by decide) (by decide);have hki:wrap64 ((IntKind.u64.wrap ek).tmod 6)=(i:Int):=hki;have i0:(0:Int)<=(i:Int):=by omega
 have i6:(i:Int) < 6:=by omega
 have HI:=ab hi
 have HA:=ab (λ(Y:World) (F1 H1:Nat->Nat->Prop) (us1 vs1:Nat->ah) (M:Nat) (hp:b8 D w Y K F1 H1 us1 vs1 up M b ⟨6,ea,ek,tx⟩)=>(show Y.cell? ⟨K.X,1,none⟩=some K.va/\Y.cell? ⟨K.X,3,none⟩=some K.vo/\Y.cell? ⟨K.ba,i,none⟩=some (.pointer (some ⟨K.g i,0,none⟩))/\Y.cell? ⟨K.bo,i,none⟩=some (.pointer (some ⟨K.q i,0,none⟩))/\Y.cell? ⟨b,1,none⟩=some (.int .i64 ea) from
  ⟨hp.aG.facts.2.1,hp.aG.facts.2.2.2.1,hp.aG.qD hi,hp.aG.qE hi,(j5 hp.box).2.1⟩))
 have HA1:=ab (HA.out _ _ _ _ _ _ P1.out);have CL:=(P1.out.aG.aX.un i hi).seal HD.out HE.out (by decide) (by omega) ea;have hokI:=h.AD (by omega) hi;obtain⟨r,hr⟩:=aa (cB (us i) ea);have CR:=ab (λ(Y:World) (us1:Nat->ah) (F':Nat->Nat->Prop) (hp:b8 D w Y K F' H us1 us up (N+1) b ⟨6,ea,ek,tx⟩)=>show Calls Tryz.prog 30 #[.pointer (some ⟨K.q i,0,none⟩),.int .i64 ea] Y (λe w'=>e= .returned (.tuple #[.int .i64 r.2.1,.int .i64 (r.2.2:Nat)])/\aU Y K.q H (bZ us i r.1) w') from by have:=(hp.aG.refs.un i hi).seal hokI ea;rw[hr]at this;refine this.mono ?_;rintro e w' ⟨he,hs⟩;exact⟨he,hp.aG.refs.step hi hs⟩);rw[hr]at CL;have CL:=ab CL;clear hD hE h fp fr hr hi hokI
 go_enter Tryz.func8,Tryz.ntmps8
 go_wp2_with fail
 clear c0 c1 c2 c3 c4 c5 c6 c7 d0 d1 d2 d3 hb hW0
 go_region_held3 (λY=>Y.cell? ⟨K.X,1,none⟩=some K.va/\Y.cell? ⟨K.X,3,none⟩=some K.vo/\Y.cell? ⟨K.ba,i,none⟩=some (.pointer (some ⟨K.g i,0,none⟩))/\Y.cell? ⟨K.bo,i,none⟩=some (.pointer (some ⟨K.q i,0,none⟩))/\Y.cell? ⟨b,1,none⟩=some (.int .i64 ea))
  (first|exact HA1.out|exact HA8.out)
  (first|(go_at_call 29;(with_reducible refine CL.out.mono ?_);rintro en w8 ⟨x8,rfl,hx8,hs8⟩;obtain⟨F8,hU8⟩:=P1.out.gO (P1.out.aG.aX.step HD.out HI.out hs8);have U8:=ab hU8;have HA8:=ab (HA.out _ _ _ _ _ _ hU8);have X8:=ab hx8;clear hU8 hx8 hs8))
 rename_i hh;clear hh;have B8:=ab (Below.refl w8.heap.size w8).drew;have P8:=ab (U8.out.below HD.out B8.out);have HA9:=ab (HA.out _ _ _ _ _ _ P8.out);have C8:=ab (CR.out w8.drew _ F8 P8.out);clear CL CR HA1 HA8
 go_wp2_with fail
 go_region_held3 (λY=>Y.cell? ⟨K.X,1,none⟩=some K.va/\Y.cell? ⟨K.X,3,none⟩=some K.vo/\Y.cell? ⟨K.ba,i,none⟩=some (.pointer (some ⟨K.g i,0,none⟩))/\Y.cell? ⟨K.bo,i,none⟩=some (.pointer (some ⟨K.q i,0,none⟩))/\Y.cell? ⟨b,1,none⟩=some (.int .i64 ea))
  (first|exact HA9.out|exact HA10.out)
  (first|(go_at_call 30;(with_reducible refine C8.out.mono ?_);rintro en w9 ⟨rfl,hs9⟩;obtain⟨H9',hU9⟩:=P8.out.iP HD.out hs9;have U9:=ab hU9;have HA10:=ab (HA.out _ _ _ _ _ _ hU9);clear hU9 hs9))
 rename_i hh;clear hh;have CN:=ab (iM a x8 r.2.2 w9 (HEY.out w9 U9.out.aG.aX.since) X8.out);clear C8 HA9 HA10
 go_wp2_with fail
 refine CN.out.mono ?_;rintro en w10 ⟨rfl,hb10⟩;have U10:=ab (U9.out.below HD.out hb10);clear hb10 CN
 go_wp2_with fail
 go_ret
 exact U10.out.done (by omega)
end
end Go.Proofs.YtiafamacjpgjoaaGreatDoor
namespace Go.Proofs.YtiafamacjpgjoaaGreatDoor
open Go Go.RowKit Tide
section
variable {D:aB} {a:Nat->Addr} {w W:World} {K:dg} {F H:Nat->Nat->Prop} {us:Nat->ah} {up:Nat->Bool} {N:Nat}
theorem xH (hD:ay (three a) D) (hE:av w a) (h:aP D w W K F H us us up N) (hN:N+20<=80000) (x:cD) (hk:x.kind=7):
 Calls Tryz.prog 8 #[.pointer (some ⟨K.X,0,none⟩),.agg x.cells] W (gE D w K (N+20)):=by
 have HD:=ab hD;have HE:=ab hE;obtain⟨kind,ea,ek,tx⟩:=x;have hk:kind=7:=hk;subst hk;have P0:=ab (b8.start hD h ⟨7,ea,ek,tx⟩);obtain⟨Ap,cp,Ar,cr,fp,fr⟩:=h.iI;have HOk:=ab (h.ok (by omega));obtain⟨W0,hW0⟩:=aa (W.alloc (.cells (cD.cells ⟨7,ea,ek,tx⟩) 38));rw[hW0]at P0;obtain⟨⟨c0,c1,c2,c3,c4,c5,c6,c7⟩,d0,d1,d2,d3⟩:=P0.out.held;dsimp only at d0 d1 d2 d3;obtain⟨b,hb⟩:=aa W.heap.size;rw[hb]at P0 d0 d1 d2 d3;have B1:=ab (Below.refl W0.heap.size W0).drew;have P1:=ab (P0.out.below hD B1.out);have H1:=ab P1.out.dv;have HEY:=ab (λ(Y:World) (hb:Below w.heap.size w Y)=>hE.below hb);obtain⟨i,hi,hki⟩:=ow ek 6 (by decide) (by decide);have hki:wrap64 ((IntKind.u64.wrap ek).tmod 6)=(i:Int):=hki;have i0:(0:Int)<=(i:Int):=by omega
 have i6:(i:Int) < 6:=by omega
 obtain⟨u0,u1⟩:=P0.out.aG.qR hi;obtain⟨f0,f1⟩:=P0.out.aG.rW i;obtain⟨_,n2,_,_,_,n6,_,n8,_⟩:=P0.out.aG.ne;have HSet:=ab (P0.out.aG.set hD i false (λj=>if j=i then false else up j) rfl);have e1:cj (λj=>if j=i then false else up j) K.g i= .pointer none:=by unfold cj;rw[if_neg (by simp)]
 have e2:cj (λj=>if j=i then false else up j) K.q i= .pointer none:=by unfold cj;rw[if_neg (by simp)]
 rw[e1,e2]at HSet;have HN:=ab (show N<=N+20 by omega);clear hD hE h fp fr e1 e2 P1 H1 HEY HOk hi
 go_enter Tryz.func8,Tryz.ntmps8
 go_wp2_with fail
 clear c1 c3 c4 c5 c6 c7 d0 d1 d2 d3 hb hW0
 go_region_law (fail)
 all_goals go_wp2_with fail
 all_goals go_ret
 all_goals exact⟨rfl,us,_,F,H,(HSet.out.below HD.out (Below.refl _ _).drew).mono HN.out⟩
end
end Go.Proofs.YtiafamacjpgjoaaGreatDoor
namespace Go.Proofs.YtiafamacjpgjoaaGreatDoor
open Go Go.RowKit Tide
section
variable {D:aB} {a:Nat->Addr} {w W:World} {K:dg} {F H:Nat->Nat->Prop} {us:Nat->ah} {up:Nat->Bool} {N:Nat}
theorem xO (hD:ay (three a) D) (hE:av w a) (h:aP D w W K F H us us up N) (hN:N+20<=80000) (x:cD) (hk:∀j:Int,0<=j->j<=7->x.kind≠j):
 Calls Tryz.prog 8 #[.pointer (some ⟨K.X,0,none⟩),.agg x.cells] W (gE D w K (N+20)):=by
 have HD:=ab hD;have HE:=ab hE;obtain⟨kind,ea,ek,tx⟩:=x;have hk:∀j:Int,0<=j->j<=7->kind≠j:=hk;have k0:(kind == 0)=false:=beq_eq_false_iff_ne.2 (hk 0 (by decide) (by decide));have k1:(kind == 1)=false:=beq_eq_false_iff_ne.2 (hk 1 (by decide) (by decide));have k2:(kind == 2)=false:=beq_eq_false_iff_ne.2 (hk 2 (by decide) (by decide));have k3:(kind == 3)=false:=beq_eq_false_iff_ne.2 (hk 3 (by decide) (by decide));have k4:(kind == 4)=false:=beq_eq_false_iff_ne.2 (hk 4 (by decide) (by decide));have k5:(kind == 5)=false:=beq_eq_false_iff_ne.2 (hk 5 (by decide) (by decide));have k6:(kind == 6)=false:=beq_eq_false_iff_ne.2 (hk 6 (by decide) (by decide));have k7:(kind == 7)=false:=beq_eq_false_iff_ne.2 (hk 7 (by decide) (by decide));clear hk;have P0:=ab (b8.start hD h ⟨kind,ea,ek,tx⟩);obtain⟨Ap,cp,Ar,cr,fp,fr⟩:=h.iI;have HOk:=ab (h.ok (by omega));obtain⟨W0,hW0⟩:=aa (W.alloc (.cells (cD.cells ⟨kind,ea,ek,tx⟩) 38));rw[hW0]at P0;obtain⟨⟨c0,c1,c2,c3,c4,c5,c6,c7⟩,d0,d1,d2,d3⟩:=P0.out.held;dsimp only at d0 d1 d2 d3;obtain⟨b,hb⟩:=aa W.heap.size;rw[hb]at P0 d0 d1 d2 d3;have B1:=ab (Below.refl W0.heap.size W0).drew;have P1:=ab (P0.out.below hD B1.out);have H1:=ab P1.out.dv;have HEY:=ab (λ(Y:World) (hb:Below w.heap.size w Y)=>hE.below hb);obtain⟨i,hi,hki⟩:=ow ek 6 (by decide) (by decide);have hki:wrap64 ((IntKind.u64.wrap ek).tmod 6)=(i:Int):=hki;have i0:(0:Int)<=(i:Int):=by omega
 have i6:(i:Int) < 6:=by omega
 obtain⟨u0,u1⟩:=P0.out.aG.qR hi;obtain⟨f0,f1⟩:=P0.out.aG.rW i;obtain⟨n1,n2,n3,n4,n5,n6,n7,n8,n9⟩:=P0.out.aG.ne;have HSet:=ab (P0.out.aG.set hD i true (λj=>if j=i then true else up j) rfl);have e1:cj (λj=>if j=i then true else up j) K.g i= .pointer (some ⟨K.g i,0,none⟩):=by unfold cj;rw[if_pos (by simp)]
 have e2:cj (λj=>if j=i then true else up j) K.q i= .pointer (some ⟨K.q i,0,none⟩):=by unfold cj;rw[if_pos (by simp)]
 rw[e1,e2]at HSet;have HN:=ab (show N<=N+20 by omega);have a0:=P0.out.aG.qD hi;have a1:=P0.out.aG.qE hi;have hS0:(λY=>Y.cell? ⟨K.X,0,none⟩=some K.vu/\Y.cell? ⟨K.X,1,none⟩=some K.va/\Y.cell? ⟨K.X,2,none⟩=some K.vw/\Y.cell? ⟨K.X,3,none⟩=some K.vo/\Y.cell? ⟨K.ba,i,none⟩=some (.pointer (some ⟨K.g i,0,none⟩))/\Y.cell? ⟨K.bo,i,none⟩=some (.pointer (some ⟨K.q i,0,none⟩))) W0:=⟨c0,c1,c2,c3,a0,a1⟩;have HSt:=ab (λ(Y:World) (k:Nat) (v:Value) (hS:(λY=>Y.cell? ⟨K.X,0,none⟩=some K.vu/\Y.cell? ⟨K.X,1,none⟩=some K.va/\Y.cell? ⟨K.X,2,none⟩=some K.vw/\Y.cell? ⟨K.X,3,none⟩=some K.vo/\Y.cell? ⟨K.ba,i,none⟩=some (.pointer (some ⟨K.g i,0,none⟩))/\Y.cell? ⟨K.bo,i,none⟩=some (.pointer (some ⟨K.q i,0,none⟩))) Y) (hk:k≠K.X/\k≠K.ba/\k≠K.bo)=>(show(λY=>Y.cell? ⟨K.X,0,none⟩=some K.vu/\Y.cell? ⟨K.X,1,none⟩=some K.va/\Y.cell? ⟨K.X,2,none⟩=some K.vw/\Y.cell? ⟨K.X,3,none⟩=some K.vo/\Y.cell? ⟨K.ba,i,none⟩=some (.pointer (some ⟨K.g i,0,none⟩))/\Y.cell? ⟨K.bo,i,none⟩=some (.pointer (some ⟨K.q i,0,none⟩))) (Y.setCell ⟨k,i,none⟩ v) from by have hkp:Kept (λj=>j=k) Y (Y.setCell ⟨k,i,none⟩ v):=(Kept.refl (λj=>j=k) Y).setCell (p:=⟨k,i,none⟩) (.inl rfl) v;have kk:∀ {p:Addr} {x:Value},Y.cell? p=some x->p.block≠k->(Y.setCell ⟨k,i,none⟩ v).cell? p=some x:=λ{p x} h hne=>(hkp.cell (p:=p) (World.block_lt_of_cell? _ _ h) hne).trans h;exact⟨kk hS.1 (λe=>hk.1 e.symm),kk hS.2.1 (λe=>hk.1 e.symm),kk hS.2.2.1 (λe=>hk.1 e.symm),kk hS.2.2.2.1 (λe=>hk.1 e.symm),kk hS.2.2.2.2.1 (λe=>hk.2.1 e.symm),kk hS.2.2.2.2.2 (λe=>hk.2.2 e.symm)⟩));have HS0:=ab (show(λY=>Y.cell? ⟨K.X,0,none⟩=some K.vu/\Y.cell? ⟨K.X,1,none⟩=some K.va/\Y.cell? ⟨K.X,2,none⟩=some K.vw/\Y.cell? ⟨K.X,3,none⟩=some K.vo/\Y.cell? ⟨K.ba,i,none⟩=some (.pointer (some ⟨K.g i,0,none⟩))/\Y.cell? ⟨K.bo,i,none⟩=some (.pointer (some ⟨K.q i,0,none⟩))) W0.drew from hS0);have HS1:=ab (HSt.out W0.drew K.bu (.pointer (some ⟨K.g i,0,none⟩)) HS0.out ⟨λe=>n6 e.symm,n1,n3⟩);have HS2:=ab (HSt.out _ K.bw (.pointer (some ⟨K.q i,0,none⟩)) HS1.out ⟨λe=>n8 e.symm,λe=>n4 e.symm,n5⟩);clear hD hE h fp fr e1 e2 P1 H1 HEY HOk hi hS0 HSt
 go_enter Tryz.func8,Tryz.ntmps8
 go_wp2_with fail
 clear d0 d1 d2 d3 hb hW0 c4 c5 c6 c7
 go_region_held3 (λY=>Y.cell? ⟨K.X,0,none⟩=some K.vu/\Y.cell? ⟨K.X,1,none⟩=some K.va/\Y.cell? ⟨K.X,2,none⟩=some K.vw/\Y.cell? ⟨K.X,3,none⟩=some K.vo/\Y.cell? ⟨K.ba,i,none⟩=some (.pointer (some ⟨K.g i,0,none⟩))/\Y.cell? ⟨K.bo,i,none⟩=some (.pointer (some ⟨K.q i,0,none⟩)))
  (first|exact HS0.out|exact HS1.out|exact HS2.out)
  (fail)
 all_goals go_wp2_with fail
 all_goals go_ret
 all_goals exact⟨rfl,us,_,F,H,(HSet.out.below HD.out (Below.refl _ _).drew).mono HN.out⟩
end
end Go.Proofs.YtiafamacjpgjoaaGreatDoor
