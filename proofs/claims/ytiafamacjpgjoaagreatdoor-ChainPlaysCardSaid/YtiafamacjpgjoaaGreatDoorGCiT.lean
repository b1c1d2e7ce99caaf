import Derived.Test.YtiafamacjpgjoaaGreatDoorGUlR
import Derived.Test.YtiafamacjpgjoaaGreatDoorGPush
import Derived.Test.YtiafamacjpgjoaaGreatDoorGUiG
set_option maxRecDepth 100000
set_option maxHeartbeats 2000000
namespace Go.Proofs.YtiafamacjpgjoaaGreatDoor
open Go Go.RowKit Tide
theorem Cb {u:ah} {ep a:Int} (h:(bt u ep a).2≠0):(bt u ep a).1= []:=by
 unfold bt at h ⊢;split
 · rfl
 split
 · rfl
 rename_i h1 h2;rw[if_neg h1,if_neg h2]at h;cases hf:u.rows.find? λp=>(p.af:Int) == a with
 | none=>rfl
 | some p=>rw[hf]at h;exact absurd rfl h
theorem Cg {up:Nat->Bool} {ep at':Int} {us:Nat->ah} {l:List Int} {m:Nat} (hm:l.length=m+1) {n0 nl:Int} (h0:l.headD 0=n0) (hl:l.getLastD 0=nl) (h1:m=0->n0=nl):
 kD up ep at' us l=if(dc up ep at' us nl).2≠10 then(us,dc up ep at' us nl) else if(dc up ep at' us n0).2≠0 then(us, [],(dc up ep at' us n0).2)
  else if(a8 up ep at' (dc up ep at' us n0).1 us 1 (l.drop 1)).2≠0 then((a8 up ep at' (dc up ep at' us n0).1 us 1 (l.drop 1)).1, [],(a8 up ep at' (dc up ep at' us n0).1 us 1 (l.drop 1)).2)
  else((a8 up ep at' (dc up ep at' us n0).1 us 1 (l.drop 1)).1,(dc up ep at' us n0).1,0):=by
 unfold kD;rw[h0,hl,hm];cases hu:aL up nl with
 | false=>
   have:dc up ep at' us nl=([],12):=by unfold dc;rw[if_pos hu]
   rw[if_pos rfl,this,if_pos (by decide)]
 | true=>
   have hS:dc up ep at' us nl=bt (us nl.toNat) ep at':=by unfold dc;rw[if_neg (by rw[hu];decide)]
   rw[if_neg (by decide),hS];by_cases h10:(bt (us nl.toNat) ep at').2≠10
   · rw[if_pos (.inl h10),if_pos h10]
   · rw[if_neg h10];by_cases hz:m=0
     · have e:=h1 hz;subst e;rw[if_pos (.inr (by omega)),hS,if_pos (by omega)];have h9:(bt (us n0.toNat) ep at').2≠0:=by omega
       have:=Cb h9;rw[<-this]
     · rw[if_neg (by rintro(h|h);exact h10 h;omega)];cases hu0:aL up n0 with
       | false=>
         have:dc up ep at' us n0=([],12):=by unfold dc;rw[if_pos hu0]
         rw[if_pos rfl,this,if_pos (by decide)]
       | true=>
         have hS0:dc up ep at' us n0=bt (us n0.toNat) ep at':=by unfold dc;rw[if_neg (by rw[hu0];decide)]
         rw[if_neg (by decide),hS0]
section
variable {D:aB} {a x:Nat->Addr} {w W W':World} {lo:Nat->Prop} {m N M:Nat} {g:Nat->Nat} {H:Nat->Nat->Prop} {us us':Nat->ah} {up:Nat->Bool} {v vp:Value} {cs:List (List Int)}
def ReadW (a:Nat->Addr) (D:aB) (w W:World) (g:Nat->Nat) (H:Nat->Nat->Prop) (m N:Nat) (r:(Nat->ah) × List UInt8 × Nat) (e:Ending) (w':World):Prop:=
 ∃vb x,e= .returned (.tuple #[vb,x])/\Bytes w' w'.heap.size vb r.2.1/\(∀j,vb.ownBlock=some j->W.heap.size<=j/\j < w'.heap.size)/\bE a x r.2.2/\aH D w W g H m 128 N r.1 w'
theorem xt (hD:ay (three a) D) (hE:av w a) (h:cZ D w W lo g H m us up v vp cs N) (hN:N+3<=90000) (ep q:Int):
 Calls Tryz.prog 12 #[v,cA ep vp,.int .i64 q] W (ReadW a D w W g H m (N+3) (ey up ep cs q us)):=by
 obtain⟨A,c,rfl,hcl⟩:=h.bQ.form;obtain⟨b0,o0,c0,rfl,_,hrow6⟩:=fD h.dx.1 (h.rows W (Kept.refl _ _));clear hrow6 hcl;obtain⟨W0,hW0⟩:=aa (W.alloc (.cells #[.int .i64 ep,.slice A cs.length c] 24));have B0:=ab (show Below W.heap.size W W0 from by rw[<-hW0];exact(Below.refl W.heap.size W).alloc (Nat.le_refl _) _);have P0:=ab (show aI W0 W.heap.size 24 (.int .i64 ep) (.slice A cs.length c) from by rw[<-hW0];exact aI.new W _ _ _);have HD:=ab hD;have HE:=ab hE;have HC:=ab (h.below hD B0.out);have HHl:=ab h.aX.lt;have CP:=ab (lZ hD hE HC.out ep q);obtain⟨_,p0,p1,_⟩:=P0.out.facts;have HS0:=ab (λ(W1:World) (hb:Below W0.heap.size W0 W1)=>show aH D w W g H m 128 (N+3) us W1 from aH.after B0.out ((aH.refl HD.out HC.out.aX hb).mono (show N<=N+3 by omega)));have HE2:=ab (λ(W1:World) (hb:Below W0.heap.size W0 W1)=>(HC.out.below HD.out hb).eR HE.out);clear h hD hE;by_cases he:bA ep cs q=0
 · have hlen:=jL he;obtain⟨l,hl⟩:=aa (bx cs q);obtain⟨at',hat⟩:∃z,q / (cs.length:Int)=z:=⟨_,rfl⟩;have hx0:ey up ep cs q us=kD up ep at' us l:=by unfold ey;rw[if_neg (by rw[he];decide),hl,hat]
   rw[hl]at hlen;have HE0:=ab he;have HRow:=ab (λ(W1:World) (vc:Value) (hc:aS W1 lo vc (az (bx cs q)))=>show aS W1 lo vc (az l) from hl ▸ hc);have HAt:=ab hat;obtain⟨k,hk⟩:∃k,l.length=k+1:=⟨l.length - 1,by omega⟩;have hkl:k < l.length:=by omega
   have h0l:0 < l.length:=by omega
   have hhead:l.headD 0=l[0]:=by rw[List.headD_eq_head?_getD,List.head?_eq_getElem?,List.getElem?_eq_getElem (by omega)];rfl
   have hlast:=sF l k hk;rw[Cg hk hhead hlast (by intro e;subst e;rfl)]at hx0;have CS:=ab (λ(W1:World) (vc:Value) (hb:Below W0.heap.size W0 W1) (hc:aS W1 lo vc (az l))=>na HD.out HE.out (HC.out.below HD.out hb) ep at' l vc hc k hkl);have CS0:=ab (λ(W1:World) (vc:Value) (hb:Below W0.heap.size W0 W1) (hc:aS W1 lo vc (az l))=>na HD.out HE.out (HC.out.below HD.out hb) ep at' l vc hc 0 h0l);have CF:=ab (λ(W1:World) (vc vb:Value) (b:List UInt8) (hb:Below W0.heap.size W0 W1) (hc:aS W1 lo vc (az l)) (hvb:Bytes W1 W1.heap.size vb b) (hap:∀j,vb.ownBlock=some j->W.heap.size<=j/\j < W1.heap.size)=>rL HD.out HE.out (HC.out.below HD.out hb) ep at' l (by omega) vc hc (by omega) vb b hvb (λj hj=>⟨λe=>by have h1:=(HHl.out j e).2;have h2:=(hap j hj).1;omega,(hap j hj).2⟩));obtain⟨S1,hS1⟩:=aa (dc up ep at' us l[k]);obtain⟨S0,hS0⟩:=aa (dc up ep at' us l[0]);rw[hS1]at CS hx0;rw[hS0]at CS0 hx0;obtain⟨R,hR⟩:=aa (ey up ep cs q us);rw[hR]at hx0 ⊢;have HX:=ab hx0;have HK:=ab hk;have HL:=ab hlen;have i3:(k:Int)<=2:=by omega
   have i0:(0:Int)<=(k:Int):=by omega
   clear he hlen hl hat hx0 hhead hlast hS1 hS0 hR hk hkl h0l
   go_enter Tryz.func12,Tryz.ntmps12
   go_wp2_with fail
   refine CP.out.mono ?_;rintro e w1 ⟨y,rfl,hy,hb⟩;rcases hy with⟨hne,_⟩|⟨_,vc,rfl,hrow⟩
   · exact absurd HE0.out hne
   have hrow:=HRow.out _ _ hrow;rw[HAt.out];obtain⟨_,A1,c1,rfl,_⟩:=cF hrow.1;obtain⟨W1,hW1⟩:=aa (w1.alloc (.cells #[.slice (some ⟨b0,o0,none⟩) m c0,.int .i64 ep,.slice A1 l.length c1,.int .i64 at'] 79));have B1:=ab (show Below W0.heap.size W0 W1 from by rw[<-hW1];exact hb.alloc hb.size _);have T1:=ab (show bY W1 w1.heap.size (.slice (some ⟨b0,o0,none⟩) m c0) ep (.slice A1 l.length c1) at' from by rw[<-hW1];exact bY.new w1 _ _ _ _);have HRo:=ab (show aS W1 lo (.slice A1 l.length c1) (az l) from by rw[<-hW1];exact aS.below hrow ((Below.refl w1.heap.size w1).alloc (Nat.le_refl _) _));have C1:=ab (CS.out W1 _ B1.out HRo.out);obtain⟨s0,s1,s2,s3⟩:=T1.out.facts;rw[HK.out]at HRo T1 hW1 C1 s2 ⊢;have ik:((k+1:Nat):Int) - 1=(k:Int):=by push_cast;omega
   have ik2:((k:Int)+1) - 1=(k:Int):=by omega
   clear hb hrow CP HRow CS
   go_wp2_with fail
   refine C1.out.mono ?_;rintro e w2 ⟨v2,x2,rfl,hv2,ho2,hx2,hb2⟩;obtain⟨A2,c2,rfl,_⟩:=hv2.form;have B2:=ab (B1.out.trans (hb2.mono B1.out.size));have HX2:=ab hx2;have HO2:=ab (show ∀j,(Value.slice A2 S1.1.length c2).ownBlock=some j->W.heap.size<=j/\j < w2.heap.size from λj hj=>⟨Nat.le_trans (B0.out.trans (B1.out.mono B0.out.size)).size (ho2 j hj).1,(ho2 j hj).2⟩);have HV2:=ab hv2;have CI:=ab (ot a x2 S1.2 9 w2 (HE2.out w2 B2.out) hx2 (by decide));have e10:w2.cell? ⟨0,0,none⟩=some (ao (a 9)):=(HE2.out w2 B2.out).var 9 (by decide);have T2:=ab (T1.out.below hb2);have HRo2:=ab (aS.below HRo.out hb2);have C2:=ab (CS0.out w2 _ B2.out HRo2.out);clear hv2 ho2 hx2 hb2 C1 CS0 s0 s1 s2 s3 hW1;obtain⟨s0,s1,s2,s3⟩:=T2.out.facts;cases q10:(S1.2 == 9+1) with
   | false=>
     have hne:S1.2≠10:=by simpa using q10
     have hR:=HX.out;rw[if_pos hne]at hR;have HR:=ab hR;rw[q10]at CI;clear hR hne q10 C2
     go_wp2_with fail
     refine CI.out.mono ?_;rintro e w3 ⟨rfl,rfl⟩;clear CI
     go_wp2_with fail
     go_ret2
     exact⟨_,_,rfl,by rw[HR.out];exact HV2.out,HO2.out,by rw[HR.out];exact HX2.out,by rw[HR.out];exact HS0.out _ B2.out⟩
   | true=>
     have hne:S1.2=10:=by simpa using q10
     have hR:=HX.out;rw[if_neg (by rw[hne];decide)]at hR;have HX:=ab hR;rw[q10]at CI;clear hR hne q10
     go_wp2_with fail
     refine CI.out.mono ?_;rintro e w3 ⟨rfl,rfl⟩;clear CI e10
     go_wp2_with fail
     refine C2.out.mono ?_;rintro e w3 ⟨v3,x3,rfl,hv3,ho3,hx3,hb3⟩;obtain⟨A3,c3,rfl,_⟩:=hv3.form;have B3:=ab (B2.out.trans (hb3.mono B2.out.size));have T3:=ab (T2.out.below hb3);have HX3:=ab hx3;have HV3:=ab hv3;have HO3:=ab (show ∀j,(Value.slice A3 S0.1.length c3).ownBlock=some j->W.heap.size<=j/\j < w3.heap.size from λj hj=>⟨Nat.le_trans (B0.out.trans (B2.out.mono B0.out.size)).size (ho3 j hj).1,(ho3 j hj).2⟩);have HRo3:=ab (aS.below HRo2.out hb3);clear hv3 ho3 hx3 hb3 C2 s0 s1 s2 s3;obtain⟨s0,s1,s2,s3⟩:=T3.out.facts;by_cases h0:S0.2=0
     · have hR:=HX.out;rw[if_neg (by rw[h0];decide)]at hR;have hx3:=HX3.out;rw[h0]at hx3;obtain rfl:=gN hx3 rfl;have C3:=CF.out w3 _ _ S0.1 B3.out HRo3.out HV3.out HO3.out;obtain⟨F,hF⟩:=aa (a8 up ep at' S0.1 us 1 (l.drop 1));rw[hF]at hR C3;have C3:=ab C3;have HX:=ab hR;clear hR hx3 h0 hF CF HX3
       go_wp2_with fail
       refine C3.out.mono ?_;rintro e w4 ⟨x4,rfl,hx4,hs4⟩;have HX4:=ab hx4;have HO4:=ab (show w3.heap.size<=w4.heap.size from by obtain⟨_,_,_,g3⟩:=hs4;exact g3.size);have HB4:=ab (show Bytes w4 w4.heap.size (Value.slice A3 S0.1.length c3) S0.1 from by obtain⟨_,_,_,g3⟩:=hs4;exact Row.more (dP HV3.out g3 (Nat.le_refl _) (λj hj e=>by have h1:=(HHl.out j e).2;have h2:=(HO3.out j hj).1;omega)) g3.size);have HS4:=ab (aH.after (B0.out.trans (B3.out.mono B0.out.size)) (hs4.mono (show N+l.length<=N+3 by have:=HL.out;omega)));clear hx4 hs4 C3 s0 s1 s2 s3
       go_wp2_with fail
       go_ret2
       by_cases hf:F.2=0
       · have hR:=HX.out;rw[if_neg (by rw[hf];decide)]at hR;refine⟨_,_,rfl,?_,?_,?_,?_⟩
         · rw[hR];unfold fq;rw[if_pos hf];exact HB4.out
         · unfold fq;rw[if_pos hf];exact λj hj=>⟨(HO3.out j hj).1,Nat.lt_of_lt_of_le (HO3.out j hj).2 HO4.out⟩
         · rw[hR];have:=HX4.out;rw[hf]at this;exact this
         · rw[hR];exact HS4.out
       · have hR:=HX.out;rw[if_pos hf]at hR;refine⟨_,_,rfl,?_,?_,?_,?_⟩
         · rw[hR];unfold fq;rw[if_neg hf];exact di _ _
         · unfold fq;rw[if_neg hf];exact λj e=>by cases e
         · rw[hR];exact HX4.out
         · rw[hR];exact HS4.out
     · have hR:=HX.out;rw[if_pos h0]at hR;obtain⟨ad,rfl⟩:=fK HX3.out h0;have HX:=ab hR;clear hR h0 CF
       go_wp2_with fail
       go_ret2
       exact⟨_,_,rfl,by rw[HX.out];exact di _ _,(λj e=>by cases e),by rw[HX.out];exact HX3.out,by rw[HX.out];exact HS0.out _ B3.out⟩
 · have hx:=ab (show ey up ep cs q us=(us, [],bA ep cs q) from by unfold ey;rw[if_pos he]);rw[hx.out];have HE0:=ab he;clear he hx
   go_enter Tryz.func12,Tryz.ntmps12
   go_wp2_with fail
   refine CP.out.mono ?_;rintro e w1 ⟨y,rfl,hy,hb⟩;rcases hy with⟨_,x1,rfl,hx1⟩|⟨hne,_⟩
   · obtain⟨ad,rfl⟩:=fK hx1 HE0.out;have HX:=ab hx1;have HB:=ab hb;clear hb hx1 CP
     go_wp2_with fail
     go_ret2
     exact⟨_,_,rfl,di _ _,(λj e=>by cases e),HX.out,HS0.out _ (HB.out.alloc HB.out.size _)⟩
   · exact absurd hne HE0.out
end
end Go.Proofs.YtiafamacjpgjoaaGreatDoor
namespace Go.Proofs.YtiafamacjpgjoaaGreatDoor
open Go Go.RowKit Tide
theorem tI {up:Nat->Bool} {ep at':Int} {b:List UInt8} {us:Nat->ah} {n:Int} {first:Bool} (h:(bg up ep at' b us n first).2=9):(bg up ep at' b us n first).1=us/\aL up n=true:=by
 cases hu:aL up n with
 | false=>rw[o8 hu]at h;exact absurd (show(12:Nat)=9 from h) (by decide)
 | true=>
   refine⟨?_,rfl⟩;unfold bg at h ⊢;rw[if_neg (by simp[hu])]at h ⊢;split
   · rename_i h1;rw[if_pos h1]at h;have h':(aT (us n.toNat) ep at' b).2=9:=h;have:(aT (us n.toNat) ep at' b).1=us n.toNat:=qh (by rw[h'];decide);show bZ us n.toNat _=us;rw[this,pY]
   · rfl
def ec (up:Nat->Bool) (ep:Int) (cs:List (List Int)) (a:Int) (us:Nat->ah):(Nat->ah) × List UInt8 × Nat:=
 if bA ep cs a≠0 then(us, [],bA ep cs a) else kh up ep (a / cs.length) us (bx cs a)
section
variable {W W':World} {lo:Nat} {q:Nat->Nat} {H:Nat->Nat->Prop} {us us':Nat->ah} {up:Nat->Bool} {v vp:Value} {cs:List (List Int)} {Ap:Option Addr} {cp b0 o0 c0:Nat}
theorem Cx (h:dZ W lo q H us up (.slice (some ⟨b0,o0,none⟩) 6 c0) (.slice Ap cs.length cp) cs) (ep a:Int) (hok:∀n,aL up n=true->dp (us n.toNat)) (hof:bA ep cs a=0->(dt up ep (a / cs.length) us (bx cs a)).2.2=0->fo up ep (a / cs.length) (dt up ep (a / cs.length) us (bx cs a)).2.1 (dt up ep (a / cs.length) us (bx cs a)).1 1 ((bx cs a).drop 1)):
 Calls Tryz.prog 25 #[.slice (some ⟨b0,o0,none⟩) 6 c0,cA ep (.slice Ap cs.length cp),.int .i64 a] W (lQ W q H (ec up ep cs a us)):=by
 have B0:=ab ((Below.refl W.heap.size W).alloc (Nat.le_refl _) (.cells #[.int .i64 ep,.slice Ap cs.length cp] 34));have P0:=ab (aI.new W 34 (.int .i64 ep) (.slice Ap cs.length cp));have CP:=ab (λW1 (hb:Below W.heap.size W W1)=>mZ ep cs (.slice Ap cs.length cp) lo W1 a (h.below hb).bQ (h.below hb).lo_le);have HC:=ab h;have HOk:=ab hok;obtain⟨e,he⟩:=aa (bA ep cs a);have HE:=ab he;clear he;cases q0:((e:Int) == 0) with
 | false=>
   have e0:e≠0:=by intro e;rw[e]at q0;exact absurd q0 (by decide)
   have hx:=ab (show ec up ep cs a us=(us, [],e) by unfold ec;rw[HE.out,if_pos e0]);have q1:((e:Int) != 0)=true:=by unfold bne;rw[q0];rfl
   clear h hok hof
   go_enter Tryz.func25,Tryz.ntmps25
   go_wp2_with fail
   refine(CP.out _ B0.out).mono ?_;rintro en w1 ⟨x,rfl,hx1,hb⟩;rcases hx1 with⟨_,rfl⟩|⟨h0,_⟩
   · rw[HE.out];have HB:=ab (B0.out.trans (hb.mono B0.out.size));clear hb
     go_wp2_with fail
     go_ret2
     refine⟨_,by rw[hx.out]<;>rfl,by rw[hx.out];exact di _ _,by rw[hx.out];exact aU.refl HC.out.refs HB.out⟩
   · exact absurd (HE.out.symm.trans h0) e0
 | true=>
   have e0:e=0:=by simp at q0;omega
   subst e0;have q1:(((0:Nat):Int) != 0)=false:=by decide
   have hlen:=jL HE.out;obtain⟨R,hR⟩:=aa (kh up ep (a / cs.length) us (bx cs a));have hx:=ab (show ec up ep cs a us=R by unfold ec;rw[HE.out,if_neg (by decide),hR]);have HF:=ab (hof HE.out);obtain⟨l,hl⟩:=aa (bx cs a);rw[hl]at hlen hR HF;obtain⟨m,hm⟩:∃m,l.length=m+1:=⟨l.length - 1,by omega⟩;have hm3:m<=2:=by omega
   obtain⟨at',hat⟩:∃z,a / (cs.length:Int)=z:=⟨_,rfl⟩;have CRow:=ab (λ(W1:World) (vc:Value) (hc:Row W1 lo vc (az (bx cs a)))=>cF (hl ▸ hc));have CRw:=ab (λ(W1:World) (vc:Value) (hc:Row W1 lo vc (az (bx cs a)))=>(hl ▸ hc:Row W1 lo vc (az l)));rw[hat]at HF hR;have hhead:l.headD 0=l[0]:=by rw[List.headD_eq_head?_getD,List.head?_eq_getElem?,List.getElem?_eq_getElem (by omega)];rfl
   obtain⟨F,hF⟩:=aa (dt up ep at' us l);unfold kh at hR;rw[hF]at hR HF;unfold dt at hF;rw[hhead]at hF;obtain⟨n0,hn0⟩:∃n,l[0]=n:=⟨_,rfl⟩;rw[hn0]at hF;obtain⟨r,hr⟩:=aa (bg up ep at' [0] us n0 true);have HNine:=ab (λ(h9:r.2=9)=>show r.1=us/\aL up n0=true by rw[<-hr]at h9 ⊢;exact tI h9);have HPut:=ab (λ(W1:World) (vc vb:Value) (h1:dZ W1 lo q H us up (.slice (some ⟨b0,o0,none⟩) 6 c0) (.slice Ap cs.length cp) cs) (hc:Row W1 lo vc (az l)) (hvb:Bytes W1 W1.heap.size vb [0]) (hap:∀k,vb.ownBlock=some k->¬a9 H k)=>by have:=pw up l 0 ep at' [0] (.slice (some ⟨b0,o0,none⟩) 6 c0) vc vb lo (by omega) h1.rows (λW' hk=>Row.aj hc (gm hk h1.bK h1.lo_le)) (λW' hk=>dP hvb hk (Nat.le_refl _) hap) hap h1.refs (hok _);rw[hn0,show((0:Nat) == 0)=true from rfl,hr]at this;exact this);rw[hr]at hF;have HN0:=ab (show ∀h:0 < l.length,l[0]'h=n0 from λ_=>hn0);have HM:=ab hm;have HAt:=ab hat;have HFx:=ab hF;have HR:=ab hR;clear h hok hof hhead hlen hl hm hat hn0 hF hR hr
   go_enter Tryz.func25,Tryz.ntmps25
   go_wp2_with fail
   refine(CP.out _ B0.out).mono ?_;rintro en w1 ⟨x,rfl,hx1,hb⟩;rcases hx1 with⟨h0,_⟩|⟨_,vc,rfl,hrow⟩
   · exact absurd HE.out h0
   rw[HAt.out];have HB:=ab (B0.out.trans (hb.mono B0.out.size));obtain⟨_,A1,c1,rfl,hcu⟩:=CRow.out w1 vc hrow;obtain⟨b1,o1,rfl,hb1,hc10⟩:=hcu 0 (by rw[HM.out];omega);rw[HN0.out (by rw[HM.out];omega)]at hc10;clear hcu;have HRow:=ab (CRw.out w1 _ hrow);have HC1:=ab (HC.out.below HB.out);obtain⟨hpl,hp0,hp1,_⟩:=(P0.out.below hb P0.out.lt).facts;have HPl:=ab hpl;rw[HM.out];clear hb hrow CRow CRw CP
   go_wp2_with fail
   have BA:=ab ((Below.refl w1.heap.size w1).alloc (Nat.le_refl _) (.cells #[.int .u8 0] 5));have HCa:=ab (HC1.out.below BA.out);have HBj:=ab (show Bytes (w1.alloc (.cells #[.int .u8 0] 5)) (w1.alloc (.cells #[.int .u8 0] 5)).heap.size (.slice (some ⟨w1.heap.size,0,none⟩) 1 1) [0]from by rw[World.size_alloc];exact Bytes.new w1 _ _ _ _ 1 [0] rfl rfl rfl (by omega));have HRa:=ab (Row.aj HRow.out (eH (BA.out.mono HC1.out.lo_le)));have CPut:=ab (HPut.out _ _ _ HCa.out HRa.out HBj.out (λk e hk=>by have:=HC1.out.refs.lt k hk;injection e with e;have e:w1.heap.size=k:=e;omega));obtain⟨m1,hm1⟩:=aa r.2;have cpt:=CPut.out;rw[hm1,HM.out]at cpt;have CPut:=ab cpt;clear cpt;have hF:=HFx.out;rw[hm1]at hF;have h9:=HNine.out;rw[hm1]at h9;have HF1:=ab hF;have HN9:=ab h9;clear HPut HFx HNine hF h9;refine CPut.out.mono ?_;rintro en w2 ⟨rfl,hs⟩;obtain⟨H2,hC2,g2,g3⟩:=HCa.out.step hs;have HC2:=ab hC2;have HRS2:=ab (show aU W q H r.1 w2 from aU.trans (W:=W) (H:=H) (λi k e=> .inl e) (Kept.an (HB.out.trans (BA.out.mono HB.out.size))) hs);have HG2:=ab (λ(us3:Nat->ah) (W3:World) (h3:aU w2 q H2 us3 W3)=>aU.trans (W:=W) (H:=H) (λi k e=> .inl e) (Kept.an (HB.out.trans (BA.out.mono HB.out.size))) (aU.trans g2 g3 h3));have HRow2:=ab (Row.aj HRa.out (gm g3 HCa.out.bK HCa.out.lo_le));have HBj2:=ab (show Bytes w2 w2.heap.size (.slice (some ⟨w1.heap.size,0,none⟩) 1 1) [0]from Row.more (dP HBj.out g3 (Nat.le_refl _) (λk e hk=>by have:=HC1.out.refs.lt k hk;injection e with e;have e:w1.heap.size=k:=e;omega)) g3.size);have HOj2:=ab (show ∀k,(Value.slice (some ⟨w1.heap.size,0,none⟩) 1 1).ownBlock=some k->¬a9 H2 k from λk e ⟨i,hi,hk⟩=>by
    injection e with e;have e:w1.heap.size=k:=e;have hsz:(w1.alloc (.cells #[.int .u8 0] 5)).heap.size=w1.heap.size+1:=World.size_alloc ..;rcases g2 i k hk with hk|hk
    · have:=HC1.out.refs.lt k ⟨i,hi,hk⟩;omega
    · omega)
   have HOlj:=ab (show ∀k,(Value.slice (some ⟨w1.heap.size,0,none⟩) 1 1).ownBlock=some k->k < w2.heap.size from λk e=>by injection e with e;have e:w1.heap.size=k:=e;have hsz:(w1.alloc (.cells #[.int .u8 0] 5)).heap.size=w1.heap.size+1:=World.size_alloc ..;have:=g3.size;omega);have hp02:w2.cell? ⟨W.heap.size,0,none⟩=some (.int .i64 ep):=(g3.cell (p:=⟨W.heap.size,0,none⟩) (Nat.lt_of_lt_of_le HPl.out BA.out.size) (λhk=>by have h9:W.heap.size < W.heap.size:=HC.out.refs.lt _ hk;omega)).trans ((BA.out.cell (p:=⟨W.heap.size,0,none⟩) HPl.out).trans hp0);have hc102:w2.cell? ⟨b1,o1,none⟩=some (.int .i64 n0):=(gm g3 HCa.out.bK HCa.out.lo_le b1 o1 hb1).trans ((BA.out.cell (p:=⟨b1,o1,none⟩) (Nat.lt_of_lt_of_le hb1 HC1.out.lo_le)).trans hc10);have il:(0:Int) < (m:Int)+1:=by omega
   clear hs hC2 g2 g3 CPut hp0 hp1 hc10 hm1;by_cases hm9:m1=9
   · subst hm9;obtain⟨hus,hup⟩:=HN9.out rfl;rw[hus]at HC2 HRS2 HF1;obtain⟨i,hni,hi,hcell⟩:=HC2.out.cell hup;subst hni;rw[if_pos rfl,Int.toNat_natCast]at HF1;have CD:=ab ((HC2.out.below (Below.refl w2.heap.size w2).drew).read hi (by have:=HOk.out _ hup;rwa[Int.toNat_natCast]at this) ep at');obtain⟨rz,hrz⟩:∃rd,bt (us i) ep at'=rd:=⟨_,rfl⟩;rw[hrz]at CD HF1;have i6:(i:Int) < 6:=by omega
     have i00:(0:Int)<=(i:Int):=by omega
     obtain⟨m3,hm3'⟩:∃m1,rz.2=m1:=⟨_,rfl⟩;rw[hm3']at CD;have hfe:F=(us,rz):=HF1.out.symm;have hFo:=HF.out;have hr9:=HR.out;rw[hfe]at hr9 hFo;have hr9:(if rz.2≠0 then(us, [],rz.2) else if(a8 up ep at' rz.1 us 1 (l.drop 1)).2≠0 then((a8 up ep at' rz.1 us 1 (l.drop 1)).1, [],(a8 up ep at' rz.1 us 1 (l.drop 1)).2) else((a8 up ep at' rz.1 us 1 (l.drop 1)).1,rz.1,0))=R:=hr9;have hFo:rz.2=0->fo up ep at' rz.1 us 1 (l.drop 1):=hFo;rw[hm3']at hr9 hFo;have HR9:=ab hr9;have HFo:=ab hFo;have K1:=ab (And.intro hc102 (And.intro hcell hp02));have Hz2:=ab (show b1 < w2.heap.size/\b0 < w2.heap.size/\W.heap.size < w2.heap.size from⟨Nat.lt_of_lt_of_le hb1 HC2.out.lo_le,(by obtain⟨b,o,c,e,hlt,_⟩:=jO (HC2.out.rows w2 (Kept.refl _ _));injection e with e;injection e with e;injection e with e;have e:b0=b:=e;omega),by have:=HPl.out;have h9:w1.heap.size < w2.heap.size:=HOlj.out _ rfl;omega⟩);clear hrz hup hm3' hc102 hcell hp02 hr9 hFo hus hfe
     go_wp2_with fail
     go_region_held3 (λY=>Y.cell? ⟨b1,o1,none⟩=some (.int .i64 (i:Int))/\Y.cell? ⟨b0,o0+i,none⟩=some (.pointer (some ⟨q i,0,none⟩))/\Y.cell? ⟨W.heap.size,0,none⟩=some (.int .i64 ep))
      (first|exact K1.out|exact K2.out)
      (first
        | ((with_reducible refine CD.out.mono ?_);rintro en w3 ⟨vz,rfl,hbz,hown,hb3⟩;have K2:=ab (And.intro ((hb3.cell (p:=⟨b1,o1,none⟩) Hz2.out.1).trans K1.out.1) (And.intro ((hb3.cell (p:=⟨b0,o0+i,none⟩) Hz2.out.2.1).trans K1.out.2.1) ((hb3.cell (p:=⟨W.heap.size,0,none⟩) Hz2.out.2.2).trans K1.out.2.2)))))
     obtain⟨Az,cz,rfl,_⟩:=hbz.form;have HBz:=ab hbz;have B23:=ab (((Below.refl w2.heap.size w2).drew).trans hb3);have HC3:=ab (HC2.out.below B23.out);have HRow3:=ab (Row.aj HRow2.out (eH (B23.out.mono HC2.out.lo_le)));have hp0:=K2.out.2.2;have HOw:=ab (show ∀k,(Value.slice Az rz.1.length cz).ownBlock=some k->¬a9 H2 k from λk e hk=>by have h1:w2.heap.size<=k:=(hown k e).1;have:=HC2.out.refs.lt k hk;omega);have HOlt:=ab (λk e=>(hown k e).2);have HG3:=ab (λ(us3:Nat->ah) (W3:World) (h3:aU w3 q H2 us3 W3)=>HG2.out us3 W3 (aU.trans (W:=w2) (H:=H2) (λi k e=> .inl e) (Kept.an B23.out) h3));have HRS3:=ab (HG2.out us w3 (aU.refl HC2.out.refs B23.out));clear hbz hb3 hown CD K1 K2 HRow2;cases q4:((m3:Int) == 0) with
     | false=>
       have hRx:=ab (show ec up ep cs a us=(us, [],m3) by rw[hx.out,<-HR9.out,if_pos (by intro e;rw[e]at q4;exact absurd q4 (by decide))]);have q4':((m3:Int) != 0)=true:=by unfold bne;rw[q4];rfl
       clear hp0
       go_wp2_with fail
       go_ret2
       exact⟨_,by rw[hRx.out]<;>rfl,by rw[hRx.out];exact di _ _,by rw[hRx.out];exact HRS3.out⟩
     | true=>
     have hm30:m3=0:=by simp at q4;omega
     have q4':((m3:Int) != 0)=false:=by unfold bne;rw[q4];rfl
     have hr9:=HR9.out;rw[if_neg (by rw[hm30];decide)]at hr9;have HFo:=ab (HFo.out hm30);clear hm30;have CF:=lA up l 1 ep at' rz.1 _ _ (Value.slice Az rz.1.length cz) lo (by rw[HM.out];omega) HC3.out.lo_le HC3.out.rows (λW' hk=>Row.aj HRow3.out (gm hk HC3.out.bK HC3.out.lo_le)) (λW' hk=>dP HBz.out hk (Nat.le_refl _) HOw.out) (λk e=>⟨HOw.out k e,HOlt.out k e⟩) HC3.out.refs HFo.out;rw[HM.out]at CF;obtain⟨rr,hrr⟩:∃r,a8 up ep at' rz.1 us 1 (l.drop 1)=r:=⟨_,rfl⟩;rw[hrr]at CF hr9;obtain⟨mm,hmm⟩:=aa rr.2;rw[hmm]at CF hr9;have CF:=ab CF;have HR9:=ab hr9;clear hr9 hrr hmm
     go_wp2_with fail
     refine CF.out.mono ?_;rintro en w9 ⟨rfl,hs⟩;have HB9:=ab (show Bytes w9 w9.heap.size (Value.slice Az rz.1.length cz) rz.1 from by obtain⟨_,_,_,g3⟩:=hs;exact Row.more (dP HBz.out g3 (Nat.le_refl _) HOw.out) g3.size);have HS:=ab (HG3.out _ _ hs);clear hs CF;cases q5:((mm:Int) == 0) with
     | false=>
       have hRx:=ab (show ec up ep cs a us=(rr.1, [],mm) by rw[hx.out,<-HR9.out,if_pos (by intro e;rw[e]at q5;exact absurd q5 (by decide))]);have q5':((mm:Int) != 0)=true:=by unfold bne;rw[q5];rfl
       go_wp2_with fail
       go_ret2
       exact⟨_,by rw[hRx.out]<;>rfl,by rw[hRx.out];exact di _ _,by rw[hRx.out];exact HS.out⟩
     | true=>
       have hRx:=ab (show ec up ep cs a us=(rr.1,rz.1,0) by rw[hx.out,<-HR9.out,if_neg (by simp at q5;omega)]);have q5':((mm:Int) != 0)=false:=by unfold bne;rw[q5];rfl
       go_wp2_with fail
       go_ret2
       exact⟨_,by rw[hRx.out]<;>rfl,by rw[hRx.out];exact HB9.out,by rw[hRx.out];exact HS.out⟩
   · have q9:((m1:Int) == 9)=false:=beq_eq_false_iff_ne.2 (by omega);rw[if_neg hm9]at HF1;have hfe:F=(r.1, [0],m1):=HF1.out.symm;have hFo:=HF.out;have hr9:=HR.out;rw[hfe]at hr9 hFo;obtain⟨u1,hu1⟩:=aa r.1;rw[hu1]at hr9 hFo HC2 HRS2;have hr9:(if m1≠0 then(u1, [],m1) else if(a8 up ep at' [0] u1 1 (l.drop 1)).2≠0 then((a8 up ep at' [0] u1 1 (l.drop 1)).1, [],(a8 up ep at' [0] u1 1 (l.drop 1)).2) else((a8 up ep at' [0] u1 1 (l.drop 1)).1, [0],0))=R:=hr9;have hFo:m1=0->fo up ep at' [0] u1 1 (l.drop 1):=hFo;have HR9:=ab hr9;have HFo:=ab hFo;clear hr9 hFo hfe hu1 hm9 hc102;cases q4:((m1:Int) == 0) with
     | false=>
       have hRx:=ab (show ec up ep cs a us=(u1, [],m1) by rw[hx.out,<-HR9.out,if_pos (by intro e;rw[e]at q4;exact absurd q4 (by decide))]);have q4':((m1:Int) != 0)=true:=by unfold bne;rw[q4];rfl
       clear hp02
       go_wp2_with fail
       go_ret2
       exact⟨_,by rw[hRx.out]<;>rfl,by rw[hRx.out];exact di _ _,by rw[hRx.out];exact HRS2.out⟩
     | true=>
     have hm30:m1=0:=by simp at q4;omega
     have q4':((m1:Int) != 0)=false:=by unfold bne;rw[q4];rfl
     have hr9:=HR9.out;rw[if_neg (by rw[hm30];decide)]at hr9;have HFo:=ab (HFo.out hm30);clear hm30;have CF:=lA up l 1 ep at' [0] _ _ (Value.slice (some ⟨w1.heap.size,0,none⟩) 1 1) lo (by rw[HM.out];omega) HC2.out.lo_le HC2.out.rows (λW' hk=>Row.aj HRow2.out (gm hk HC2.out.bK HC2.out.lo_le)) (λW' hk=>dP HBj2.out hk (Nat.le_refl _) HOj2.out) (λk e=>⟨HOj2.out k e,HOlj.out k e⟩) HC2.out.refs HFo.out;rw[HM.out]at CF;obtain⟨rr,hrr⟩:∃r,a8 up ep at' [0] u1 1 (l.drop 1)=r:=⟨_,rfl⟩;rw[hrr]at CF hr9;obtain⟨mm,hmm⟩:=aa rr.2;rw[hmm]at CF hr9;have CF:=ab CF;have HR9:=ab hr9;clear hr9 hrr hmm
     go_wp2_with fail
     refine CF.out.mono ?_;rintro en w9 ⟨rfl,hs⟩;have HB9:=ab (show Bytes w9 w9.heap.size (Value.slice (some ⟨w1.heap.size,0,none⟩) 1 1) [0]from by obtain⟨_,_,_,g3⟩:=hs;exact Row.more (dP HBj2.out g3 (Nat.le_refl _) HOj2.out) g3.size);have HS:=ab (HG2.out _ _ hs);clear hs CF;cases q5:((mm:Int) == 0) with
     | false=>
       have hRx:=ab (show ec up ep cs a us=(rr.1, [],mm) by rw[hx.out,<-HR9.out,if_pos (by intro e;rw[e]at q5;exact absurd q5 (by decide))]);have q5':((mm:Int) != 0)=true:=by unfold bne;rw[q5];rfl
       go_wp2_with fail
       go_ret2
       exact⟨_,by rw[hRx.out]<;>rfl,by rw[hRx.out];exact di _ _,by rw[hRx.out];exact HS.out⟩
     | true=>
       have hRx:=ab (show ec up ep cs a us=(rr.1, [0],0) by rw[hx.out,<-HR9.out,if_neg (by simp at q5;omega)]);have q5':((mm:Int) != 0)=false:=by unfold bne;rw[q5];rfl
       go_wp2_with fail
       go_ret2
       exact⟨_,by rw[hRx.out]<;>rfl,by rw[hRx.out];exact HB9.out,by rw[hRx.out];exact HS.out⟩
end
end Go.Proofs.YtiafamacjpgjoaaGreatDoor
namespace Go.Proofs.YtiafamacjpgjoaaGreatDoor
open Go Go.RowKit Tide
theorem zC (w:World):Calls Tryz.prog 44 #[] w λe w'=>e= .returned (.slice (some ⟨w.heap.size,0,none⟩) 1 1)/\Bytes w' w'.heap.size (.slice (some ⟨w.heap.size,0,none⟩) 1 1) [0]/\Below w.heap.size w w'/\w.heap.size < w'.heap.size:=by
 go_enter Tryz.func44,Tryz.ntmps44
 go_wp2_with fail
 go_ret
 exact⟨rfl,qP w,(Below.refl _ _).alloc (Nat.le_refl _) _,by rw[World.size_alloc];omega⟩
section
variable {D:aB} {a x:Nat->Addr} {w W W':World} {lo:Nat->Prop} {m N M:Nat} {g:Nat->Nat} {H:Nat->Nat->Prop} {us us':Nat->ah} {up:Nat->Bool} {v vp:Value} {cs:List (List Int)}
theorem qT (hD:ay (three a) D) (hE:av w a) (h:cZ D w W lo g H m us up v vp cs N) (hN:N+4<=90000) (ep q:Int):
 Calls Tryz.prog 16 #[v,cA ep vp,.int .i64 q] W (ReadW a D w W g H m (N+4) (ec up ep cs q us)):=by
 obtain⟨A,c,rfl,hcl⟩:=h.bQ.form;obtain⟨b0,o0,c0,rfl,_,hrow6⟩:=fD h.dx.1 (h.rows W (Kept.refl _ _));clear hrow6 hcl;obtain⟨W0,hW0⟩:=aa (W.alloc (.cells #[.int .i64 ep,.slice A cs.length c] 24));have B0:=ab (show Below W.heap.size W W0 from by rw[<-hW0];exact(Below.refl W.heap.size W).alloc (Nat.le_refl _) _);have P0:=ab (show aI W0 W.heap.size 24 (.int .i64 ep) (.slice A cs.length c) from by rw[<-hW0];exact aI.new W _ _ _);have HD:=ab hD;have HE:=ab hE;have HC:=ab (h.below hD B0.out);have HHl:=ab h.aX.lt;have CP:=ab (lZ hD hE HC.out ep q);obtain⟨_,p0,p1,_⟩:=P0.out.facts;have HS0:=ab (λ(W1:World) (hb:Below W0.heap.size W0 W1)=>show aH D w W g H m 128 (N+4) us W1 from aH.after B0.out ((aH.refl HD.out HC.out.aX hb).mono (show N<=N+4 by omega)));have HE2:=ab (λ(W1:World) (hb:Below W0.heap.size W0 W1)=>(HC.out.below HD.out hb).eR HE.out);clear h hD hE;by_cases he:bA ep cs q=0
 · have hlen:=jL he;obtain⟨l,hl⟩:=aa (bx cs q);obtain⟨at',hat⟩:∃z,q / (cs.length:Int)=z:=⟨_,rfl⟩;have hx0:ec up ep cs q us=kh up ep at' us l:=by unfold ec;rw[if_neg (by rw[he];decide),hl,hat]
   rw[hl]at hlen;have HE0:=ab he;have HRow:=ab (λ(W1:World) (vc:Value) (hc:aS W1 lo vc (az (bx cs q)))=>show aS W1 lo vc (az l) from hl ▸ hc);have HAt:=ab hat;have h0l:0 < l.length:=by omega
   have hhead:l.headD 0=l[0]:=by rw[List.headD_eq_head?_getD,List.head?_eq_getElem?,List.getElem?_eq_getElem (by omega)];rfl
   unfold kh dt at hx0;rw[hhead]at hx0;have CS0:=ab (λ(W1:World) (H1:Nat->Nat->Prop) (vc:Value) (hC:cZ D w W1 lo g H1 m us up (.slice (some ⟨b0,o0,none⟩) m c0) (.slice A cs.length c) cs (N+1)) (hc:aS W1 lo vc (az l))=>na HD.out HE.out hC ep at' l vc hc 0 h0l);have CW:=ab (λ(W1:World) (vc vb:Value) (hb:Below W0.heap.size W0 W1) (hc:aS W1 lo vc (az l)) (hvb:Bytes W1 W1.heap.size vb [0]) (hap:∀j,vb.ownBlock=some j->W.heap.size<=j/\j < W1.heap.size)=>pM HD.out HE.out (by omega) (HC.out.below HD.out hb) ep at' l vc hc 0 h0l vb [0] hvb (λj hj e=>by have h1:=(HHl.out j e).2;have h2:=(hap j hj).1;omega));have CF:=ab (λ(W1:World) (H1:Nat->Nat->Prop) (us1:Nat->ah) (vc vb:Value) (b:List UInt8) (hC:cZ D w W1 lo g H1 m us1 up (.slice (some ⟨b0,o0,none⟩) m c0) (.slice A cs.length c) cs (N+1)) (hc:aS W1 lo vc (az l)) (hvb:Bytes W1 W1.heap.size vb b) (hap:∀j,vb.ownBlock=some j->¬bX m H1 j/\j < W1.heap.size)=>rL HD.out HE.out hC ep at' l (by omega) vc hc (by omega) vb b hvb hap);obtain⟨n0,hn0⟩:=aa (l[0]);rw[hn0]at CS0 CW hx0;have CW:Hid (∀ (W1:World) (vc vb:Value) (hb:Below W0.heap.size W0 W1) (hc:aS W1 lo vc (az l)) (hvb:Bytes W1 W1.heap.size vb [0]) (hap:∀j,vb.ownBlock=some j->W.heap.size<=j/\j < W1.heap.size),Calls Tryz.prog 45 #[.agg #[.slice (some ⟨b0,o0,none⟩) m c0,.int .i64 ep,vc,.int .i64 at'],.int .i64 0,vb] W1 λe w'=>∃x,e= .returned x/\bE a x (bg up ep at' [0] us n0 true).2/\aH D w W1 g H m 128 (N+1) (bg up ep at' [0] us n0 true).1 w'):=CW;have HNine:=ab (λ(h9:(bg up ep at' [0] us n0 true).2=9)=>tI h9);obtain⟨p,hp⟩:=aa (bg up ep at' [0] us n0 true);rw[hp]at CW hx0 HNine;obtain⟨R,hR⟩:=aa (ec up ep cs q us);rw[hR]at hx0 ⊢;have HX:=ab hx0;have HL:=ab hlen;clear he hlen hl hat hx0 hhead hR h0l hp hn0
   go_enter Tryz.func16,Tryz.ntmps16
   go_wp2_with fail
   refine CP.out.mono ?_;rintro e w1 ⟨y,rfl,hy,hb⟩;rcases hy with⟨hne,_⟩|⟨_,vc,rfl,hrow⟩
   · exact absurd HE0.out hne
   have hrow:=HRow.out _ _ hrow;rw[HAt.out];obtain⟨_,A1,c1,rfl,_⟩:=cF hrow.1;obtain⟨W1,hW1⟩:=aa (w1.alloc (.cells #[.slice (some ⟨b0,o0,none⟩) m c0,.int .i64 ep,.slice A1 l.length c1,.int .i64 at'] 79));have B1:=ab (show Below W0.heap.size W0 W1 from by rw[<-hW1];exact hb.alloc hb.size _);have T1:=ab (show bY W1 w1.heap.size (.slice (some ⟨b0,o0,none⟩) m c0) ep (.slice A1 l.length c1) at' from by rw[<-hW1];exact bY.new w1 _ _ _ _);have HRo:=ab (show aS W1 lo (.slice A1 l.length c1) (az l) from by rw[<-hW1];exact aS.below hrow ((Below.refl w1.heap.size w1).alloc (Nat.le_refl _) _));have HZ1:=ab (show W.heap.size<=w1.heap.size from(B0.out.trans (hb.mono B0.out.size)).size);have CJ:=ab (zC W1);clear hb hrow CP HRow
   go_wp2_with fail
   refine CJ.out.mono ?_;rintro e w2 ⟨rfl,hv2,hb2,hz2⟩;have B2:=ab (B1.out.trans (hb2.mono B1.out.size));have HV2:=ab hv2;have HO2:=ab (show ∀j,(Value.slice (some ⟨W1.heap.size,0,none⟩) 1 1).ownBlock=some j->W.heap.size<=j/\j < w2.heap.size from λj hj=>by injection hj with hj;have hj:W1.heap.size=j:=hj;have h1:=(B0.out.trans (B1.out.mono B0.out.size)).size;omega);have T2:=ab (T1.out.below hb2);have HRo2:=ab (aS.below HRo.out hb2);have C2:=ab (CW.out w2 _ _ B2.out HRo2.out hv2 HO2.out);clear hv2 hb2 hz2 CJ CW hW1;obtain⟨s0,s1,s2,s3⟩:=T2.out.facts
   go_wp2_with fail
   refine C2.out.mono ?_;rintro e w3 ⟨x3,rfl,hx3,hs3⟩;have HX3:=ab hx3;obtain⟨H3,hC3,g2,g3⟩:=(HC.out.below HD.out B2.out).step hs3;have HC3:=ab hC3;have HTr:=ab (λ(us4:Nat->ah) (W4:World) (h4:aH D w w3 g H3 m 128 (N+4) us4 W4)=>aH.after (B0.out.trans (B2.out.mono B0.out.size)) (aH.trans g2 g3 h4));have HZ3:=ab (show w2.heap.size<=w3.heap.size from g3.size);have T3:=ab (T2.out.kept g3 (λe=>by have h1:=(HHl.out _ e).2;have h2:=HZ1.out;omega));have HRo3:=ab (aS.kept HRo2.out g3 (HC.out.below HD.out B2.out).bK);have HV3:=ab (show Bytes w3 w3.heap.size (.slice (some ⟨W1.heap.size,0,none⟩) 1 1) [0]from Row.more (dP HV2.out g3 (Nat.le_refl _) (λj hj e=>by have h1:=(HHl.out j e).2;have h2:=(HO2.out j hj).1;omega)) g3.size);have HO3:=ab (show ∀j,(Value.slice (some ⟨W1.heap.size,0,none⟩) 1 1).ownBlock=some j->¬bX m H3 j/\j < w3.heap.size from λj hj=>⟨λ⟨i,hi,e⟩=>by
    rcases g2 i j e with e|e
    · have h1:=(HHl.out j ⟨i,hi,e⟩).2;have h2:=(HO2.out j hj).1;omega
    · have:=(HO2.out j hj).2;omega,Nat.lt_of_lt_of_le (HO2.out j hj).2 g3.size⟩)
   have hE3:=hC3.eR HE.out;have CI:=ab (ot a x3 p.2 8 w3 hE3 hx3 (by decide));have e9:w3.cell? ⟨9,0,none⟩=some (ao (a 8)):=hE3.var 8 (by decide);clear hx3 hs3 hC3 g2 g3 hE3 C2 s0 s1 s2 s3;obtain⟨s0,s1,s2,s3⟩:=T3.out.facts;cases q9:(p.2 == 8+1) with
   | true=>
     have hp9:p.2=9:=by simpa using q9
     obtain⟨hus,hup⟩:=HNine.out hp9;have hR:=HX.out;rw[if_pos hp9,hus]at hR;have hC3:=HC3.out;rw[hus]at hC3;have HC3:=ab hC3;have C3:=CS0.out w3 _ _ hC3 HRo3.out;have hS0:dc up ep at' us n0=bt (us n0.toNat) ep at':=by unfold dc;rw[if_neg (by rw[hup];decide)]
     rw[hS0]at C3;obtain⟨S0,hS⟩:=aa (bt (us n0.toNat) ep at');rw[hS]at C3 hR;have C3:=ab C3;have HX:=ab hR;rw[q9]at CI;clear hR hp9 q9 hus hup hC3 hS0 hS CS0
     go_wp2_with fail
     refine CI.out.mono ?_;rintro e w4 ⟨rfl,rfl⟩;clear CI
     go_wp2_with fail
     refine C3.out.mono ?_;rintro e w4 ⟨v4,x4,rfl,hv4,ho4,hx4,hb4⟩;obtain⟨A4,c4,rfl,_⟩:=hv4.form;have HX4:=ab hx4;have HV4:=ab hv4;have HC4:=ab (HC3.out.below HD.out hb4);have HZ4:=ab (show ∀j,(Value.slice A4 S0.1.length c4).ownBlock=some j->W.heap.size<=j from λj hj=>by have h1:=(ho4 j hj).1;have h2:=(B0.out.trans (B2.out.mono B0.out.size)).size;have h3:=HZ3.out;omega);have HO4:=ab (show ∀j,(Value.slice A4 S0.1.length c4).ownBlock=some j->¬bX m H3 j/\j < w4.heap.size from λj hj=>⟨λe=>by have h1:=(HC3.out.aX.lt j e).2;have h2:=(ho4 j hj).1;omega,(ho4 j hj).2⟩);have T4:=ab (T3.out.below hb4);have HRo4:=ab (aS.below HRo3.out hb4);have HB4:=ab hb4;clear hv4 ho4 hx4 hb4 C3 s0 s1 s2 s3 e9;obtain⟨s0,s1,s2,s3⟩:=T4.out.facts;by_cases h0:S0.2=0
     · have hR:=HX.out;rw[if_neg (by rw[h0];decide)]at hR;have hx4:=HX4.out;rw[h0]at hx4;obtain rfl:=gN hx4 rfl;have C4:=CF.out w4 H3 us _ _ S0.1 HC4.out HRo4.out HV4.out HO4.out;obtain⟨F,hF⟩:=aa (a8 up ep at' S0.1 us 1 (l.drop 1));replace hR:R=if F.2≠0 then(F.1, [],F.2) else(F.1,S0.1,0):=by rw[<-hF];exact hR
       rw[hF]at C4;have C4:=ab C4;have HFin:=ab hR;clear hR hx4 h0 hF CF HX4
       go_wp2_with fail
       refine C4.out.mono ?_;rintro e w5 ⟨x5,rfl,hx5,hs5⟩;have HX5:=ab hx5;have HZ5:=ab (show w4.heap.size<=w5.heap.size from by obtain⟨_,_,_,g3⟩:=hs5;exact g3.size);have HB5:=ab (show Bytes w5 w5.heap.size (Value.slice A4 S0.1.length c4) S0.1 from by obtain⟨_,_,_,g3⟩:=hs5;exact Row.more (dP HV4.out g3 (Nat.le_refl _) (λj hj=>(HO4.out j hj).1)) g3.size);have HS5:=ab (HTr.out _ w5 (aH.after HB4.out (hs5.mono (show N+1+l.length<=N+4 by have:=HL.out;omega))));clear hx5 hs5 C4 s0 s1 s2 s3
       go_wp2_with fail
       go_ret2
       by_cases hf:F.2=0
       · have hR:=HFin.out;rw[if_neg (by rw[hf];decide)]at hR;refine⟨_,_,rfl,?_,?_,?_,?_⟩
         · rw[hR];unfold fq;rw[if_pos hf];exact HB5.out
         · unfold fq;rw[if_pos hf];exact λj hj=>⟨HZ4.out j hj,Nat.lt_of_lt_of_le (HO4.out j hj).2 HZ5.out⟩
         · rw[hR];have:=HX5.out;rw[hf]at this;exact this
         · rw[hR];exact HS5.out
       · have hR:=HFin.out;rw[if_pos hf]at hR;refine⟨_,_,rfl,?_,?_,?_,?_⟩
         · rw[hR];unfold fq;rw[if_neg hf];exact di _ _
         · unfold fq;rw[if_neg hf];exact(λj e=>by cases e)
         · rw[hR];exact HX5.out
         · rw[hR];exact HS5.out
     · have hR:=HX.out;rw[if_pos h0]at hR;obtain⟨ad,rfl⟩:=fK HX4.out h0;have HX:=ab hR;have HS4:=ab (HTr.out _ w4 ((aH.refl HD.out HC3.out.aX HB4.out).mono (show N+1<=N+4 by omega)));clear hR h0 CF
       go_wp2_with fail
       go_ret2
       exact⟨_,_,rfl,by rw[HX.out];exact di _ _,(λj e=>by cases e),by rw[HX.out];exact HX4.out,by rw[HX.out];exact HS4.out⟩
   | false=>
     have hp9:p.2≠9:=by simpa using q9
     have hR:=HX.out;rw[if_neg hp9]at hR;have HX:=ab hR;rw[q9]at CI;clear hR hp9 q9 CS0 HNine;by_cases h0:p.2=0
     · have hR:=HX.out;rw[if_neg (by rw[h0];decide)]at hR;have hx3:=HX3.out;rw[h0]at hx3;obtain rfl:=gN hx3 rfl;have C4:=CF.out w3 H3 p.1 _ _ [0] HC3.out HRo3.out HV3.out HO3.out;obtain⟨F,hF⟩:=aa (a8 up ep at' [0] p.1 1 (l.drop 1));replace hR:R=if F.2≠0 then(F.1, [],F.2) else(F.1, [0],0):=by rw[<-hF];exact hR
       rw[hF]at C4;have C4:=ab C4;have HFin:=ab hR;clear hR hx3 h0 hF CF HX3
       go_wp2_with fail
       refine CI.out.mono ?_;rintro e w4 ⟨rfl,rfl⟩;clear CI e9
       go_wp2_with fail
       refine C4.out.mono ?_;rintro e w5 ⟨x5,rfl,hx5,hs5⟩;have HX5:=ab hx5;have HZ5:=ab (show w3.heap.size<=w5.heap.size from by obtain⟨_,_,_,g3⟩:=hs5;exact g3.size);have HB5:=ab (show Bytes w5 w5.heap.size (.slice (some ⟨W1.heap.size,0,none⟩) 1 1) [0]from by obtain⟨_,_,_,g3⟩:=hs5;exact Row.more (dP HV3.out g3 (Nat.le_refl _) (λj hj=>(HO3.out j hj).1)) g3.size);have HS5:=ab (HTr.out _ w5 (hs5.mono (show N+1+l.length<=N+4 by have:=HL.out;omega)));clear hx5 hs5 C4 s0 s1 s2 s3
       go_wp2_with fail
       go_ret2
       by_cases hf:F.2=0
       · have hR:=HFin.out;rw[if_neg (by rw[hf];decide)]at hR;refine⟨_,_,rfl,?_,?_,?_,?_⟩
         · rw[hR];unfold fq;rw[if_pos hf];exact HB5.out
         · unfold fq;rw[if_pos hf];exact λj hj=>⟨(HO2.out j hj).1,Nat.lt_of_lt_of_le (HO3.out j hj).2 HZ5.out⟩
         · rw[hR];have:=HX5.out;rw[hf]at this;exact this
         · rw[hR];exact HS5.out
       · have hR:=HFin.out;rw[if_pos hf]at hR;refine⟨_,_,rfl,?_,?_,?_,?_⟩
         · rw[hR];unfold fq;rw[if_neg hf];exact di _ _
         · unfold fq;rw[if_neg hf];exact(λj e=>by cases e)
         · rw[hR];exact HX5.out
         · rw[hR];exact HS5.out
     · have hR:=HX.out;rw[if_pos h0]at hR;obtain⟨ad,rfl⟩:=fK HX3.out h0;have HFin:=ab hR;have HS4:=ab (HTr.out _ w3 ((aH.refl HD.out HC3.out.aX (Below.refl _ _)).mono (show N+1<=N+4 by omega)));clear hR h0 CF
       go_wp2_with fail
       refine CI.out.mono ?_;rintro e w4 ⟨rfl,rfl⟩;clear CI e9
       go_wp2_with fail
       go_ret2
       exact⟨_,_,rfl,by rw[HFin.out];exact di _ _,(λj e=>by cases e),by rw[HFin.out];exact HX3.out,by rw[HFin.out];exact HS4.out⟩
 · have hx:=ab (show ec up ep cs q us=(us, [],bA ep cs q) from by unfold ec;rw[if_pos he]);rw[hx.out];have HE0:=ab he;clear he hx
   go_enter Tryz.func16,Tryz.ntmps16
   go_wp2_with fail
   refine CP.out.mono ?_;rintro e w1 ⟨y,rfl,hy,hb⟩;rcases hy with⟨_,x1,rfl,hx1⟩|⟨hne,_⟩
   · obtain⟨ad,rfl⟩:=fK hx1 HE0.out;have HX:=ab hx1;have HB:=ab hb;clear hb hx1 CP
     go_wp2_with fail
     go_ret2
     exact⟨_,_,rfl,di _ _,(λj e=>by cases e),HX.out,HS0.out _ (HB.out.alloc HB.out.size _)⟩
   · exact absurd hne HE0.out
end
end Go.Proofs.YtiafamacjpgjoaaGreatDoor
namespace Go.Proofs.YtiafamacjpgjoaaGreatDoor
open Go Go.RowKit Tide
def kQ (up:Nat->Bool) (ep own:Int):(Nat->ah)->List Int->Prop
 | _, []=>True
 | us,n :: l=>(aL up n=true->dp (us n.toNat))/\(aL up n=true->(bS (us n.toNat) ep own).2=0->kQ up ep own (bZ us n.toNat (bS (us n.toNat) ep own).1) l)
def jb (up:Nat->Bool) (ep:Int) (n tz:Nat):(Nat->ah)->Nat->List (List Int)->Prop
 | _,_, []=>True
 | us,c,l :: cs=>kQ up ep (db n c tz) us l/\((dU up ep (db n c tz) us l).2=0->jb up ep n tz (dU up ep (db n c tz) us l).1 (c+1) cs)
def dS (up:Nat->Bool) (ep:Int) (cs:List (List Int)) (tz:Int) (us:Nat->ah):(Nat->ah) × Nat:=
 if aO ep cs=false then(us,4) else if tz < 0\/4096 < tz then(us,1) else iz up ep cs.length tz.toNat us 0 cs
theorem AE (up:Nat->Bool) (ep:Int) (n tz:Nat) (us:Nat->ah) (c:Nat) (l:List Int) (cs:List (List Int)):jb up ep n tz us c (l :: cs)=(kQ up ep (db n c tz) us l/\((dU up ep (db n c tz) us l).2=0->jb up ep n tz (dU up ep (db n c tz) us l).1 (c+1) cs)):=rfl
theorem pS (up:Nat->Bool) (ep own:Int) (us:Nat->ah) (n:Int) (l:List Int):dU up ep own us (n :: l)=if aL up n=false then(us,12) else if(bS (us n.toNat) ep own).2≠0 then(bZ us n.toNat (bS (us n.toNat) ep own).1,(bS (us n.toNat) ep own).2) else dU up ep own (bZ us n.toNat (bS (us n.toNat) ep own).1) l:=rfl
theorem uP (up:Nat->Bool) (ep:Int) (n tz:Nat) (us:Nat->ah) (c:Nat) (l:List Int) (cs:List (List Int)):iz up ep n tz us c (l :: cs)=if(dU up ep (db n c tz) us l).2≠0 then dU up ep (db n c tz) us l else iz up ep n tz (dU up ep (db n c tz) us l).1 (c+1) cs:=rfl
theorem oP {n c tz o:Nat} (hn:0 < n) (h:o<=db n c tz):(o * n+c < tz->o+1<=db n c tz)/\(¬o * n+c < tz->o=db n c tz):=by
 unfold db at *;constructor
 · intro hlt;rw[Nat.le_div_iff_mul_le hn];have:(o+1) * n=o * n+n:=by rw[Nat.add_mul,Nat.one_mul]
   omega
 · intro hge;have:(tz - c+n - 1) / n<=o:=by rw[Nat.div_le_iff_le_mul_add_pred hn];have:n * o=o * n:=Nat.mul_comm _ _;omega
   omega
section
variable {W W':World} {lo:Nat} {q:Nat->Nat} {H:Nat->Nat->Prop} {us us':Nat->ah} {up:Nat->Bool} {v vp:Value} {cs:List (List Int)} {Ap:Option Addr} {cp b0 o0 c0:Nat}
theorem wQ (h:dZ W lo q H us up (.slice (some ⟨b0,o0,none⟩) 6 c0) vp cs) (hs:aU W q H us' W') {i:Nat} (hu:aL up (i:Int)=true):W'.cell? ⟨b0,o0+i,none⟩=some (.pointer (some ⟨q i,0,none⟩)):=by
 obtain⟨_,h1,_,_⟩:=h.step hs;obtain⟨j,hj,_,hc⟩:=h1.cell hu;obtain rfl:i=j:=by omega
 exact hc
theorem Dh (h:dZ W lo q H us up (.slice (some ⟨b0,o0,none⟩) 6 c0) (.slice Ap cs.length cp) cs) (ep tq:Int) (hok:aO ep cs=true->0<=tq->tq<=4096->jb up ep cs.length tq.toNat us 0 cs):
 Calls Tryz.prog 26 #[.slice (some ⟨b0,o0,none⟩) 6 c0,cA ep (.slice Ap cs.length cp),.int .i64 tq] W λe w'=>e= .returned (.int .i64 ((dS up ep cs tq us).2:Nat))/\aU W q H (dS up ep cs tq us).1 w':=by
 have B0:=ab ((Below.refl W.heap.size W).alloc (Nat.le_refl _) (.cells #[.int .i64 ep,.slice Ap cs.length cp] 34));have P0:=ab (aI.new W 34 (.int .i64 ep) (.slice Ap cs.length cp));have CR:=ab (λW1 (hb:Below W.heap.size W W1)=>px ep cs (.slice Ap cs.length cp) lo W1 (h.below hb).bQ (h.below hb).lo_le);have HC:=ab h;have HP:=ab (λh=> @fh ep cs h);have HOk:=ab hok;clear h hok;cases hr:aO ep cs with
 | false=>
   have hx:=ab (show dS up ep cs tq us=(us,4) by unfold dS;rw[if_pos hr]);rw[hr]at CR;clear hr HP HOk
   go_enter Tryz.func26,Tryz.ntmps26
   go_wp2_with fail
   refine(CR.out _ B0.out).mono ?_;rintro en w1 ⟨rfl,hb⟩;have HB:=ab (B0.out.trans (hb.mono B0.out.size));clear hb
   go_wp2_with fail
   go_ret
   exact⟨by rw[hx.out]<;>rfl,by rw[hx.out];exact aU.refl HC.out.refs HB.out⟩
 | true=>
   have HR:=ab hr;have hp:=HP.out hr;have n1:=hp.2.2.1;have n3:=hp.2.2.2.1;have HIn:=ab hp.2.2.2.2.1;rw[hr]at CR;clear hr HP hp;cases q0:decide (tq < 0) with
   | true=>
     have hx:=ab (show dS up ep cs tq us=(us,1) by unfold dS;rw[if_neg (by rw[HR.out];decide),if_pos (.inl (by simpa using q0))])
     go_enter Tryz.func26,Tryz.ntmps26
     go_wp2_with fail
     refine(CR.out _ B0.out).mono ?_;rintro en w1 ⟨rfl,hb⟩;have HB:=ab (B0.out.trans (hb.mono B0.out.size));clear hb
     go_wp2_with fail
     go_ret
     exact⟨by rw[hx.out]<;>rfl,by rw[hx.out];exact aU.refl HC.out.refs HB.out⟩
   | false=>
   cases q1:decide (4096 < tq) with
   | true=>
     have hx:=ab (show dS up ep cs tq us=(us,1) by unfold dS;rw[if_neg (by rw[HR.out];decide),if_pos (.inr (by simpa using q1))])
     go_enter Tryz.func26,Tryz.ntmps26
     go_wp2_with fail
     refine(CR.out _ B0.out).mono ?_;rintro en w1 ⟨rfl,hb⟩;have HB:=ab (B0.out.trans (hb.mono B0.out.size));clear hb
     go_wp2_with fail
     go_ret
     exact⟨by rw[hx.out]<;>rfl,by rw[hx.out];exact aU.refl HC.out.refs HB.out⟩
   | false=>
     obtain⟨tz,rfl⟩:∃tz:Nat,tq=(tz:Int):=⟨tq.toNat,by simp at q0;omega⟩;have hto:tz<=4096:=by simp at q1;omega
     obtain⟨R,hR⟩:=aa (iz up ep cs.length tz us 0 cs);have hx:=ab (show dS up ep cs (tz:Int) us=R by unfold dS;rw[if_neg (by rw[HR.out];decide),if_neg (by omega),Int.toNat_natCast,hR]);have HOk:=ab (HOk.out HR.out (by omega) (by omega));rw[Int.toNat_natCast]at HOk;have HRx:=ab hR;clear hR
     go_enter Tryz.func26,Tryz.ntmps26
     go_wp2_with fail
     refine(CR.out _ B0.out).mono ?_;rintro en w1 ⟨rfl,hb⟩;have HB:=ab (B0.out.trans (hb.mono B0.out.size));obtain⟨hpl,hp0,hp1,_⟩:=(P0.out.below hb P0.out.lt).facts;have HPl:=ab hpl;have HC1:=ab (HC.out.below HB.out);have HFr:=ab (show ¬a9 H W.heap.size from λhk=>by have:=HC.out.refs.lt _ hk;omega);clear hb CR;obtain⟨N,hN⟩:=aa cs.length;have HN:=ab hN;have HGr:=ab (λ(wr:World) (us1:Nat->ah) (hs:aU w1 q H us1 wr)=>(show wr.cell? ⟨W.heap.size,0,none⟩=some (.int .i64 ep)/\wr.cell? ⟨W.heap.size,1,none⟩=some (.slice Ap N cp) from by obtain⟨_,_,_,g3⟩:=hs;refine⟨(g3.cell (p:=⟨W.heap.size,0,none⟩) HPl.out HFr.out).trans hp0,?_⟩;rw[<-HN.out];exact(g3.cell (p:=⟨W.heap.size,1,none⟩) HPl.out HFr.out).trans hp1));have HRow:=ab (λ(k:Nat) (hk:k < cs.length)=>(show ∃b o A2 c2,Ap=some ⟨b,o,none⟩/\b < lo/\w1.cell? ⟨b,o+k,none⟩=some (.slice A2 cs[k].length c2)/\Row w1 lo (.slice A2 cs[k].length c2) (az cs[k]) from by obtain⟨_,A,c,e,hcl⟩:=HC1.out.bQ.form;injection e with e1 e2 e3;subst e1;obtain⟨b,o,u,e,hb,hcu,hrow⟩:=hcl k hk;obtain⟨_,A2,c2,rfl,_⟩:=cF hrow;exact⟨b,o,A2,c2,e,hb,hcu,hrow⟩));have HS0:=ab (aU.refl HC1.out.refs (Below.refl _ _));rw[hN]at n1 n3 HOk HRx ⊢;have HOk0:=HOk;clear hp0 hp1 hN HOk;obtain⟨hp0,hp1⟩:=HGr.out w1 us HS0.out
     go_wp2_with fail
     clear hp0 hp1
     go_loopw [25] (λi wr=>∃ (k:Nat) (us1:Nat->ah),i= .int .i64 k/\k<=N/\Hid (iz up ep N tz us1 k (cs.drop k)=R)/\Hid (jb up ep N tz us1 k (cs.drop k))/\Hid (aU w1 q H us1 wr)) (λi _=>N - (intOf i).toNat)
     case atStart=>exact⟨0,us,rfl,Nat.zero_le _,HRx,HOk0,HS0⟩
     case round=>
      obtain⟨k,us1,rfl,hk,hf,ho,hs⟩:=hrel;by_cases hlt:k < N
      · have hlc:k < cs.length:=by rw[HN.out];exact hlt
        obtain⟨b1,o1,A2,c2,rfl,hb1,hcu,hrow⟩:=HRow.out k hlc;have hd:cs.drop k=cs[k] :: cs.drop (k+1):=List.drop_eq_getElem_cons hlc;have hfo:=hf.out;have hoo:=ho.out;rw[hd,uP]at hfo;rw[hd]at hoo;have HIk:=ab (HIn.out _ (List.getElem_mem hlc));obtain⟨l,hl⟩:=aa (cs[k]);rw[hl]at hfo hoo hcu hrow HIk;obtain⟨L,hL⟩:=aa l.length;rw[hL]at hcu;have HL:=ab hL;obtain⟨OC,hOC⟩:∃x,db N k tz=x:=⟨_,rfl⟩;rw[AE]at hoo;rw[hOC]at hfo hoo;obtain⟨T,hT⟩:=aa (dU up ep OC us1 l);have hTo:=hoo.2;rw[hT]at hfo hTo;have HT:=ab hT;have HFo:=ab hfo;have HOo1:=ab hoo.1;have HOo2:=ab hTo;clear hfo hoo hT hTo;have HRw:=ab hrow;have hcw:wr.cell? ⟨b1,o1+k,none⟩=some (.slice A2 L c2):=by obtain⟨_,_,_,g3⟩:=hs.out;exact(gm g3 HC1.out.bK HC1.out.lo_le b1 (o1+k) hb1).trans hcu
        obtain⟨hp0,hp1⟩:=HGr.out wr us1 hs.out;have i1:(k:Int) < (N:Int):=by omega
        have HOC:=ab hOC;have hOCl:OC<=4096:=by
         rw[<-hOC];unfold db;have:=Nat.div_le_self (tz - k+N - 1) N;have:(tz - k+N - 1) / N<=tz:=by rw[Nat.div_le_iff_le_mul_add_pred (by omega)];have:tz<=N * tz:=Nat.le_mul_of_pos_left _ (by omega);omega
         omega
        clear hd hl hL hrow hcu hOC ho hf
        go_wp2_with fail
        go_loopw [9] (λi wx=>∃o:Nat,i= .int .i64 o/\o<=OC/\wx=wr) (λi _=>OC - (intOf i).toNat)
        case atStart=>exact⟨0,rfl,Nat.zero_le _,rfl⟩
        case round=>
         obtain⟨o,rfl,hoc,rfl⟩:=hrel;have hst:=oP (n:=N) (c:=k) (tz:=tz) (by omega) (o:=o) (by rw[HOC.out];exact hoc);rw[HOC.out]at hst;obtain⟨x,hx1⟩:=aa (o * N);have hxl:x<=12288:=by rw[<-hx1];exact Nat.le_trans (Nat.mul_le_mul (Nat.le_trans hoc hOCl) n3) (by decide)
         have hxi:(o:Int) * (N:Int)=(x:Int):=by rw[<-hx1];push_cast;rfl
         rw[hx1]at hst;by_cases hlt2:x+k < tz
         · have hst1:=hst.1 hlt2;have q3:(x:Int)+(k:Int) < (tz:Int):=by omega
           clear hst hx1
           go_wp2_with fail
           go_roundw
           case rel=>exact⟨o+1,by go_num,by omega,trivial⟩
           case measure=>simp[intOf];omega
         · have hst2:=hst.2 hlt2;have q3:(tz:Int)<=(x:Int)+(k:Int):=by omega
           clear hst hx1;subst hst2;have i0:(0:Int)<=(o:Int):=by omega
           go_wp2_with fail
           clear q3 hxi hxl hoc hcw hp0 hp1
           go_loopw [43] (λi wx=>∃ (j:Nat) (us2:Nat->ah),i= .int .i64 j/\j<=L/\Hid (dU up ep o us2 (l.drop j)=T)/\Hid (kQ up ep o us2 (l.drop j))/\Hid (aU w1 q H us2 wx)) (λi _=>L - (intOf i).toNat)
           case atStart=>exact⟨0,us1,rfl,Nat.zero_le _,HT,HOo1,hs⟩
           case round=>
            clear hs;obtain⟨j,us2,rfl,hj,hf,ho,hs⟩:=hrel;by_cases hjl:j < L
            · have hjc:j < l.length:=by rw[HL.out];exact hjl
              have hd:l.drop j=l[j] :: l.drop (j+1):=List.drop_eq_getElem_cons hjc;have hfo:=hf.out;have hoo:=ho.out;rw[hd,pS]at hfo;rw[hd]at hoo;obtain⟨H2,hC2,g2,g3⟩:=HC1.out.step hs.out;have HC2:=ab hC2;obtain⟨_,A3,c3,e3,hcu⟩:=cF HRw.out;injection e3 with e31 e32 e33;subst e31 e33;obtain⟨b2,o2,rfl,hb2,hcj⟩:=hcu j hjc;have hcj:wr.cell? ⟨b2,o2+j,none⟩=some (.int .i64 l[j]):=(gm g3 HC1.out.bK HC1.out.lo_le b2 (o2+j) hb2).trans hcj;obtain⟨n,hn⟩:=aa (l[j]);rw[hn]at hfo hoo hcj;obtain⟨hp0,hp1⟩:=HGr.out wr us2 hs.out;have CU:=ab (lB up q n _ _ wr (hC2.rows wr (Kept.refl _ _)));have i2:(j:Int) < (L:Int):=by omega
              have HG2:=ab (λ(us3:Nat->ah) (W3:World) (h3:aU wr.drew q H2 us3 W3)=>aU.trans g2 g3 (aU.trans (W:=wr) (H:=H2) (λi k e=> .inl e) (Kept.an (Below.refl wr.heap.size wr).drew) h3));have HFf:=ab hfo;have HOo:=ab hoo;clear hfo hoo hd hcu hC2 g2 g3 hn hf ho hp1;cases hu:aL up n with
              | false=>
                have hT2:(us2,12)=T:=by rw[<-HFf.out,if_pos hu]
                have hRx:=ab (show R=(us2,12) by rw[<-HFo.out,<-hT2,if_pos (show(12:Nat)≠0 by decide)]);rw[hu]at CU;clear hu hT2
                go_wp2_with fail
                refine CU.out.mono ?_;rintro en w3 ⟨rfl,rfl⟩;clear CU
                go_wp2_with fail
                go_ret
                exact⟨by rw[hx.out,hRx.out]<;>rfl,by rw[hx.out,hRx.out];exact aU.trans (W:=W) (H:=H) (λi k e=> .inl e) (Kept.an HB.out) hs.out⟩
              | true=>
                have hff:=HFf.out;rw[if_neg (by simp[hu])]at hff;obtain⟨i,hni,hi,hcell⟩:=HC2.out.cell hu;subst hni;rw[Int.toNat_natCast]at hff;have hok:=HOo.out.1 hu;have hon:=HOo.out.2 hu;rw[Int.toNat_natCast]at hok hon;have CT:=((HC2.out.below (Below.refl wr.heap.size wr).drew).refs.un i hi).trim hok ep (o:Int);obtain⟨r,hr⟩:=aa (bS (us2 i) ep (o:Int));rw[hr]at CT hff hon;obtain⟨m,hm⟩:=aa r.2;rw[hm]at CT hff hon;have CT:=ab CT;have HFt:=ab hff;have HOn:=ab hon;have HI:=ab hi;have i6:(i:Int) < 6:=by omega
                have i00:(0:Int)<=(i:Int):=by omega
                have HU:=ab hu;have K1:=ab (And.intro hcell hp0);rw[hu]at CU;clear hu hff hon hok hr hm hcell hp0
                go_wp2_with fail
                refine CU.out.mono ?_;rintro en w3 ⟨rfl,rfl⟩;clear CU
                go_wp2_with fail
                go_region_held3 (λY=>Y.cell? ⟨b0,o0+i,none⟩=some (.pointer (some ⟨q i,0,none⟩))/\Y.cell? ⟨W.heap.size,0,none⟩=some (.int .i64 ep))
                 (first|exact K1.out|exact K2.out)
                 (first
                   | ((with_reducible refine CT.out.mono ?_);rintro en w3 ⟨rfl,hst⟩;have HS3:=ab (HG2.out _ _ ((HC2.out.below (Below.refl wr.heap.size wr).drew).refs.step HI.out hst));have K2:=ab (And.intro (wQ HC1.out HS3.out HU.out) (HGr.out _ _ HS3.out).1);clear hst))
                clear CT hcj K1 K2;cases q5:((m:Int) == 0) with
                | false=>
                  have hm0:m≠0:=by intro e;rw[e]at q5;exact absurd q5 (by decide)
                  have hT2:(bZ us2 i r.1,m)=T:=by rw[<-HFt.out,if_pos hm0]
                  have hRx:=ab (show R=(bZ us2 i r.1,m) by rw[<-HFo.out,<-hT2,if_pos hm0]);have q5':((m:Int) != 0)=true:=by unfold bne;rw[q5];rfl
                  clear hT2
                  go_wp2_with fail
                  go_ret
                  exact⟨by rw[hx.out,hRx.out]<;>rfl,by rw[hx.out,hRx.out];exact aU.trans (W:=W) (H:=H) (λi k e=> .inl e) (Kept.an HB.out) HS3.out⟩
                | true=>
                  have hm0:m=0:=by simp at q5;omega
                  have HT2:=ab (show dU up ep o (bZ us2 i r.1) (l.drop (j+1))=T by have:=HFt.out;rw[if_neg (by rw[hm0];decide)]at this;exact this);have HO2:=ab (HOn.out hm0);have q5':((m:Int) != 0)=false:=by unfold bne;rw[q5];rfl
                  clear hm0
                  go_wp2_with fail
                  go_roundw
                  case rel=>exact⟨j+1,_,by go_num,by omega,HT2,HO2,HS3⟩
                  case measure=>simp[intOf];omega
            · have hje:j=L:=by omega
              have hT2:(us2,0)=T:=by rw[<-hf.out,hje,<-HL.out,List.drop_length];rfl
              have HR2:=ab (show iz up ep N tz us2 (k+1) (cs.drop (k+1))=R by have:=HFo.out;rw[<-hT2,if_neg (show ¬(0:Nat)≠0 by decide)]at this;exact this);have HO2:=ab (show jb up ep N tz us2 (k+1) (cs.drop (k+1)) by have:=HOo2.out;rw[<-hT2]at this;exact this rfl);have i2:(L:Int)<=(j:Int):=by omega
              clear hT2 hje hf ho
              go_wp2_with fail
              go_roundw
              case rel=>exact⟨k+1,us2,by go_num,by omega,HR2,HO2,hs⟩
              case measure=>simp[intOf];omega
      · have hke:k=N:=by omega
        have hRx:=ab (show R=(us1,0) by rw[<-hf.out,hke,<-HN.out,List.drop_length];rfl);have i2:(N:Int)<=(k:Int):=by omega
        clear hke hf ho
        go_wp2_with fail
        go_ret
        exact⟨by rw[hx.out,hRx.out]<;>rfl,by rw[hx.out,hRx.out];exact aU.trans (W:=W) (H:=H) (λi k e=> .inl e) (Kept.an HB.out) hs.out⟩
end
end Go.Proofs.YtiafamacjpgjoaaGreatDoor
namespace Go.Proofs.YtiafamacjpgjoaaGreatDoor
open Go Go.RowKit Tide
def ez (us:Nat->ah) (l:List Int):Int:=((max (us (l.headD 0).toNat).top (us (l.headD 0).toNat).trimmed:Nat):Int)
def eW (up:Nat->Bool) (ep:Int) (cs:List (List Int)) (us:Nat->ah):Int × Nat:=
 if aO ep cs=false then(0,4) else if cs.all (λl=>aL up (l.headD 0))=true then(cO ep cs (cs.map (ez us)) cs.length,0) else(0,12)
section
variable {W W':World} {lo:Nat} {q:Nat->Nat} {H:Nat->Nat->Prop} {us us':Nat->ah} {up:Nat->Bool} {v vp:Value} {cs:List (List Int)} {Ap:Option Addr} {cp b0 o0 c0:Nat}
theorem Df (h:dZ W lo q H us up (.slice (some ⟨b0,o0,none⟩) 6 c0) (.slice Ap cs.length cp) cs) (ep:Int):
 Calls Tryz.prog 28 #[.slice (some ⟨b0,o0,none⟩) 6 c0,cA ep (.slice Ap cs.length cp)] W λe w'=>e= .returned (.tuple #[.int .i64 (eW up ep cs us).1,.int .i64 ((eW up ep cs us).2:Nat)])/\Below W.heap.size W w':=by
 have B0:=ab ((Below.refl W.heap.size W).alloc (Nat.le_refl _) (.cells #[.int .i64 ep,.slice Ap cs.length cp] 34));have P0:=ab (aI.new W 34 (.int .i64 ep) (.slice Ap cs.length cp));have CR:=ab (λW1 (hb:Below W.heap.size W W1)=>px ep cs (.slice Ap cs.length cp) lo W1 (h.below hb).bQ (h.below hb).lo_le);have HC:=ab h;have HP:=ab (λh=> @fh ep cs h);clear h;cases hr:aO ep cs with
 | false=>
   have hx:=ab (show eW up ep cs us=(0,4) by unfold eW;rw[if_pos hr]);rw[hr]at CR;clear hr HP
   go_enter Tryz.func28,Tryz.ntmps28
   go_wp2_with fail
   refine(CR.out _ B0.out).mono ?_;rintro en w1 ⟨rfl,hb⟩;have HB:=ab (B0.out.trans (hb.mono B0.out.size));clear hb
   go_wp2_with fail
   go_ret2
   exact⟨by rw[hx.out]<;>rfl,HB.out⟩
 | true=>
   have HR:=ab hr;have hp:=HP.out hr;have n1:=hp.2.2.1;have n3:=hp.2.2.2.1;have HIn:=ab hp.2.2.2.2.1;rw[hr]at CR;clear hr HP hp
   go_enter Tryz.func28,Tryz.ntmps28
   go_wp2_with fail
   refine(CR.out _ B0.out).mono ?_;rintro en w1 ⟨rfl,hb⟩;have HB:=ab (B0.out.trans (hb.mono B0.out.size));obtain⟨hpl,hp0,hp1,_⟩:=(P0.out.below hb P0.out.lt).facts;have HPl:=ab hpl;have HC1:=ab (HC.out.below HB.out);clear hb CR;have HRow:=ab (λ(k:Nat) (hk:k < cs.length)=>(show ∃b o A2 c2,Ap=some ⟨b,o,none⟩/\b < lo/\w1.cell? ⟨b,o+k,none⟩=some (.slice A2 cs[k].length c2)/\Row w1 lo (.slice A2 cs[k].length c2) (az cs[k]) from by obtain⟨_,A,c,e,hcl⟩:=HC1.out.bQ.form;injection e with e1 e2 e3;subst e1;obtain⟨b,o,u,e,hb,hcu,hrow⟩:=hcl k hk;obtain⟨_,A2,c2,rfl,_⟩:=cF hrow;exact⟨b,o,A2,c2,e,hb,hcu,hrow⟩));have HAll:=ab (show cs.all (λl=>aL up (l.headD 0))=true->eW up ep cs us=(cO ep cs (cs.map (ez us)) cs.length,0) from λh=>by unfold eW;rw[if_neg (by rw[HR.out];decide),if_pos h]);have HDn:=ab (show ∀k (hk:k < cs.length),aL up (cs[k].headD 0)=false->eW up ep cs us=(0,12) from λk hk h=>by unfold eW;rw[if_neg (by rw[HR.out];decide),if_neg];intro ha;have:=List.all_eq_true.1 ha _ (List.getElem_mem hk);rw[h]at this;exact absurd this (by decide));have HP0:=ab (And.intro hp0 hp1);have O0:=ab (Own.new w1 w1.heap.size (Nat.le_refl _) w1.heap.size rfl);have BA:=ab ((Below.refl w1.heap.size w1).alloc (Nat.le_refl _) (.cells #[] 3))
   go_wp2_with fail
   clear hp0 hp1
   go_loopw [6,16] (λsv i wr=>∃k:Nat,i= .int .i64 k/\k<=cs.length/\Hid ((cs.take k).all (λl=>aL up (l.headD 0))=true)/\Hid (Own wr w1.heap.size sv ((cs.take k).map (ez us)))/\Hid (Below w1.heap.size w1 wr)) (λ_ i _=>cs.length - (intOf i).toNat)
   case atStart=>exact⟨0,rfl,Nat.zero_le _,ab rfl,O0,BA⟩
   case round=>
    obtain⟨k,rfl,hk,hA,hO,hBr⟩:=hrel;by_cases hlt:k < cs.length
    · obtain⟨b1,o1,A2,c2,rfl,hb1,hcu,hrow⟩:=HRow.out k hlt;have HIk:=ab (HIn.out _ (List.getElem_mem hlt)).1;have HTk:=ab (show(cs.take (k+1)).map (ez us)=(cs.take k).map (ez us) ++ [ez us cs[k]] by rw[List.take_succ_eq_append_getElem hlt,List.map_append];rfl);have HTa:=ab (show aL up (cs[k].headD 0)=true->(cs.take (k+1)).all (λl=>aL up (l.headD 0))=true from λh=>by rw[List.take_succ_eq_append_getElem hlt,List.all_append,hA.out];simpa using h);have HDk:=ab (HDn.out k hlt);have hcw:=(hBr.out.cell (p:=⟨b1,o1+k,none⟩) (Nat.lt_of_lt_of_le hb1 HC1.out.lo_le)).trans hcu;have i1:(k:Int) < (cs.length:Int):=by omega
      obtain⟨l,hl⟩:=aa (cs[k]);rw[hl]at hrow hcw HIk HTk HTa HDk;obtain⟨n0,hn0⟩:∃n,l.headD 0=n:=⟨_,rfl⟩;have hti:ez us l=((max (us n0.toNat).top (us n0.toNat).trimmed:Nat):Int):=by unfold ez;rw[hn0]
      rw[hn0]at HTa HDk;have h0:0 < l.length:=HIk.out;have hl0:l[0]=n0:=by rw[<-hn0,List.headD_eq_head?_getD,List.head?_eq_getElem?,List.getElem?_eq_getElem h0];rfl
      obtain⟨_,A3,c3,e3,hcu2⟩:=cF hrow;injection e3 with e31 e32 e33;subst e31 e33;obtain⟨b2,o2,rfl,hb2,hcj⟩:=hcu2 0 h0;rw[hl0]at hcj;have hcj:wr.cell? ⟨b2,o2,none⟩=some (.int .i64 n0):=(hBr.out.cell (p:=⟨b2,o2,none⟩) (Nat.lt_of_lt_of_le hb2 HC1.out.lo_le)).trans hcj;have hC2:=HC1.out.below hBr.out;have HC2:=ab hC2;have CU:=ab (lB up q n0 _ _ wr (hC2.rows wr (Kept.refl _ _)));have i2:(0:Int) < (l.length:Int):=by omega
      have HTi:=ab hti;have HLn:=ab (show((cs.take k).map (ez us)).length<=1000000 by rw[List.length_map,List.length_take];omega);clear hcu hcu2 hrow hl hn0 hti hl0 hC2 h0;cases hu:aL up n0 with
      | false=>
        have hRx:=ab (HDk.out hu);rw[hu]at CU;clear hu
        go_wp2_with fail
        refine CU.out.mono ?_;rintro en w3 ⟨rfl,rfl⟩;clear CU
        go_wp2_with fail
        go_ret2
        exact⟨by rw[hRx.out]<;>rfl,HB.out.trans (hBr.out.mono HB.out.size)⟩
      | true=>
        have HA2:=ab (HTa.out hu);obtain⟨i,hni,hi,hcell⟩:=HC2.out.cell hu;subst hni;rw[Int.toNat_natCast]at HTi;have CT:=ab (HC2.out.refs.un i hi).tail;obtain⟨x,hx⟩:=aa (max (us i).top (us i).trimmed);rw[hx]at CT HTi;have i6:(i:Int) < 6:=by omega
        have i00:(0:Int)<=(i:Int):=by omega
        rw[hu]at CU;clear hu hx
        go_wp2_with fail
        refine CU.out.mono ?_;rintro en w3 ⟨rfl,rfl⟩;clear CU
        go_wp2_with fail
        refine CT.out.mono ?_;rintro en w3 ⟨rfl,hb3⟩;have B3:=ab (hBr.out.trans (hb3.mono hBr.out.size));have O3:=ab (hO.out.below hb3);clear CT hb3 hcell hcj hcw hO
        go_wp2_with (at_builtin;refine qf rfl (.tmp 26) (.tmp 34) rfl (x:Int) rfl rfl O3.out HLn.out B3.out.size ?_)
        intro v9 w9 h1 _ h3;have O9:=ab h1;have B9:=ab (B3.out.trans h3);clear h1 h3
        go_wp2_with fail
        go_roundw
        case rel=>exact⟨k+1,by go_num,by omega,HA2,ab (by rw[HTk.out,HTi.out,List.map_take];exact O9.out),B9⟩
        case measure=>simp[intOf];omega
    · have hTk:cs.take k=cs:=List.take_of_length_le (by omega);rw[hTk]at hA hO;have hx:=ab (HAll.out hA.out);have i2:(cs.length:Int)<=(k:Int):=by omega
      have hgr:=HC1.out.bQ.below (hBr.out.mono HC1.out.lo_le);have CT:=ab (Da ep cs (cs.map (ez us)) (.slice Ap cs.length cp) u6 wr.heap.size wr (hgr.more (Nat.le_trans HC1.out.lo_le hBr.out.size)) hO.out.row (Nat.le_refl _) HR.out (by rw[List.length_map];omega));rw[List.length_map]at CT;have hp0:=(hBr.out.cell (p:=⟨W.heap.size,0,none⟩) HPl.out).trans HP0.out.1;have hp1:=(hBr.out.cell (p:=⟨W.heap.size,1,none⟩) HPl.out).trans HP0.out.2;clear hTk hgr
      go_wp2_with fail
      refine CT.out.mono ?_;rintro en w3 ⟨rfl,hb3⟩;have HB3:=ab (HB.out.trans ((hBr.out.trans (hb3.mono hBr.out.size)).mono HB.out.size));clear hb3 CT
      go_wp2_with fail
      go_ret2
      exact⟨by rw[hx.out]<;>rfl,HB3.out⟩
end
end Go.Proofs.YtiafamacjpgjoaaGreatDoor
namespace Go.Proofs.YtiafamacjpgjoaaGreatDoor
open Go.RowKit Tide
def gH:Nat->Bool:=λ_=>true
section
variable {ep:Int} {cs:List (List Int)} {us:Nat->ah}
end
end Go.Proofs.YtiafamacjpgjoaaGreatDoor
namespace Go.Proofs.YtiafamacjpgjoaaGreatDoor
open Go.RowKit Tide
def jc (up:Nat->Bool) (us:Nat->ah):Prop:=∀n:Int,aL up n=true->dp (us n.toNat)
theorem lq (up:Nat->Bool) (ep at':Int) (b:List UInt8):∀ (l:List Int) (us:Nat->ah) (k:Nat),l.Nodup->(∀n ∈ l,aL up n=true->dp (us n.toNat))->fo up ep at' b us k l
 | [],_,_,_,_=>trivial
 | n :: l,us,k,hn,ho=>by
   rw[List.nodup_cons]at hn;refine⟨ho n (List.mem_cons_self ..),λ_=>lq up ep at' b l _ _ hn.2 λm hm hu=> ?_⟩;have h1:=ho m (List.mem_cons_of_mem _ hm) hu;have hu0:=gC hu;unfold bg;split
   · exact h1
   split
   · rename_i h2 _;have h2:aL up n=true:=by
      cases h:aL up n with
      | true=>rfl
      | false=>exact absurd h h2
     have hn0:=gC h2;show dp (bZ us n.toNat _ m.toNat)
     rw[iU _ _ (by intro e;have:m=n:=by omega
                   subst this;exact hn.1 hm)]
     exact h1
   · exact h1
theorem tH (up:Nat->Bool) (ep at':Int) (b:List UInt8) (us:Nat->ah) (n:Int) (first:Bool) {m:Int} (hm:aL up m=true) (hne:m≠n):(bg up ep at' b us n first).1 m.toNat=us m.toNat:=by
 have hm0:=gC hm;unfold bg;split
 · rfl
 split
 · rename_i h2 _;have h2:aL up n=true:=by
    cases h:aL up n with
    | true=>rfl
    | false=>exact absurd h h2
   have hn0:=gC h2;show bZ us n.toNat _ m.toNat=_;rw[iU _ _ (by omega)]
 · rfl
theorem s4 (up:Nat->Bool) (ep own:Int):∀ (l:List Int) (us:Nat->ah),l.Nodup->(∀n ∈ l,aL up n=true->dp (us n.toNat))->kQ up ep own us l
 | [],_,_,_=>trivial
 | n :: l,us,hn,ho=>by
   rw[List.nodup_cons]at hn;refine⟨ho n (List.mem_cons_self ..),λh2 _=>s4 up ep own l _ hn.2 λm hm hu=> ?_⟩;have h1:=ho m (List.mem_cons_of_mem _ hm) hu;have hu0:=gC hu;have hn0:=gC h2
   rw[iU _ _ (by intro e;have:m=n:=by omega
                 subst this;exact hn.1 hm)]
   exact h1
theorem uR (up:Nat->Bool) (ep own:Int):∀ (l:List Int) (us:Nat->ah) {m:Int},aL up m=true->m ∉ l->(dU up ep own us l).1 m.toNat=us m.toNat
 | [],_,_,_,_=>rfl
 | n :: l,us,m,hm,hl=>by
   have hm0:=gC hm;rw[List.mem_cons]at hl;rw[pS];split
   · rfl
   rename_i h2;have h2:aL up n=true:=by
    cases h:aL up n with
    | true=>rfl
    | false=>exact absurd h h2
   have hn0:=gC h2;split
   · show bZ us n.toNat _ m.toNat=_;rw[iU _ _ (by intro e;exact hl (.inl (by omega)))]
   · rw[uR up ep own l _ hm (λh=>hl (.inr h)),iU _ _ (by intro e;exact hl (.inl (by omega)))]
theorem sZ (up:Nat->Bool) (ep:Int) (n tz:Nat):∀ (cs:List (List Int)) (us:Nat->ah) (c:Nat),cs.flatten.Nodup->(∀n ∈ cs.flatten,aL up n=true->dp (us n.toNat))->jb up ep n tz us c cs
 | [],_,_,_,_=>trivial
 | l :: cs,us,c,hn,ho=>by rw[List.flatten_cons,List.nodup_append]at hn;refine⟨s4 up ep _ l us hn.1 λm hm hu=>ho m (by rw[List.flatten_cons];exact List.mem_append_left _ hm) hu,λ_=>sZ up ep n tz cs _ _ hn.2.1 λm hm hu=> ?_⟩;rw[uR up ep _ l us hu (λh=>hn.2.2 m h m hm rfl)];exact ho m (by rw[List.flatten_cons];exact List.mem_append_right _ hm) hu
section
variable {up:Nat->Bool} {us:Nat->ah} {ep q:Int} {cs:List (List Int)}
theorem pn (h:bA ep cs q=0):aO ep cs=true:=by
 unfold bA at h;cases hr:aO ep cs with
 | true=>rfl
 | false=>rw[hr]at h;exact absurd h (by simp)
theorem nJ (h:aO ep cs=true) (q:Int):(bx cs q).Nodup:=by obtain⟨_,_,h1,_,_,_,h7⟩:=fh h;have hk:q.toNat % cs.length < cs.length:=Nat.mod_lt _ (by omega);rw[mj hk rfl];unfold List.Nodup at h7;rw[List.pairwise_flatten]at h7;exact h7.1 _ (List.getElem_mem hk)
theorem AK (h:jc up us) (he:bA ep cs q=0) (b:List UInt8) (at':Int) (k:Nat):fo up ep at' b us k (bx cs q):=lq up ep at' b _ us k (nJ (pn he) q) λn _ hu=>h n hu
theorem AF (h:jc up us) (he:bA ep cs q=0) (b:List UInt8) (at':Int) (k:Nat):fo up ep at' b us k ((bx cs q).drop 1):=
 lq up ep at' b _ us k ((nJ (pn he) q).sublist (List.drop_sublist _ _)) λn _ hu=>h n hu
theorem AG (h:jc up us) (he:bA ep cs q=0) (at':Int):fo up ep at' (dt up ep at' us (bx cs q)).2.1 (dt up ep at' us (bx cs q)).1 1 ((bx cs q).drop 1):=by
 have hn:=nJ (pn he) q;have hl:=(jL he).1;refine lq up ep at' _ _ _ _ (hn.sublist (List.drop_sublist _ _)) λm hm hu=> ?_;have hne:m≠(bx cs q).headD 0:=by
  revert hm hn hl;generalize bx cs q=c;intro hn hl hm;cases c with
  | nil=>simp at hl
  | cons x c=>rw[List.nodup_cons]at hn;intro e;have e:m=x:=e;subst e;exact hn.1 hm
 unfold dt;split
 · show dp ((bg up ep at' [0] us _ true).1 m.toNat);rw[tH up ep at' _ us _ true hu hne];exact h m hu
 · show dp ((bg up ep at' [0] us _ true).1 m.toNat);rw[tH up ep at' _ us _ true hu hne];exact h m hu
theorem AJ (h:jc up us) (hr:aO ep cs=true) (tz:Nat):jb up ep cs.length tz us 0 cs:=sZ up ep _ tz cs us 0 (fh hr).2.2.2.2.2.2 λn _ hu=>h n hu
theorem rM (hr:aO ep cs=true):(cs.headD []).Nodup/\1<=(cs.headD []).length/\(cs.headD []).length<=3:=by
 obtain⟨_,_,h1,_,h5,_,h7⟩:=fh hr;cases cs with
 | nil=>simp at h1
 | cons c cs=>rw[List.flatten_cons,List.nodup_append]at h7;exact⟨h7.1,h5 c (List.mem_cons_self ..)⟩
theorem AI (h:jc up us) (hr:aO ep cs=true) (b:List UInt8) (at':Int):fo up ep at' b us 1 ((cs.headD []).drop 1):=
 lq up ep at' b _ us 1 ((rM hr).1.sublist (List.drop_sublist _ _)) λn _ hu=>h n hu
end
end Go.Proofs.YtiafamacjpgjoaaGreatDoor
namespace Go.Proofs.YtiafamacjpgjoaaGreatDoor
open Go Go.RowKit Go.Shelf Tide
theorem mS (W:World) (k:Nat):Below W.heap.size W (gz W k)/\(gz W k).heap.size=W.heap.size+2:=by have hb1:=(Below.refl W.heap.size W).alloc (Nat.le_refl _) (.cells #[.int .i64 (k:Int),.slice none 0 0] 145);exact⟨hb1.alloc (by rw[World.size_alloc];omega) _,by unfold gz;rw[World.size_alloc,World.size_alloc]⟩
theorem Ct (W:World) (k:Nat):eF (gz W k) (λj=>j=W.heap.size\/j=W.heap.size+1) (W.heap.size+1) ⟨⟨k, []⟩, [],0,0,0⟩:=by
 have hz:=(mS W k).2;have h0:(gz W k).heap[W.heap.size+1]? =some (.cells #[.pointer (some ⟨W.heap.size,0,none⟩),.slice none 0 0,.slice none 0 0,.slice none 0 0,.int .i64 0,.int .i64 0,.int .i64 0] 119 (0,0)):=by have:=heap_alloc_new (W.alloc (.cells #[.int .i64 (k:Int),.slice none 0 0] 145)) (.cells #[.pointer (some ⟨W.heap.size,0,none⟩),.slice none 0 0,.slice none 0 0,.slice none 0 0,.int .i64 0,.int .i64 0,.int .i64 0] 119);rw[World.size_alloc]at this;exact this
 have hnil:∀ (e:TypeId),(gz W k).ownsRow 0 e 1 (.slice none 0 0) 0 []:=λe=>World.ownsRow_nil _ 0 e 1;have hst:bC (gz W k) (λb=>b=W.heap.size) (λ_=>False) W.heap.size k [] (.slice none 0 0):=by
  refine { block:=(aI.new W _ _ _).alloc _,ae:=⟨rfl,.inl ⟨rfl,rfl⟩⟩,rows:=(λg hg=>by cases hg),fp:=⟨rfl,(λk e=>by cases e)⟩,lt:=λk hk=> ?_,apart:=List.Pairwise.nil };rw[hz];rcases hk with hk|hk
  · omega
  · exact hk.elim
 have hm:∀j,dW (W.heap.size+1) (.slice none 0 0) (.slice none 0 0) (.slice none 0 0) j->j=W.heap.size+1:=λj hj=>by
  rcases hj with e|e|e|e
  · exact e
  · cases e
  · cases e
  · cases e
 have hr:bT (gz W k) (λb=>b=W.heap.size) (λ_=>False) (W.heap.size+1) W.heap.size (.slice none 0 0) (.slice none 0 0) (.slice none 0 0) [] ⟨⟨k, []⟩, [],0,0,0⟩:= {
  cells:=h0
  store:=⟨[],_,rfl,hst⟩
  fH:=hnil _
  aD:=hnil _
  ins:=hnil _
  bytes:=⟨rfl,λi u b hu _=>by simp at hu⟩
  two:=λj e=>by cases e
  bF:=λj hj=>⟨by have:=hm j hj;omega,λh=>h,by have:=hm j hj;omega⟩
  apart:=λ_ _ h=>h
  lt:=λj hj=>by
   rcases hj with e|e
   · omega
   · exact e.elim }
 refine⟨⟨λj=>j=W.heap.size\/j=W.heap.size+1,λ_=>False,⟨_,_,_,_,_,_,hr,λj=>⟨λe=>e.imp id (hm j),λe=>e.imp id (λe=> .inl e)⟩⟩,λj hj=> ?_⟩,λj hj=>by omega⟩;rcases hj with e|e
 · exact e
 · exact e.elim
section
variable {D:aB} {a:Nat->Addr} {w W:World}
theorem Es (hD:ay (three a) D) (hb:Below w.heap.size w W) (k:Nat) (hk:1<=k) (hk2:k<=5):
 Calls Tryz.prog 41 #[.int .i64 ((64 * k:Nat):Int)] W λe w'=>∃dev,e= .returned (.tuple #[.pointer (some ⟨dev,0,none⟩),.nilIface])/\UO D w (iF W (λ_=>False)) (jA W (λ_=>False)) dev (64 * k) 0 ⟨⟨k, []⟩, [],0,0,0⟩ w':=
 UO.new hD (jR W _) (ua W _) (λ_ h=>h.1) hb k hk hk2
theorem Et (hD:ay (three a) D) (hE:av w a) (hb:Below w.heap.size w W) {dev k:Nat} {W1:World} (hk:1<=k) (hk2:k<=5) (h:UO D w (iF W (λ_=>False)) (jA W (λ_=>False)) dev (64 * k) 0 ⟨⟨k, []⟩, [],0,0,0⟩ W1):
 Calls Tryz.prog 42 #[.pointer (some ⟨dev,0,none⟩)] W1 λe w'=>∃g F,e= .returned (.tuple #[.pointer (some ⟨g,0,none⟩),.nilIface])/\c8 D w w' F g (64 * k) 0 ⟨⟨k, []⟩, [],0,0,0⟩/\(∀j,F j->W.heap.size<=j)/\Below W.heap.size W w':=by
 refine(h.open hD (jR W _) hE (by omega) (by omega) (by omega)).mono ?_;rintro e w' ⟨g,p,bm,rfl,hU⟩;obtain⟨F,h1,h2,h3⟩:=hU.nj hb (λ_ h=>h.elim);exact⟨g,F,rfl,h1,λj hj=>(h2 j hj).elim (λh=>h.elim) id,⟨h3.os,h3.tape,h3.output,h3.size,λj hj=>h3.block j hj (λh=>h)⟩⟩
end
end Go.Proofs.YtiafamacjpgjoaaGreatDoor
namespace Go.Proofs.YtiafamacjpgjoaaGreatDoor
open Go Go.RowKit Go.Shelf Tide
def bI:ah:=⟨⟨2, []⟩, [],0,0,0⟩
def kA (F:Nat->Nat->Prop) (n:Nat) (G:Nat->Prop):Nat->Nat->Prop:=λi=>if i=n then G else F i
theorem fB (F:Nat->Nat->Prop) (n:Nat) (G:Nat->Prop):kA F n G n=G:=by simp[kA]
theorem eV (F:Nat->Nat->Prop) {n i:Nat} (G:Nat->Prop) (h:i≠n):kA F n G i=F i:=by simp[kA,h]
structure iD (D:aB) (w W0 W:World) (gs qs:List Nat) (F H:Nat->Nat->Prop) (v u:Value):Prop where
 len:qs.length=gs.length
 un:∀i (hi:i < gs.length),c8 D w W (F i) gs[i] 128 0 bI
 re:∀i (hi:i < qs.length),eF W (H i) qs[i] bI
 kU:∀i j,i < gs.length->j < gs.length->i≠j->∀k,F i k->¬F j k
 lU:∀i j,i < gs.length->j < gs.length->i≠j->∀k,H i k->¬H j k
 lV:∀i j,i < gs.length->j < gs.length->∀k,F i k->¬H j k
 iW:dL W W0.heap.size v gs
 iT:dK W W0.heap.size u qs
 iB:∀k,v.ownBlock=some k->u.ownBlock≠some k/\∀i,i < gs.length->¬F i k/\¬H i k
 kK:∀k,u.ownBlock=some k->∀i,i < gs.length->¬F i k/\¬H i k
 lo:∀i,i < gs.length->∀k,F i k\/H i k->W0.heap.size<=k
 be:Below W0.heap.size W0 W
section
variable {D:aB} {x:Nat->Addr} {w W0 W W2 W3 W5:World} {gs qs:List Nat} {F H:Nat->Nat->Prop} {v u v3 u5:Value} {g:Nat} {F':Nat->Prop}
theorem mF {T:TypeId} {b n m:Nat} {xs:List Value} (h:W.ownsRow b T m v n xs):∀k,v.ownBlock=some k->b<=k/\k < W.heap.size:=ij h
theorem iD.step (hD:ay x D) (hw:w.heap.size<=W0.heap.size) (h:iD D w W0 W gs qs F H v u) (h1:c8 D w W2 F' g 128 0 bI) (hF:∀j,F' j->W.heap.size<=j) (b1:Below W.heap.size W W2)
 (o3:dL W3 W0.heap.size v3 (gs ++ [g])) (k3:Kept (λk=>v.ownBlock=some k) W2 W3) (p3:v3.ownBlock=v.ownBlock\/∃k,v3.ownBlock=some k/\W2.heap.size<=k)
 (o5:dK W5 W0.heap.size u5 (qs ++ [W3.heap.size+1])) (k5:Kept (λk=>u.ownBlock=some k) (gz W3 2) W5) (p5:u5.ownBlock=u.ownBlock\/∃k,u5.ownBlock=some k/\(gz W3 2).heap.size<=k):
 iD D w W0 W5 (gs ++ [g]) (qs ++ [W3.heap.size+1]) (kA F gs.length F') (kA H gs.length (λj=>j=W3.heap.size\/j=W3.heap.size+1)) v3 u5:=by
 obtain⟨b4,z4⟩:=mS W3 2;have zv:=mF h.iW;have zu:=mF h.iT;have zK:∀k,v.ownBlock=some k\/u.ownBlock=some k->W0.heap.size<=k/\k < W.heap.size:=λk e=>e.elim (zv k) (zu k);have z1:=b1.size;have z3:=k3.size;have z5:=k5.size;have zl:=h.len;have hFl:∀i,i < gs.length->∀k,F i k->k < W.heap.size:=λi hi k hk=>((h.un i hi).2 k hk).2;have hHl:∀i,i < gs.length->∀k,H i k->k < W.heap.size:=λi hi k hk=>(h.re i (by omega)).2 k hk;have k35:Kept (λk=>u.ownBlock=some k) W3 W5:=(Kept.an b4 (F:=λk=>u.ownBlock=some k)).trans k5 (λ_ e=> .inl e);have k25:Kept (λk=>v.ownBlock=some k\/u.ownBlock=some k) W2 W5:=(k3.mono (λ_ _ e=> .inl e)).trans (k35.mono (λ_ _ e=> .inr e)) (λ_ e=> .inl e);have k15:Kept (λk=>v.ownBlock=some k\/u.ownBlock=some k) W W5:=(Kept.an b1 (F:=λk=>v.ownBlock=some k\/u.ownBlock=some k)).trans k25 (λ_ e=> .inl e);have hne:∀i,i < (gs ++ [g]).length->i≠gs.length->i < gs.length:=λi hi hn=>by rw[List.length_append,List.length_singleton]at hi;omega
 refine { len:=by rw[List.length_append,List.length_append,zl];rfl,un:=λi hi=> ?_,re:=λi hi=> ?_,kU:=λi j hi hj hn k hk=> ?_,lU:=λi j hi hj hn k hk=> ?_,lV:=λi j hi hj k hk=> ?_,iW:=o3.kept k35 (λk e e2=> ?_),iT:=o5,iB:=λk e=>⟨λe2=> ?_,λi hi=> ?_⟩,kK:=λk e i hi=> ?_,lo:=λi hi k hk=> ?_,be:=h.be.trans ⟨k15.os,k15.tape,k15.output,k15.size,λk hk=> ?_⟩ }
 · by_cases hn:i=gs.length
   · subst hn;rw[fB,List.getElem_append_right (Nat.le_refl _)];simp only[Nat.sub_self,List.getElem_cons_zero];exact h1.kept hD k25 (λk e=>⟨λhf=>by have:=hF k hf;have:=(zK k e).2;omega,by have:=(zK k e).1;omega⟩)
   · have hi':=hne i hi hn;rw[eV _ _ hn,List.getElem_append_left hi'];exact(h.un i hi').kept hD k15 (λk e=>⟨λhf=>by
      rcases e with e|e
      · exact((h.iB k e).2 i hi').1 hf
      · exact(h.kK k e i hi').1 hf,by have:=(zK k e).1;omega⟩)
 · by_cases hn:i=gs.length
   · subst hn;rw[fB,List.getElem_append_right (by omega)];simp only[zl,Nat.sub_self,List.getElem_cons_zero];exact(Ct W3 2).kept k5 (λk hk e=>by have:=(zu k e).2;omega)
   · have hi':i < gs.length:=by rw[List.length_append,List.length_singleton]at hi;omega
     rw[eV _ _ hn,List.getElem_append_left (by omega)];exact(h.re i (by omega)).kept k15 (λk hf e=>by
      rcases e with e|e
      · exact((h.iB k e).2 i hi').2 hf
      · exact(h.kK k e i hi').2 hf)
 · by_cases hni:i=gs.length
   · subst hni;have hj':=hne j hj (λe=>hn e.symm);rw[fB]at hk;rw[eV _ _ (λe=>hn e.symm)];intro e;have:=hF k hk;have:=hFl j hj' k e;omega
   · have hi':=hne i hi hni;rw[eV _ _ hni]at hk;by_cases hnj:j=gs.length
     · subst hnj;rw[fB];intro e;have:=hF k e;have:=hFl i hi' k hk;omega
     · rw[eV _ _ hnj];exact h.kU i j hi' (hne j hj hnj) hn k hk
 · by_cases hni:i=gs.length
   · subst hni;have hj':=hne j hj (λe=>hn e.symm);rw[fB]at hk;rw[eV _ _ (λe=>hn e.symm)];intro e;have:=hHl j hj' k e;omega
   · have hi':=hne i hi hni;rw[eV _ _ hni]at hk;by_cases hnj:j=gs.length
     · subst hnj;rw[fB];intro e;have:=hHl i hi' k hk;omega
     · rw[eV _ _ hnj];exact h.lU i j hi' (hne j hj hnj) hn k hk
 · by_cases hni:i=gs.length
   · subst hni;rw[fB]at hk;have h2:=(h1.2 k hk).2;have h3:=hF k hk;by_cases hnj:j=gs.length
     · subst hnj;rw[fB];intro e;omega
     · rw[eV _ _ hnj];intro e;have:=hHl j (hne j hj hnj) k e;omega
   · have hi':=hne i hi hni;rw[eV _ _ hni]at hk;have h2:=hFl i hi' k hk;by_cases hnj:j=gs.length
     · subst hnj;rw[fB];intro e;omega
     · rw[eV _ _ hnj];exact h.lV i j hi' (hne j hj hnj) k hk
 · rcases p3 with p|⟨k',p,hk'⟩
   · rw[p]at e;exact(h.iB k e).1 e2
   · rw[p]at e;injection e with e;have:=(zu k e2).2;omega
 · have z9:=(mF o3 k e).2;rcases p3 with p|⟨k',p,hk'⟩
   · rw[p]at e;rcases p5 with p|⟨k5',p,hk5⟩
     · rw[p]at e2;exact(h.iB k e).1 e2
     · rw[p]at e2;injection e2 with e2;have:=(zv k e).2;omega
   · rw[p]at e;injection e with e;rcases p5 with p|⟨k5',p,hk5⟩
     · rw[p]at e2;have:=(zu k e2).2;omega
     · rw[p]at e2;injection e2 with e2;omega
 · have zk:=mF o3 k e;by_cases hn:i=gs.length
   · subst hn;rw[fB,fB];rcases p3 with p|⟨k',p,hk'⟩
     · rw[p]at e;have:=(zv k e).2;exact⟨λhf=>by have:=hF k hf;omega,λhf=>by omega⟩
     · rw[p]at e;injection e with e;exact⟨λhf=>by have:=(h1.2 k hf).2;omega,λhf=>by omega⟩
   · have hi':=hne i hi hn;rw[eV _ _ hn,eV _ _ hn];rcases p3 with p|⟨k',p,hk'⟩
     · rw[p]at e;exact(h.iB k e).2 i hi'
     · rw[p]at e;injection e with e;exact⟨λhf=>by have:=hFl i hi' k hf;omega,λhf=>by have:=hHl i hi' k hf;omega⟩
 · by_cases hn:i=gs.length
   · subst hn;rw[fB,fB];rcases p5 with p|⟨k',p,hk'⟩
     · rw[p]at e;have:=(zu k e).2;exact⟨λhf=>by have:=hF k hf;omega,λhf=>by omega⟩
     · rw[p]at e;injection e with e;exact⟨λhf=>by have:=(h1.2 k hf).2;omega,λhf=>by omega⟩
   · have hi':=hne i hi hn;rw[eV _ _ hn,eV _ _ hn];rcases p5 with p|⟨k',p,hk'⟩
     · rw[p]at e;exact h.kK k e i hi'
     · rw[p]at e;injection e with e;exact⟨λhf=>by have:=hFl i hi' k hf;omega,λhf=>by have:=hHl i hi' k hf;omega⟩
 · have zb:=h.be.size;by_cases hn:i=gs.length
   · subst hn;rw[fB,fB]at hk;rcases hk with hk|hk
     · have:=hF k hk;omega
     · omega
   · rw[eV _ _ hn,eV _ _ hn]at hk;exact h.lo i (hne i hi hn) k hk
 · exact k15.block k (by have:=h.be.size;omega) (λe=>by have:=(zK k e).1;omega)
end
end Go.Proofs.YtiafamacjpgjoaaGreatDoor
namespace Go.Proofs.YtiafamacjpgjoaaGreatDoor
open Go Go.RowKit Go.Shelf Tide
theorem iD.init {D:aB} {w:World} (W:World):iD D w W ((W.alloc (.cells #[] 70)).alloc (.cells #[] 72)) [] [] (λ_ _=>False) (λ_ _=>False) (.slice (some ⟨W.heap.size,0,none⟩) 0 0) (.slice (some ⟨W.heap.size+1,0,none⟩) 0 0) where
 len:=rfl
 un:=λi hi=>absurd hi (Nat.not_lt_zero i)
 re:=λi hi=>absurd hi (Nat.not_lt_zero i)
 kU:=λi _ hi=>absurd hi (Nat.not_lt_zero i)
 lU:=λi _ hi=>absurd hi (Nat.not_lt_zero i)
 lV:=λi _ hi=>absurd hi (Nat.not_lt_zero i)
 iW:=(dL.new W W.heap.size (Nat.le_refl _) W.heap.size rfl).below ((Below.refl _ _).alloc (Nat.le_refl _) _)
 iT:=dK.new (W.alloc (.cells #[] 70)) W.heap.size (by rw[World.size_alloc];omega) (W.heap.size+1) (by rw[World.size_alloc])
 iB:=λk e=>⟨λe2=>by injection e with e;injection e2 with e2;have e:W.heap.size=k:=e;have e2:W.heap.size+1=k:=e2;omega,λi hi=>absurd hi (Nat.not_lt_zero i)⟩
 kK:=λ_ _ i hi=>absurd hi (Nat.not_lt_zero i)
 lo:=λi hi=>absurd hi (Nat.not_lt_zero i)
 be:=((Below.refl W.heap.size W).alloc (Nat.le_refl _) _).alloc (by rw[World.size_alloc];omega) _
theorem uW {D:aB} {a:Nat->Addr} {w W:World} (hD:ay (three a) D) (hE:av w a) (hb:Below w.heap.size w W) (n:Nat) (hn:n<=6):
 Calls Tryz.prog 15 #[.int .i64 (n:Int)] W λe w'=>∃v u gs qs F H,e= .returned (.tuple #[v,u])/\gs.length=n/\iD D w W w' gs qs F H v u:=by
 have HD:=ab hD;have HE:=ab hE;have HB:=ab hb;have i0:(n:Int)<=6:=by omega
 have H0:=ab (iD.init (D:=D) (w:=w) W);clear hD hE hb
 go_enter Tryz.func15,Tryz.ntmps15
 go_wp2_with fail
 go_loopw [4,5,12] (λv u i wr=>∃ (gs qs:List Nat) (F H:Nat->Nat->Prop),i= .int .i64 (gs.length:Nat)/\gs.length<=n/\Hid (iD D w W wr gs qs F H v u)) (λ_ _ i _=>n - (intOf i).toNat)
 case atStart=>exact⟨[], [],_,_,rfl,Nat.zero_le _,H0⟩
 case round=>
  obtain⟨gs,qs,F,H,rfl,hk,hN⟩:=hrel;obtain⟨k,hkk⟩:=aa gs.length;have HK:=ab hkk;rw[hkk]at hk ⊢;have HL:=ab (show gs.length<=1000000 by omega);have HLq:=ab (show qs.length<=1000000 by rw[hN.out.len];omega);clear hkk;by_cases hlt:k < n
  · have i1:(k:Int) < (n:Int):=by omega
    have HBr:=ab (HB.out.trans (hN.out.be.mono HB.out.size));have CN:=ab (show Calls Tryz.prog 41 #[.int .i64 128] wr λe w'=>∃dev,e= .returned (.tuple #[.pointer (some ⟨dev,0,none⟩),.nilIface])/\UO D w (iF wr (λ_=>False)) (jA wr (λ_=>False)) dev (64 * 2) 0 ⟨⟨2, []⟩, [],0,0,0⟩ w' from Es HD.out HBr.out 2 (by omega) (by omega))
    go_wp2_with fail
    refine CN.out.mono ?_;rintro en w2 ⟨dev,rfl,hd⟩;have CO:=ab (Et HD.out HE.out HBr.out (by omega) (by omega) hd);clear hd CN
    go_wp2_with fail
    refine CO.out.mono ?_;rintro en w3 ⟨g,F',rfl,h1,hF,b1⟩;have HU:=ab h1;have HF:=ab hF;have HB1:=ab b1;have O3:=ab (hN.out.iW.below b1);have Z3:=ab (Nat.le_trans hN.out.be.size b1.size);clear h1 hF b1 CO
    go_wp2_with (at_builtin;refine ES rfl (.tmp 31) (.tmp 33) rfl g rfl rfl O3.out HL.out Z3.out ?_)
    intro v4 w4 g1 g2 g3;have HV4:=ab g1;have HK4:=ab g2;have HP4:=ab g3;have CW:=ab (Eu 2 w4);clear g1 g2 g3
    go_wp2_with fail
    refine CW.out.mono ?_;rintro en w5 ⟨rfl,rfl⟩;clear CW;have OU:=ab (show dK (gz w4 2) W.heap.size u5 qs from((hN.out.iT.below HB1.out).kept HK4.out (λk e e2=>(hN.out.iB k e2).1 e)).below (mS w4 2).1);have Z5:=ab (Nat.le_trans Z3.out (Nat.le_trans HK4.out.size (mS w4 2).1.size))
    go_wp2_with (at_builtin;refine ER rfl (.tmp 35) (.tmp 37) rfl (w4.heap.size+1) rfl rfl OU.out HLq.out Z5.out ?_)
    intro v6 w6 g1 g2 g3;have HNew:=ab (hN.out.step HD.out HB.out.size HU.out HF.out HB1.out HV4.out HK4.out HP4.out g1 g2 g3);clear g1 g2 g3
    go_wp2_with fail
    go_roundw
    case rel=>exact⟨gs ++ [g],_,_,_,by rw[List.length_append,List.length_singleton,HK.out]<;>go_num,by rw[List.length_append,List.length_singleton,HK.out];omega,HNew⟩
    case measure=>simp[intOf];omega
  · have hke:k=n:=by omega
    have i1:(n:Int)<=(k:Int):=by omega
    go_wp2_with fail
    go_ret2
    exact⟨_,_,gs,qs,F,H,rfl,by rw[HK.out];exact hke,hN.out⟩
end Go.Proofs.YtiafamacjpgjoaaGreatDoor
