import Derived.Test.YtdilnodbfnlhdaaGreatDoorGUlR
import Derived.Test.YtdilnodbfnlhdaaGreatDoorGUiG
import Derived.Test.YtdilnodbfnlhdaaGreatDoorGUrS
import Derived.Test.YtdilnodbfnlhdaaGreatDoorGPush
set_option maxRecDepth 100000
set_option maxHeartbeats 1000000
namespace Go.Proofs.YtdilnodbfnlhdaaGreatDoor
open Go Go.RowKit Tide
section
variable {D:az} {a x:Nat->Addr} {w W W':World} {lo:Nat->Prop} {m N M:Nat} {g:Nat->Nat} {H:Nat->Nat->Prop} {us us':Nat->av} {up:Nat->Bool} {v vp:Value} {cs:List (List Int)}
theorem wG (hD:aC (three a) D) (hE:ar w a) (h:eH D w W lo g H m us up v vp cs N) (hN:N+3<=90000) (ep q k:Int) (vb:Value) (b:List UInt8) (hvb:Bytes W W.heap.size vb b) (hap:∀j,vb.ownBlock=some j->¬aJ m H j/\j < W.heap.size):
 Calls Tryz.prog 109 #[v,cL ep vp,.int .i64 q,.int .i64 k,vb] W λe w'=>∃x,e= .returned x/\bf a x (dN up ep cs q k b us).2/\b7 D w W g H m 192 (N+3) (dN up ep cs q k b us).1 w':=by
 obtain⟨A,c,rfl,hcl⟩:=h.di.form;obtain⟨b0,o0,c0,rfl,_,hrow6⟩:=kN h.gm.1 (h.rows W (Kept.refl _ _));clear hrow6 hcl;obtain⟨W0,hW0⟩:=aa (W.alloc (.cells #[.int .i64 ep,.slice A cs.length c] 24));have B0:=ab (show Below W.heap.size W W0 from by rw[<-hW0];exact(Below.refl W.heap.size W).alloc (Nat.le_refl _) _);have P0:=ab (show aH W0 W.heap.size 24 (.int .i64 ep) (.slice A cs.length c) from by rw[<-hW0];exact aH.new W _ _ _);have HD:=ab hD;have HE:=ab hE;have HC:=ab (h.below hD B0.out);have CP:=ab (wF hD hE HC.out ep q);have HVb:=ab hvb;have HAp:=ab hap;obtain⟨_,p0,p1,_⟩:=P0.out.facts;clear h hD hE hvb hap;by_cases he:eY ep cs q=0
 · have hlen:=AL he;obtain⟨l,hl⟩:=aa (bU cs q);obtain⟨at',hat⟩:∃z,q / (cs.length:Int)=z:=⟨_,rfl⟩;have hx0:dN up ep cs q k b us=if k < 0\/(l.length:Int)<=k then(us,1) else eZ up ep at' b us (l.getD k.toNat 0) (k.toNat == 0):=by unfold dN;rw[if_neg (by rw[he];decide),hl,hat]
   rw[hl]at hlen;have HE0:=ab he;have HRow:=ab (λ(W1:World) (vc:Value) (hc:cP W1 lo vc (ay (bU cs q)))=>show cP W1 lo vc (ay l) from hl ▸ hc);have HAt:=ab hat;have HL:=ab hlen;have HS0:=ab (λ(W1:World) (hb:Below W0.heap.size W0 W1)=>show b7 D w W g H m 192 (N+3) us W1 from b7.after B0.out ((b7.refl HD.out HC.out.bP hb).mono (show N<=N+3 by omega)));have HE2:=ab (λ(W1:World) (hb:Below W0.heap.size W0 W1)=>(HC.out.below HD.out hb).bq HE.out);by_cases hk:0<=k/\k < (l.length:Int)
   · obtain⟨j,rfl⟩:∃j:Nat,k=(j:Int):=⟨k.toNat,by omega⟩;have hj:j < l.length:=by omega
     rw[if_neg (by omega),Int.toNat_natCast,List.getD_eq_getElem?_getD,List.getElem?_eq_getElem hj]at hx0;obtain⟨r,hr⟩:=aa (eZ up ep at' b us l[j] (j == 0));have hx1:dN up ep cs q (j:Int) b us=r:=hx0.trans hr;have CF:=ab (λ(W1:World) (vc:Value) (hb:Below W0.heap.size W0 W1) (hc:cP W1 lo vc (ay l))=>by have h1:=HC.out.below HD.out hb;have hbw:=B0.out.trans (hb.mono B0.out.size);have:=DN HD.out HE.out (by omega) h1 ep at' l vc hc j hj _ b ((HVb.out.below hbw).more hbw.size) (λj hj=>(HAp.out j hj).1);rw[hr]at this;exact this);rw[hx1];have i0:(0:Int)<=(j:Int):=by omega
     have i1:(j:Int) < (l.length:Int):=hk.2;have i2:(j:Int)<=2:=by omega
     clear he hlen hl hat hr hx0 hx1 hk HE2
     go_enter Tryz.func109,Tryz.ntmps109
     go_wp2_with fail
     refine CP.out.mono ?_;rintro e w1 ⟨y,rfl,hy,hb⟩;rcases hy with⟨hne,_⟩|⟨_,vc,rfl,hrow⟩
     · exact absurd HE0.out hne
     have hrow:=HRow.out _ _ hrow;rw[HAt.out];obtain⟨_,A1,c1,rfl,_⟩:=dn hrow.1;obtain⟨W1,hW1⟩:=aa (w1.alloc (.cells #[.slice (some ⟨b0,o0,none⟩) m c0,.int .i64 ep,.slice A1 l.length c1,.int .i64 at'] 105));have B1:=ab (show Below W0.heap.size W0 W1 from by rw[<-hW1];exact hb.alloc hb.size _);have S1:=ab (show cH W1 w1.heap.size (.slice (some ⟨b0,o0,none⟩) m c0) ep (.slice A1 l.length c1) at' from by rw[<-hW1];exact cH.new w1 _ _ _ _);have C1:=ab (CF.out W1 _ B1.out (by rw[<-hW1];exact cP.below hrow ((Below.refl w1.heap.size w1).alloc (Nat.le_refl _) _)));obtain⟨s0,s1,s2,s3⟩:=S1.out.facts;clear hb hrow CF CP HRow
     go_wp2_with fail
     refine C1.out.mono ?_;rintro e w2 ⟨x2,rfl,hx2,hs⟩;have HX:=ab hx2;have HS:=ab (b7.after (B0.out.trans (B1.out.mono B0.out.size)) (hs.mono (show N+1<=N+3 by omega)));clear hs hx2 C1 s0 s1 s2 s3 hW1
     go_wp2_with fail
     go_ret
     exact⟨_,rfl,HX.out,HS.out⟩
   · rw[if_pos (by omega)]at hx0;rw[hx0];clear he hlen hl hat hx0;cases i0:decide (k < 0) with
     | true=>
       clear hk
       go_enter Tryz.func109,Tryz.ntmps109
       go_wp2_with fail
       refine CP.out.mono ?_;rintro e w1 ⟨y,rfl,hy,hb⟩;rcases hy with⟨hne,_⟩|⟨_,vc,rfl,hrow⟩
       · exact absurd HE0.out hne
       have hrow:=HRow.out _ _ hrow;rw[HAt.out];obtain⟨_,A1,c1,rfl,_⟩:=dn hrow.1;obtain⟨W1,hW1⟩:=aa (w1.alloc (.cells #[.slice (some ⟨b0,o0,none⟩) m c0,.int .i64 ep,.slice A1 l.length c1,.int .i64 at'] 105));have B1:=ab (show Below W0.heap.size W0 W1 from by rw[<-hW1];exact hb.alloc hb.size _);have e0:W1.cell? ⟨4,0,none⟩=some (ai (a 0)):=(HE2.out W1 B1.out).var 0 (by decide);clear hb hrow CP HRow
       go_wp2_with fail
       go_ret
       exact⟨_,rfl,bo a 0 (by decide),HS0.out _ B1.out⟩
     | false=>
       have i1:(l.length:Int)<=k:=by simp at i0;omega
       clear hk
       go_enter Tryz.func109,Tryz.ntmps109
       go_wp2_with fail
       refine CP.out.mono ?_;rintro e w1 ⟨y,rfl,hy,hb⟩;rcases hy with⟨hne,_⟩|⟨_,vc,rfl,hrow⟩
       · exact absurd HE0.out hne
       have hrow:=HRow.out _ _ hrow;rw[HAt.out];obtain⟨_,A1,c1,rfl,_⟩:=dn hrow.1;obtain⟨W1,hW1⟩:=aa (w1.alloc (.cells #[.slice (some ⟨b0,o0,none⟩) m c0,.int .i64 ep,.slice A1 l.length c1,.int .i64 at'] 105));have B1:=ab (show Below W0.heap.size W0 W1 from by rw[<-hW1];exact hb.alloc hb.size _);have S1:=ab (show cH W1 w1.heap.size (.slice (some ⟨b0,o0,none⟩) m c0) ep (.slice A1 l.length c1) at' from by rw[<-hW1];exact cH.new w1 _ _ _ _);obtain⟨s0,s1,s2,s3⟩:=S1.out.facts;have e0:W1.cell? ⟨4,0,none⟩=some (ai (a 0)):=(HE2.out W1 B1.out).var 0 (by decide);clear hb hrow CP HRow
       go_wp2_with fail
       go_ret
       exact⟨_,rfl,bo a 0 (by decide),HS0.out _ B1.out⟩
 · have hx:=ab (show dN up ep cs q k b us=(us,eY ep cs q) from by unfold dN;rw[if_pos he]);rw[hx.out];have HE0:=ab he;clear he hx
   go_enter Tryz.func109,Tryz.ntmps109
   go_wp2_with fail
   refine CP.out.mono ?_;rintro e w1 ⟨y,rfl,hy,hb⟩;rcases hy with⟨_,x1,rfl,hx1⟩|⟨hne,_⟩
   · obtain⟨ad,rfl⟩:=lF hx1 HE0.out;have HX:=ab hx1;have HS:=ab (λ(W2:World) (hb2:Below w1.heap.size w1 W2)=>(b7.after B0.out ((b7.refl HD.out HC.out.bP (hb.trans (hb2.mono hb.size))).mono (show N<=N+3 by omega))));clear hb hx1 CP
     go_wp2_with fail
     go_ret
     exact⟨_,rfl,HX.out,HS.out _ ((Below.refl _ _).alloc (Nat.le_refl _) _)⟩
   · exact absurd hne HE0.out
end
end Go.Proofs.YtdilnodbfnlhdaaGreatDoor
namespace Go.Proofs.YtdilnodbfnlhdaaGreatDoor
open Go Go.RowKit Go.Shelf Tide
theorem BS (W:World) (k:Nat):Below W.heap.size W (mc W k)/\(mc W k).heap.size=W.heap.size+2:=by have hb1:=(Below.refl W.heap.size W).alloc (Nat.le_refl _) (.cells #[.int .i64 (k:Int),.slice none 0 0] 152);exact⟨hb1.alloc (by rw[World.size_alloc];omega) _,by unfold mc;rw[World.size_alloc,World.size_alloc]⟩
section
variable {D:az} {a:Nat->Addr} {w W:World}
theorem Eh (hD:aC (three a) D) (hb:Below w.heap.size w W) (k:Nat) (hk:1<=k) (hk2:k<=5):
 Calls Tryz.prog 26 #[.int .i64 ((64 * k:Nat):Int)] W λe w'=>∃dev,e= .returned (.tuple #[.pointer (some ⟨dev,0,none⟩),.nilIface])/\UO D w (gO W (λ_=>False)) (iL W (λ_=>False)) dev (64 * k) 0 ⟨⟨k, []⟩, [],0,0,0⟩ w':=
 UO.new hD (mx W _) (sK W _) (λ_ h=>h.1) hb k hk hk2
theorem Ei (hD:aC (three a) D) (hE:ar w a) (hb:Below w.heap.size w W) {dev k:Nat} {W1:World} (hk:1<=k) (hk2:k<=5) (h:UO D w (gO W (λ_=>False)) (iL W (λ_=>False)) dev (64 * k) 0 ⟨⟨k, []⟩, [],0,0,0⟩ W1):
 Calls Tryz.prog 27 #[.pointer (some ⟨dev,0,none⟩)] W1 λe w'=>∃g F,e= .returned (.tuple #[.pointer (some ⟨g,0,none⟩),.nilIface])/\cZ D w w' F g (64 * k) 0 ⟨⟨k, []⟩, [],0,0,0⟩/\(∀j,F j->W.heap.size<=j)/\Below W.heap.size W w':=by
 refine(h.open hD (mx W _) hE (by omega) (by omega) (by omega)).mono ?_;rintro e w' ⟨g,p,bm,rfl,hU⟩;obtain⟨F,h1,h2,h3⟩:=hU.tL hb (λ_ h=>h.elim);exact⟨g,F,rfl,h1,λj hj=>(h2 j hj).elim (λh=>h.elim) id,⟨h3.os,h3.tape,h3.output,h3.size,λj hj=>h3.block j hj (λh=>h)⟩⟩
end
end Go.Proofs.YtdilnodbfnlhdaaGreatDoor
namespace Go.Proofs.YtdilnodbfnlhdaaGreatDoor
open Go Go.RowKit Tide
structure bJ (w5:World) (R:Nat->Prop) (base:Nat) (xa xr:Value) (la lr:List Value) (sm:List (Nat × Value)) (W:World):Prop where
 kept:Kept R w5 W
 low:∀k,R k->k < w5.heap.size
 bs:base<=w5.heap.size
 a:W.ownsRow base 81 1 xa la.length la
 r:W.ownsRow base 84 1 xr lr.length lr
 own:∀k,xa.ownBlock=some k\/xr.ownBlock=some k->R k\/w5.heap.size<=k
 sm:∀x ∈ sm,W.cell? ⟨x.1,0,none⟩=some x.2/\w5.heap.size<=x.1/\x.1 < W.heap.size
section
variable {w5 W W':World} {R Z:Nat->Prop} {base:Nat} {xa xr:Value} {la lr:List Value} {sm:List (Nat × Value)}
theorem bJ.below (h:bJ w5 R base xa xr la lr sm W) (hb:Below W.heap.size W W'):bJ w5 R base xa xr la lr sm W' where
 kept:=h.kept.trans (Kept.al (F:=R) hb) (λ_ h=> .inl h)
 low:=h.low
 bs:=h.bs
 a:=bp h.a hb
 r:=bp h.r hb
 own:=h.own
 sm:=λx hx=>⟨(hb.cell (p:=⟨x.1,0,none⟩) (h.sm x hx).2.2).trans (h.sm x hx).1,(h.sm x hx).2.1,Nat.lt_of_lt_of_le (h.sm x hx).2.2 hb.size⟩
theorem bJ.drew (h:bJ w5 R base xa xr la lr sm W):bJ w5 R base xa xr la lr sm W.drew:=h.below (Below.refl _ _).drew
theorem bJ.small (h:bJ w5 R base xa xr la lr sm W) (x:Value) (t:TypeId):bJ w5 R base xa xr la lr ((W.heap.size,x) :: sm) (W.alloc (.cells #[x] t)):=by
 have h':=h.below ((Below.refl W.heap.size W).alloc (Nat.le_refl _) (.cells #[x] t));refine { h' with sm:=λy hy=> ?_ };rcases List.mem_cons.1 hy with rfl|hy
 · refine⟨?_,h.kept.size,by rw[World.size_alloc];exact Nat.lt_succ_self _⟩;rw[cell_of_row _ _ 0 _ _ _ (heap_alloc_new W _)];rfl
 · exact h'.sm y hy
theorem bJ.tI (h:bJ w5 R base xa xr la lr sm W) {v:Value} (hk:Kept (λk=>v.ownBlock=some k) W W') (hR:∀k,v.ownBlock=some k->R k) {ya yr:Value} {ma mr:List Value}
 (ha:W'.ownsRow base 81 1 ya ma.length ma) (hr:W'.ownsRow base 84 1 yr mr.length mr)
 (ho:∀k,ya.ownBlock=some k\/yr.ownBlock=some k->R k\/w5.heap.size<=k):bJ w5 R base ya yr ma mr sm W' where
 kept:=h.kept.trans hk (λk e=> .inl (hR k e))
 low:=h.low
 bs:=h.bs
 a:=ha
 r:=hr
 own:=ho
 sm:=λx hx=>⟨(hk.cell (p:=⟨x.1,0,none⟩) (h.sm x hx).2.2 (λe=>by have:=(h.sm x hx).2.1;have:=h.low x.1 (hR x.1 e);omega)).trans (h.sm x hx).1,(h.sm x hx).2.1,Nat.lt_of_lt_of_le (h.sm x hx).2.2 hk.size⟩
section
variable {ops:Array Oper} {o:Oper} {a:Act} {K:Act->World->Prop} {Q:Exit->Act->World->Prop} {E:Prop}
theorem bJ.DF (h:bJ w5 R base xa xr la lr sm W) (hR:∀k,xa.ownBlock=some k->R k) (hl:la.length<=100000) (hgd:o.guard=none) (s x:Operand) (ho:o.op= .call { callee:= .builtin .append,args:= #[s,x],argTypes:= #[54,54] })
 (g:Nat) (y:Nat) (hg:(g,Value.pointer (some ⟨y,0,none⟩)) ∈ sm) (hs:a.eval s=xa) (hx:a.eval x= .slice (some ⟨g,0,none⟩) 1 1)
 (hK:∀gv cap w',bJ w5 R base (.slice (some ⟨gv,0,none⟩) (la.length+1) cap) xr (la ++ [.pointer (some ⟨y,0,none⟩)]) lr sm w'->K (a.put o.dst (.slice (some ⟨gv,0,none⟩) (la.length+1) cap)) w'):if Region.wanted o (yielded ops a.tmps)=true then Oper.wp Tryz.prog o a W K Q else E:=by
 obtain⟨i0,hi,hz0,hz1,hz2⟩:=info_parts ys;refine step_append_lies W hgd s x 54 ho base 81 i0 (.pointer none) 1 8 Tryz.underlying54 hi hz0 hz1 hz2 rfl (by omega) xa la.length la hs h.a ⟨g,0,none⟩ 1 1 [.pointer (some ⟨y,0,none⟩)] hx rfl (pP (h.sm _ hg).1) (by simp[Value.oneCell']) (by omega) (by unfold maxLen;omega) (by omega) (Nat.le_trans h.bs h.kept.size) W.heap.size rfl ?_;intro gv cap w' h1 h2 h3 h4;have hk:Kept (λk=>xa.ownBlock=some k) W w':=(Kept.refl _ W).grown h2 (λk e=> .inl e);have hz:=h.kept.size;refine hK gv cap w' (h.tI hk hR (by rw[List.length_append];exact h1) (hk.own h.r (λk e e'=>kF h.r h.a (by decide) k e e')) (λk e=> ?_));rcases e with e|e
 · obtain rfl:gv=k:=by injection e
   rcases h3 with h3|h3
   · exact .inl (hR _ h3)
   · exact .inr (by omega)
 · exact h.own k (.inr e)
theorem bJ.DI (h:bJ w5 R base xa xr la lr sm W) (hR:∀k,xr.ownBlock=some k->R k) (hl:lr.length<=100000) (hgd:o.guard=none) (s x:Operand) (ho:o.op= .call { callee:= .builtin .append,args:= #[s,x],argTypes:= #[56,56] })
 (g:Nat) (y:Nat) (hg:(g,Value.pointer (some ⟨y,0,none⟩)) ∈ sm) (hs:a.eval s=xr) (hx:a.eval x= .slice (some ⟨g,0,none⟩) 1 1)
 (hK:∀gv cap w',bJ w5 R base xa (.slice (some ⟨gv,0,none⟩) (lr.length+1) cap) la (lr ++ [.pointer (some ⟨y,0,none⟩)]) sm w'->K (a.put o.dst (.slice (some ⟨gv,0,none⟩) (lr.length+1) cap)) w'):if Region.wanted o (yielded ops a.tmps)=true then Oper.wp Tryz.prog o a W K Q else E:=by
 obtain⟨i0,hi,hz0,hz1,hz2⟩:=info_parts yp;refine step_append_lies W hgd s x 56 ho base 84 i0 (.pointer none) 1 8 Tryz.underlying56 hi hz0 hz1 hz2 rfl (by omega) xr lr.length lr hs h.r ⟨g,0,none⟩ 1 1 [.pointer (some ⟨y,0,none⟩)] hx rfl (pP (h.sm _ hg).1) (by simp[Value.oneCell']) (by omega) (by unfold maxLen;omega) (by omega) (Nat.le_trans h.bs h.kept.size) W.heap.size rfl ?_;intro gv cap w' h1 h2 h3 h4;have hk:Kept (λk=>xr.ownBlock=some k) W w':=(Kept.refl _ W).grown h2 (λk e=> .inl e);have hz:=h.kept.size;refine hK gv cap w' (h.tI hk hR (hk.own h.a (λk e e'=>kF h.a h.r (by decide) k e e')) (by rw[List.length_append];exact h1) (λk e=> ?_));rcases e with e|e
 · exact h.own k (.inl e)
 · obtain rfl:gv=k:=by injection e
   rcases h3 with h3|h3
   · exact .inl (hR _ h3)
   · exact .inr (by omega)
theorem bJ.DH (h:bJ w5 R base xa xr la lr sm W) (hgd:o.guard=none) (x:Operand) (ho:o.op= .buildSlice 54 1 #[(0,x)]) (y:Nat) (hx:a.eval x= .pointer (some ⟨y,0,none⟩))
 (hK:∀g w',bJ w5 R base xa xr la lr ((g,.pointer (some ⟨y,0,none⟩)) :: sm) w'->K (a.put o.dst (.slice (some ⟨g,0,none⟩) 1 1)) w'):if Region.wanted o (yielded ops a.tmps)=true then Oper.wp Tryz.prog o a W K Q else E:=by
 have hw:Region.wanted o (yielded ops a.tmps)=true:=by simp[Region.wanted,hgd]
 rw[if_pos hw];obtain⟨dst,op,ty,pos,after,guard⟩:=o;simp only at ho hgd;subst ho hgd;have h1:=hK W.heap.size _ (h.small (.pointer (some ⟨y,0,none⟩)) 81);clear hK;unfold Oper.wp;generalize a.eval=ρ at *
 go_simp
 exact h1
theorem bJ.DG (h:bJ w5 R base xa xr la lr sm W) (hgd:o.guard=none) (x:Operand) (ho:o.op= .buildSlice 56 1 #[(0,x)]) (y:Nat) (hx:a.eval x= .pointer (some ⟨y,0,none⟩))
 (hK:∀g w',bJ w5 R base xa xr la lr ((g,.pointer (some ⟨y,0,none⟩)) :: sm) w'->K (a.put o.dst (.slice (some ⟨g,0,none⟩) 1 1)) w'):if Region.wanted o (yielded ops a.tmps)=true then Oper.wp Tryz.prog o a W K Q else E:=by
 have hw:Region.wanted o (yielded ops a.tmps)=true:=by simp[Region.wanted,hgd]
 rw[if_pos hw];obtain⟨dst,op,ty,pos,after,guard⟩:=o;simp only at ho hgd;subst ho hgd;have h1:=hK W.heap.size _ (h.small (.pointer (some ⟨y,0,none⟩)) 84);clear hK;unfold Oper.wp;generalize a.eval=ρ at *
 go_simp
 exact h1
theorem bJ.dN (h:bJ w5 R base xa xr la lr sm W) (hgd:o.guard=none) (k:Nat) (ho:o.op= .call { callee:= .value (.func 28),args:= #[.const (.int .i64 (k:Int))],argTypes:= #[3] })
 (hK:∀y w',bJ w5 R base xa xr la lr sm w'->K (a.put o.dst (.pointer (some ⟨y,0,none⟩))) w'):if Region.wanted o (yielded ops a.tmps)=true then Oper.wp Tryz.prog o a W K Q else E:=by
 have hw:Region.wanted o (yielded ops a.tmps)=true:=by simp[Region.wanted,hgd]
 rw[if_pos hw];obtain⟨dst,op,ty,pos,after,guard⟩:=o;simp only at ho hgd;subst ho hgd;have HC:=ab (Ej k W);have HK:=ab (hK (W.heap.size+1) _ (h.below (BS W k).1));clear hK h;unfold Oper.wp
 go_simp
 refine HC.out.mono ?_;rintro en w' ⟨rfl,rfl⟩;have h9:=HK.out;unfold Act.put at h9;exact h9
end
end
end Go.Proofs.YtdilnodbfnlhdaaGreatDoor
namespace Go.Proofs.YtdilnodbfnlhdaaGreatDoor
open Go Go.RowKit Go.Shelf Tide
def fE:av:=⟨⟨3, []⟩, [],0,0,0⟩
def kI (F:Nat->Nat->Prop) (n:Nat) (G:Nat->Prop):Nat->Nat->Prop:=λi=>if i=n then G else F i
theorem kJ (F:Nat->Nat->Prop) (n:Nat) (G:Nat->Prop):kI F n G n=G:=by simp[kI]
theorem jR (F:Nat->Nat->Prop) {n i:Nat} (G:Nat->Prop) (h:i≠n):kI F n G i=F i:=by simp[kI,h]
section
variable {D:az} {x:Nat->Addr} {w W0 W W2 W3 W5:World} {gs qs:List Nat} {F H:Nat->Nat->Prop} {v u v3 u5:Value} {g:Nat} {F':Nat->Prop}
end
end Go.Proofs.YtdilnodbfnlhdaaGreatDoor
