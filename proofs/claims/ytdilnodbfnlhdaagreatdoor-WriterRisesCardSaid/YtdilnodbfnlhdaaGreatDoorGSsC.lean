import Derived.Test.YtdilnodbfnlhdaaGreatDoorGSsF
import Derived.Test.YtdilnodbfnlhdaaGreatDoorGSsR
import Derived.Test.YtdilnodbfnlhdaaGreatDoorGSeqX
import Derived.Test.YtdilnodbfnlhdaaGreatDoorGSgA
import Derived.Deep.RegionHeld3
set_option maxRecDepth 100000
set_option maxHeartbeats 4000000
namespace Go.Proofs.YtdilnodbfnlhdaaGreatDoor
open Go.RowKit Go.Shelf Tide
attribute [local go_sem] Oper.semAt_some
theorem yo:(Tryz.prog.info? 38).map (λi=>(i.zero,i.size,i.bytes))=some (some (.slice none 0 0),1,24):=by kernel_rfl
def iE (im:List UInt8) (us:List ah) (n:Int):List (List UInt8):=match (cI us).find? λx=>(x.2.no:Int) == n with
 | none=> []
 | some x=>(fD im x.2.first).map λy=>eK im (y.1+1) y.2
theorem mX {us:List ah} {x:Nat × ah} (h:x ∈ cI us):∃h:x.1 < us.length,us[x.1]=x.2:=by unfold cI at h;rw[List.mem_reverse]at h;obtain⟨i,hi,rfl⟩:=List.mem_mapIdx.1 h;exact⟨hi,rfl⟩
theorem mb {A0 w6 w9:World} {b n5 z:Nat} {v u v9:Value} {rs:List Value} {L:List (List UInt8)} {l:List UInt8} {o:Obj} (hv1:Boxed A0 b 142 v) (hv2:A0.ownsRow n5 38 1 v rs.length rs) (hv3:mQ A0 (λk=>n5<=k) rs L) (hn:n5<=A0.heap.size)
 (ho6:w6.ownsRow A0.heap.size 5 1 u z (aj l)) (hl:l.length=z) (hb6:Below A0.heap.size A0 w6) (h1:w9.ownsRow n5 38 1 v9 (rs.length+1) (rs ++ [u])) (h2:(w6.alloc o).grownBy w9 v.ownBlock):
 (w9.cell? ⟨b,0,none⟩=some v/\w9.frozen? ⟨b,0,none⟩=false)/\KeepsFrom n5 A0 (w9.setCell ⟨b,0,none⟩ v9)/\Kept (λk=>k=b\/n5<=k) A0 (w9.setCell ⟨b,0,none⟩ v9)/\Boxed (w9.setCell ⟨b,0,none⟩ v9) b 142 v9/\(w9.setCell ⟨b,0,none⟩ v9).ownsRow n5 38 1 v9 (rs ++ [u]).length (rs ++ [u])/\mQ (w9.setCell ⟨b,0,none⟩ v9) (λk=>n5<=k) (rs ++ [u]) (L ++ [l]):=by
 have hb7:Below A0.heap.size A0 (w6.alloc o):=hb6.alloc hb6.size _;have hv17:Boxed (w6.alloc o) b 142 v:=(hb7.block _ hv1.lt).trans hv1;have hv27:=bp hv2 hb7;have hv19:Boxed w9 b 142 v:=hv17.kept h2 (hv17.not_row (by decide) hv27);have hK9:Kept (λk=>v.ownBlock=some k) A0 w9:=(Kept.al hb7).trans ((Kept.refl _ _).grown h2 (λk e=> .inl e)) (λk e=> .inl e);have hset:Kept (λk=>k=b) w9 (w9.setCell ⟨b,0,none⟩ v9):=(Kept.refl (λk=>k=b) w9).setCell (p:=⟨b,0,none⟩) (.inl rfl) _;have hall:Kept (λk=>v.ownBlock=some k\/k=b) A0 (w9.setCell ⟨b,0,none⟩ v9):=(hK9.mono (λk _ e=> .inl e)).setCell (p:=⟨b,0,none⟩) (.inl (.inr rfl)) _;have hrow:∀ {u':Value} {m:Nat} {xs:List Value},A0.ownsRow 0 5 1 u' m xs->(w9.setCell ⟨b,0,none⟩ v9).ownsRow 0 5 1 u' m xs:=λhr=>hall.own hr (λk e hk=>by
  rcases hk with hk|rfl
  · exact kF hv2 hr (by decide) k hk e
  · exact hv1.not_row (by decide) hr e.symm)
 refine⟨⟨hv19.cell,hv19.frozen⟩,?_,?_,hv19.set _,?_,?_,?_⟩
 · refine((lG hb7).trans ?_).trans ((KeepsOthers.setCell _ _ _).from _);refine(KeepsOthers.of_grownBy h2 λj o' e hj=> ?_).from _;obtain⟨c,hc⟩:=fG hv27 e;rw[hj]at hc;injection hc with hc;rw[hc];rfl
 · refine hall.mono λk _ hk=> ?_;rcases hk with hk|hk
   · exact .inr (hv2.lt k hk).1
   · exact .inl hk
 · rw[List.length_append];exact h1.kept (grownBy_setCell' w9 b v9) (.inr (hv19.not_row (by decide) h1).symm)
 · rw[List.length_append,List.length_append,hv3.1];rfl
 · intro i u' b' hu hb';by_cases hi:i < rs.length
   · rw[List.getElem?_append_left hi]at hu;rw[List.getElem?_append_left (by rw[<-hv3.1];exact hi)]at hb';obtain⟨r1,r2⟩:=hv3.2 i u' b' hu hb';exact⟨hrow r1,r2⟩
   · rw[List.getElem?_append_right (by omega)]at hu;rw[List.getElem?_append_right (by rw[<-hv3.1];omega),<-hv3.1]at hb';have h0:i - rs.length=0:=by have:=(List.getElem?_eq_some_iff.1 hu).1;simp at this;omega
     rw[h0]at hu hb';simp at hu hb';subst hu hb';have hlt:=ho6.lt;refine⟨?_,λk e=>Nat.le_trans hn (hlt k e).1⟩;have r1:(w6.alloc o).ownsRow 0 5 1 u l.length (aj l):=bp (by rw[hl];exact eW ho6 (Nat.zero_le _)) ((Below.refl _ _).alloc (Nat.le_refl _) _);have r2:w9.ownsRow 0 5 1 u l.length (aj l):=r1.kept h2 (by
      rcases r1.2 with⟨h0,_⟩|⟨g,cap,cur,h0,_⟩
      · exact .inl (by rw[h0];rfl)
      · refine .inr λe=> ?_;have hg0:u.ownBlock=some g:=by rw[h0];rfl
        first
         | exact kF r1 hv27 (by decide) g hg0 (e ▸ hg0)
         | exact kF r1 hv27 (by decide) g hg0 (e.symm ▸ hg0))
     exact r2.kept (grownBy_setCell' w9 b v9) (.inr (hv19.not_row (by decide) r2).symm)
theorem qM (im:List UInt8) (lim:Nat):∀k i,(fh im lim k i).length<=k
 | 0,_=>Nat.le_refl _
 | k+1,i=>by
   unfold fh;split
   · have:=qM im lim k (ax i (eP im i));simp only[List.length_cons];omega
   · simp
theorem xU (im:List UInt8) (first:Nat):(fD im first).length<=64:=qM _ _ _ _
theorem eJ {A w:World} (h:Below A.drew.heap.size A.drew w):Below A.heap.size A w:=⟨h.os,h.tape,h.output,h.size,h.block⟩
theorem nQ {ops:Array Oper} (h:ops.all (λo=>match o.op with | .defer _=>false|_=>true)=true):∀ (i:Nat) (o:Oper),ops[i]? =some o->∀c,o.op≠ .defer c:=λi o ho c hc=>by have h1:=Array.all_eq_true.1 h i (Array.getElem?_eq_some_iff.1 ho).1;rw[(Array.getElem?_eq_some_iff.1 ho).2,hc]at h1;cases h1
section
variable {W:World} {D:az} {x:Nat->Addr} {Fd Fs:Nat->Prop} {p dev:Nat} {us:List ah} {vs:Value} {d:Dv}
theorem BE (hD:aC x D) (hd:D W Fd dev d) (h:aO W Fs p dev us vs) (hmax:us.length<=1000) (hf:∀u ∈ us,u.first+64<=d.ae.length / 64) (n:Int):Calls Tryz.prog 60 #[.pointer (some ⟨p,0,none⟩),.int .i64 n] W λe w'=>∃v,e= .returned v/\fK w' w'.heap.size v (iE (aI d.ae d.aq) us n)/\Below W.heap.size W w':=by
 have ba:=(Below.refl W.heap.size W).alloc (Nat.le_refl _) (.cells #[.pointer (some ⟨p,0,none⟩)] 135);have hbs:=Boxed.new W 135 (.pointer (some ⟨p,0,none⟩));generalize hWa:W.alloc (.cells #[.pointer (some ⟨p,0,none⟩)] 135)=Wa at *;have CF:=ab (xm (h.below ba) hmax n);have HWz:=ab (show Wa.heap.size=W.heap.size+1 by rw[<-hWa,World.size_alloc]);have HBa:=ab ba;have HXs:=ab hbs;have HS:=ab (h.below ba);have HDv:=ab (hD.an _ _ _ (λ_=>False) _ _ hd (Kept.al ba) (λ_ _ h=>h));have HSl:=ab h.lt;have HDl:=ab (hD.lt _ _ _ _ hd);have HFi:=ab hf;have HLn:=ab (hD.right _ _ _ _ hd);obtain⟨im,him⟩:=aa (aI d.ae d.aq);have HIm:=ab him;rw[him];have cb:=hbs.cell;have CH:=ab (λf w=>qQ p f w);clear ba hbs h hd hf him;refine(callsIn_wide (n:=7)).1 ?_;refine callsIn_of_wp_marks Tryz.func60 rfl trivial ?_ rfl;simp only[Tryz.ntmps60,List.size_toArray,List.length_cons,List.length_nil,Nat.reduceAdd,Nat.reduceSub,Array.replicate_succ,Array.replicate_zero,List.push_toArray,List.append_toArray,List.nil_append,List.cons_append]
 gi_wp2_with fail
 refine⟨trivial,(callsIn_wide.2 CF.out).mono ?_⟩;rintro e w1 ⟨rfl,hb1⟩;have HB1:=ab hb1;have cb1:=(hb1.cell (p:=⟨W.heap.size,0,none⟩) HXs.out.lt).trans cb;have H1:=ab (HS.out.below hb1);clear hb1 CF cb;cases hfd:(cI us).find? (λx=>(x.2.no:Int) == n) with
 | none=>
   have HR:=ab (show iE im us n= [] by unfold iE;rw[hfd]);rw[show fg us n= -1 by unfold fg;rw[hfd]];clear hfd
   gi_wp2_with fail
   refine⟨_,results_tmp rfl _ _ _,_,rfl,?_,HBa.out.trans (HB1.out.mono (by have:=HWz.out;omega))⟩;rw[HR.out];exact⟨[],⟨by simp,none,0,rfl,by simp,by simp,λh=>absurd rfl h⟩,rfl,λi u p hu _=>by cases hu⟩
 | some y=>
   obtain⟨hyl,hyu⟩:=mX (List.mem_of_find?_eq_some hfd);have HR:=ab (show iE im us n=(fD im y.2.first).map λz=>eK im (z.1+1) z.2 by unfold iE;rw[hfd]);rw[show fg us n=(y.1:Int) by unfold fg;rw[hfd]];obtain⟨k,u⟩:=y;dsimp only at hyl hyu HR ⊢;obtain⟨gb,cc,rfl,_,hgb,_,d0,d1,d2,_⟩:=H1.out.cells k hyl;rw[hyu]at d1;obtain⟨_,_,c1,_⟩:=H1.out.block.facts;have HFi2:=ab (HFi.out u (by rw[<-hyu];exact List.getElem_mem hyl));have hkl:(k:Int) < (us.length:Int):=by omega
   have hk0:decide ((k:Int) < 0)=false:=decide_eq_false (by omega);generalize u.first=fi at *;have hl1:W.heap.size < w1.heap.size:=World.block_lt_of_cell? _ _ cb1;have hl2:p < w1.heap.size:=World.block_lt_of_cell? _ _ c1;clear hfd hyu d0 d2 hmax
   gi_wp2_with fail
   obtain⟨W2,hW2⟩:=aa (w1.alloc (.cells #[.slice none 0 0] 142));have hb2:Below w1.heap.size w1 W2:=by rw[<-hW2];exact(Below.refl _ w1).alloc (Nat.le_refl _) _
   have hx2:Boxed W2 w1.heap.size 142 (.slice none 0 0):=by rw[<-hW2];exact Boxed.new _ _ _
   have hz2:W2.heap.size=w1.heap.size+1:=by rw[<-hW2,World.size_alloc]
   rw[hW2];have HB2:=ab hb2;have HX2:=ab hx2;have HZ2:=ab hz2;have cb2:=(hb2.cell (p:=⟨W.heap.size,0,none⟩) hl1).trans cb1;have c12:=(hb2.cell (p:=⟨p,1,none⟩) hl2).trans c1;have d12:=(hb2.cell (p:=⟨gb,k * 3+1,none⟩) hgb).trans d1;have HS0:=ab (And.intro cb2 (And.intro c12 d12));have CH2:=ab (show Calls Tryz.prog 120 #[.pointer (some ⟨p,0,none⟩),.int .i64 (fi:Nat)] W2.drew (λe w'=>e= .returned (.func (.func 156) #[] #[.pointer (some ⟨W2.heap.size+1,0,none⟩),.pointer (some ⟨W2.heap.size,0,none⟩)])/\Hid (Below W2.heap.size W2 w')/\Hid (w'.heap.size=W2.heap.size+2)/\Hid (Boxed w' W2.heap.size 135 (.pointer (some ⟨p,0,none⟩)))/\Hid (Boxed w' (W2.heap.size+1) 3 (.int .i64 (fi:Nat)))) from(CH.out fi W2.drew).mono (by
    rintro e w' ⟨rfl,rfl⟩;refine⟨rfl,ab ((Below.refl _ _).drew.trans ?_),ab (by simp),ab ((Boxed.new W2.drew _ _).alloc _),ab ?_⟩
    · exact((Below.refl W2.heap.size W2.drew).alloc (Nat.le_refl _) _).alloc (by simp) _
    · have:=Boxed.new (W2.drew.alloc (.cells #[.pointer (some ⟨p,0,none⟩)] 135)) 3 (.int .i64 (fi:Nat))
      rwa[World.size_alloc]at this))
   clear hb2 hx2 hz2 hW2 cb1 c1 d1 CH cb2 c12 d12;refine wpIn_wide.2 ?_
   go_region_held3 (λw'=>w'.cell? ⟨W.heap.size,0,none⟩=some (.pointer (some ⟨p,0,none⟩))/\w'.cell? ⟨p,1,none⟩=some (.slice (some ⟨gb,0,none⟩) us.length cc)/\w'.cell? ⟨gb,k * 3+1,none⟩=some (.int .i64 (fi:Nat)))
    (first|assumption|exact HS0.out|exact HS5.out)
    (first
      | (go_at_call 120;(with_reducible refine(CH2.out).mono ?_);rintro en w5 ⟨rfl,hb5,hz5,hx5,hy5⟩;have HS5:=ab (And.intro ((hb5.out.cell (p:=⟨W.heap.size,0,none⟩) (World.block_lt_of_cell? _ _ HS0.out.1)).trans HS0.out.1) (And.intro ((hb5.out.cell (p:=⟨p,1,none⟩) (World.block_lt_of_cell? _ _ HS0.out.2.1)).trans HS0.out.2.1) ((hb5.out.cell (p:=⟨gb,k * 3+1,none⟩) (World.block_lt_of_cell? _ _ HS0.out.2.2)).trans HS0.out.2.2)))))
   have HX5:=ab (show Boxed w5 w1.heap.size 142 (.slice none 0 0) from(hb5.out.block _ HX2.out.lt).trans HX2.out);have HBW:=ab (show Below W.heap.size W w5 from(HBa.out.trans (HB1.out.mono (by have:=HWz.out;omega))).trans ((HB2.out.trans (hb5.out.mono (by have:=HZ2.out;omega))).mono (Nat.le_of_lt hl1)));have hb15:Below w1.heap.size w1 w5:=HB2.out.trans (hb5.out.mono (by have:=HZ2.out;omega));have HW1:=ab (show W.heap.size+1<=w1.heap.size from hl1);have HSt:=ab (H1.out.below hb15);have hdW:D w5 Fd dev d:=hD.an _ _ _ (λ_=>False) _ _ HDv.out (Kept.al (HB1.out.trans (hb15.mono (by have:=HWz.out;omega)))) (λ_ _ h=>h);have HDw:=ab hdW;have HFb:=ab HFi2.out;have HXS:=ab (show Boxed w5 W.heap.size 135 (.pointer (some ⟨p,0,none⟩)) from(hb15.block _ hl1).trans ((HB1.out.block _ HXs.out.lt).trans HXs.out));have HZ5:=ab (show w5.heap.size=w1.heap.size+3 by rw[hz5.out,HZ2.out]);rename_i hHd;clear hHd CH2 HS0 HS5 hb15 hdW H1 HS HDv HX2 HB2 HB1 HXs HBa
   gi_wp2_with fail
   refine jT rfl (by omega) (gf:=156) rfl trivial (enters_of Tryz.func156 (by kernel_rfl) rfl) (encs:=lq)
    (λ_=>rfl) (qR _ (by omega) W2.heap.size (W2.heap.size+1) w5 hD HDw.out HSt.out fi HFb.out hx5.out hy5.out (G:=λk=>k=w1.heap.size\/w5.heap.size<=k) ⟨λk hk hg=>by
      have hz:=HZ5.out;have hz2:=HZ2.out;have hw1:=HW1.out;rcases hk with hk|hk|hk|hk
      · have:=HDl.out _ hk;omega
      · have:=HSl.out _ hk;omega
      · omega
      · omega,λk hk=> .inr hk⟩) (λh k=>h.trans k (λj hj=> .inl hj)) (nI (λk hk=> .inr hk))
    (λpre X=>(∃v rs,Boxed X w1.heap.size 142 v/\X.ownsRow w5.heap.size 38 1 v rs.length rs/\mQ X (λk=>w5.heap.size<=k) rs (pre.map λz=>eK im (z.1+1) z.2))/\Below w1.heap.size w5 X)
    (λ_ _ _=>False)
    ?hI (λ_=>nZ _) ⟨⟨_, [],HX5.out,⟨rfl,.inl ⟨rfl,rfl⟩⟩,rfl,λi u b hu _=>by cases hu⟩,Below.refl _ _⟩
    (λy a' X=>a'= { tmps:= #[.pointer (some ⟨p,0,none⟩),.int .i64 n,.pointer (some ⟨W.heap.size,0,none⟩),undef,.slice none 0 0,.int .i64 (k:Nat),.pointer (some ⟨w1.heap.size,0,none⟩),.int .i64 (y.1:Int),.int .i64 (y.2:Int),.pointer (some ⟨p,0,none⟩),.int .i64 n,.int .i64 (k:Nat),.int .i64 (k:Nat),.bool false,.pointer (some ⟨p,0,none⟩),.pointer (some ⟨p,0,none⟩),.pointer (some ⟨p,0,none⟩),.pointer (some ⟨p,1,none⟩),.slice (some ⟨gb,0,none⟩) us.length cc,.int .i64 (k:Nat),.pointer (some ⟨gb,k * 3,none⟩),.pointer (some ⟨gb,k * 3+1,none⟩),.int .i64 (fi:Nat),.func (.func 156) #[] #[.pointer (some ⟨W2.heap.size+1,0,none⟩),.pointer (some ⟨W2.heap.size,0,none⟩)],.int .i64 (y.1:Int),.int .i64 (y.2:Int),undef,undef,undef,undef,undef,undef,undef,undef,undef],defers:= [] })
    (λ_ _=>fU _ _) ?assign ?body ?done (λ_ _ _ _ _ h=>h.elim)
   case hI=>refine OwnFrom.and ?_ (ownFrom_below (by have:=HZ5.out;omega) (by have:=HZ5.out;omega));rintro pre A C row ⟨v,rs,h1,h2,h3,h4⟩ hg hr;refine⟨v,rs,iB (β:=Unit) _ _ _ (λ_=>v) () A C row h1 hg hr,rX (β:=Unit) _ _ _ _ (λ_=>v) (λ_=>rs.length) (λ_=>rs) () A C row h2 hg hr,h3,λi u b hu hb=>⟨?_,(h4 i u b hu hb).2⟩⟩;exact rX (β:=Unit) _ 0 5 1 (λ_=>u) (λ_=>b.length) (λ_=>aj b) () A C row (h4 i u b hu hb).1 hg hr
   case assign=>
    rintro l pre y A0 K ⟨hI1,hI2⟩ hN hK
    gi_wp2_with fail
    exact hK _ _ (KeepsFrom.refl _ _) (Kept.refl _ _) ⟨hI1,hI2⟩ rfl
   case body=>
    rintro l pre y a' A0 hl hr ⟨⟨v,rs,hv1,hv2,hv3⟩,hI2⟩ rfl hN;have hmem:=ny _ _ _ _ _ hN.mem;have hlt:=oM (aI d.ae d.aq) y.1;have hfb:=HFb.out;have hll:=HLn.out.2.2.1;obtain⟨h1,h2,h3,h4,h5,h6⟩:=hmem;obtain⟨q,hq⟩:=aa (y.1+1);obtain⟨z,hz⟩:=aa y.2;have hbb:q+(z+63) / 64<=d.ae.length / 64:=by rw[<-hz,<-hq];unfold ax at h5;omega
    have hz1:1<=z:=by omega
    have hz2:z<=10000:=by unfold ax at h5;omega
    have hbd:Below w1.heap.size w5 A0.drew:=hI2.drew;have HZ1:=ab (show 0 < z from hz1);have hkb:Kept (λk=>w1.heap.size<=k) w5 A0.drew:=⟨hbd.os,hbd.tape,hbd.output,hbd.size,λk _ hk=>hbd.block k (by omega)⟩;have hw9:=HW1.out;have hDr:=hD.an _ _ _ _ _ _ HDw.out hkb (λk hf hk=>by have:=HDl.out _ hf;omega);have cs0:=vG hD hDr (HSt.out.an hkb (λk hf hk=>by have:=HSl.out _ hf;omega)) q z hz1 hz2 hbb;rw[HIm.out]at cs0;have CS:=ab cs0;have c6:=hv1.cell;have f6:=hv1.frozen;have c2:A0.cell? ⟨W.heap.size,0,none⟩=some (.pointer (some ⟨p,0,none⟩)):=(show Boxed A0 W.heap.size 135 _ from(hI2.block _ (by omega)).trans HXS.out).cell;have hqi:(y.1:Int)+1=(q:Int):=by omega
    have hq9:q<=10000:=by omega
    have hzi:(y.2:Int)=(z:Int):=by omega
    rw[hzi];have hl91:w1.heap.size < A0.heap.size:=hv1.lt;have hl92:W.heap.size < A0.heap.size:=World.block_lt_of_cell? _ _ c2;obtain⟨Av,cv,rfl⟩:∃Av cv,v= .slice Av rs.length cv:=by
     rcases hv2.2 with⟨h1,h0⟩|⟨g,cap,cur,h1,_⟩
     · exact⟨none,0,by rw[h1,h0]⟩
     · exact⟨_,cap,h1⟩
    obtain⟨i0,hinf,hi0,hi1,hi2⟩:=info_parts yo;have HIn:=ab hinf;have HV1:=ab hv1;have HV2:=ab hv2;have HV3:=ab hv3;have HI2:=ab hI2;have HLim:=ab (show rs.length<=64/\w5.heap.size<=A0.heap.size from⟨by rw[hv3.1,List.length_map];have:=hN.lt;have:=xU (aI d.ae d.aq) fi;omega,hI2.size⟩);have HBl:=ab (show(eK im q z).length=z by unfold eK;rw[List.length_take,List.length_drop,<-HIm.out,iv _ _ HLn.out.2.2.2.1 _ HLn.out.1];omega);have HWq:=ab (eC (q:Int) (by omega) (by omega));have HQZ:=ab (show eK im q z=eK im (y.1+1) y.2 by rw[hq,hz]);clear h1 h2 h3 h4 h5 h6 hll hfb hlt hbb hz1 hz2 hq hz hDr cs0 hbd hN hr hI2 hv1 hv2 hv3 hkb hw9 hinf;obtain⟨wq,vq⟩:=HWq.out
    gi_wp2_with fail
    refine wpIn_region_any (by kernel_rfl) ?_;refine mJ (nQ (by kernel_rfl)) (λ⟨_,_,h⟩=>h) _ _ _ _ ?_;change wpAny _ _ _ _ _ _ _ (World.drew _);refine wpAny_take (i:=2) (v:= ?v2) rfl (by kernel_rfl) (by kernel_rfl) (by kernel_rfl) (λ_ _ _ h=>h) (Or.inl ⟨by rfl,?h2⟩) ?r2
    case h2=>
     intro w
     go_simp
     try with_reducible rfl
    refine wpAny_take (i:=3) (v:= ?v3) rfl (by kernel_rfl) (by kernel_rfl) (by kernel_rfl) (λ_ _ _ h=>h) (Or.inl ⟨by rfl,?h3⟩) ?r3
    case h3=>
     intro w
     go_simp
     try with_reducible rfl
    refine wpAny_take (i:=4) (v:= ?v4) rfl (by kernel_rfl) (by kernel_rfl) (by kernel_rfl) (λ_ _ _ h=>h) (Or.inl ⟨by rfl,?h4⟩) ?r4
    case h4=>
     intro w
     go_simp
     try with_reducible rfl
    refine wpAny_ready (rs:= [0,1]) (by kernel_rfl) (by simp) ?_;refine AllReady.cons rfl (λK hK=> ?_) (AllReady.cons rfl (λK hK=> ?_) AllReady.nil)
    · go_simp
      refine hK _ _ ?_;clear hK K;refine wpAny_ready (rs:= [1]) (by kernel_rfl) (by simp) ?_;refine AllReady.cons rfl (λK hK=> ?_) AllReady.nil
      go_simp
      refine hK _ _ ?_;clear hK K;refine wpAny_ready (rs:= [5]) (by kernel_rfl) (by simp) ?_;refine AllReady.cons rfl (λK hK=> ?_) AllReady.nil
      go_simp
      (with_reducible refine(CS.out).mono ?_)
      rintro e w6 ⟨v6,rfl,ho6,hb6⟩;obtain⟨g6,cap6,rfl,_,_⟩:=ho6.form HZ1.out;have HO6:=ab ho6;have HB6:=ab hb6;have c66:=(hb6.cell (p:=⟨w1.heap.size,0,none⟩) hl91).trans c6;have f66:=(hb6.frozen (p:=⟨w1.heap.size,0,none⟩) hl91).trans f6;have c62:=(hb6.cell (p:=⟨W.heap.size,0,none⟩) hl92).trans c2;have hl61:w1.heap.size < w6.heap.size:=Nat.lt_of_lt_of_le hl91 hb6.size;have hl62:W.heap.size < w6.heap.size:=Nat.lt_of_lt_of_le hl92 hb6.size;clear ho6 hb6;refine hK _ _ ?_;clear hK K;refine wpAny_ready (rs:= [6]) (by kernel_rfl) (by simp) ?_;refine AllReady.cons rfl (λK hK=> ?_) AllReady.nil
      go_simp
      refine hK _ _ ?_;clear hK K;refine wpAny_ready (rs:= [7]) (by kernel_rfl) (by simp) ?_;refine AllReady.cons rfl (λK hK=> ?_) AllReady.nil;refine jf _ rfl (.tmp 26) (.tmp 32) 142 rfl w5.heap.size 38 i0 (.slice none 0 0) 24 Tryz.underlying142 HIn.out hi0 hi1 hi2 rfl (.slice Av rs.length cv) rs.length rs rfl (bp (bp HV2.out (eJ HB6.out)) ((Below.refl _ _).alloc (Nat.le_refl _) _)) (w6.heap.size+1) (.slice (some ⟨w6.heap.size,0,none⟩) 1 1) [.slice (some ⟨g6,0,none⟩) z cap6] rfl (Row.new w6 38 #[.slice (some ⟨g6,0,none⟩) z cap6] (0,0) _ 1 rfl rfl (by decide)) ?_ ?_ ?_ ?_ ?_
      · intro u hu;simp only[List.mem_singleton]at hu;subst hu;rfl
      · have h9:=HLim.out.1;clear wq vq;unfold maxLen;simp only[List.length_cons,List.length_nil];omega
      · have h9:=HLim.out.1;clear wq vq;simp only[List.length_cons,List.length_nil];omega
      · rw[World.size_alloc];have h9:=HLim.out.2;have h8:=(eJ HB6.out).size;clear wq vq;omega
      intro v9 w9 h1 h2 _ _;obtain⟨g9,cap9,rfl⟩:=ownsRow_succ h1;have HF:=ab (mb HV1.out HV2.out HV3.out HLim.out.2 HO6.out HBl.out (eJ HB6.out) h1 h2);obtain⟨c9,f9⟩:=HF.out.1;have HB9:=ab (show Below w1.heap.size w5 w9 from((HI2.out.trans ((eJ HB6.out).mono (Nat.le_of_lt hl91))).alloc (Nat.le_of_lt hl61) _).grown h2 (by rw[World.size_alloc];exact Nat.le_succ_of_le (Nat.le_of_lt hl61)) (λk e=>Nat.le_trans (show w1.heap.size<=w5.heap.size by have h9:=HZ5.out;clear wq vq;omega) (HV2.out.lt k e).1));clear h1 h2;refine hK _ _ ?_;clear hK K;refine wpAny_ready (rs:= [8]) (by kernel_rfl) (by simp) ?_;refine AllReady.cons rfl (λK hK=> ?_) AllReady.nil
      go_simp
      refine hK _ _ ?_;clear hK K;refine wpAny_done (by kernel_rfl) ?_ _;obtain⟨_,r1,r2,r3,r4,r5⟩:=HF.out;refine⟨r1,r2,⟨_,_,r3,r4,?_⟩,HB9.out.setCell (p:=⟨w1.heap.size,0,none⟩) (Nat.le_refl _) _⟩;rw[List.map_append,List.map_singleton,<-HQZ.out];exact r5
    · go_simp
      refine hK _ _ ?_;clear hK K;refine wpAny_ready (rs:= [0,5]) (by kernel_rfl) (by simp) ?_;refine AllReady.cons rfl (λK hK=> ?_) (AllReady.cons rfl (λK hK=> ?_) AllReady.nil)
      · go_simp
        refine hK _ _ ?_;clear hK K;refine wpAny_ready (rs:= [5]) (by kernel_rfl) (by simp) ?_;refine AllReady.cons rfl (λK hK=> ?_) AllReady.nil
        go_simp
        (with_reducible refine(CS.out).mono ?_)
        rintro e w6 ⟨v6,rfl,ho6,hb6⟩;obtain⟨g6,cap6,rfl,_,_⟩:=ho6.form HZ1.out;have HO6:=ab ho6;have HB6:=ab hb6;have c66:=(hb6.cell (p:=⟨w1.heap.size,0,none⟩) hl91).trans c6;have f66:=(hb6.frozen (p:=⟨w1.heap.size,0,none⟩) hl91).trans f6;have c62:=(hb6.cell (p:=⟨W.heap.size,0,none⟩) hl92).trans c2;have hl61:w1.heap.size < w6.heap.size:=Nat.lt_of_lt_of_le hl91 hb6.size;have hl62:W.heap.size < w6.heap.size:=Nat.lt_of_lt_of_le hl92 hb6.size;clear ho6 hb6;refine hK _ _ ?_;clear hK K;refine wpAny_ready (rs:= [6]) (by kernel_rfl) (by simp) ?_;refine AllReady.cons rfl (λK hK=> ?_) AllReady.nil
        go_simp
        refine hK _ _ ?_;clear hK K;refine wpAny_ready (rs:= [7]) (by kernel_rfl) (by simp) ?_;refine AllReady.cons rfl (λK hK=> ?_) AllReady.nil;refine jf _ rfl (.tmp 26) (.tmp 32) 142 rfl w5.heap.size 38 i0 (.slice none 0 0) 24 Tryz.underlying142 HIn.out hi0 hi1 hi2 rfl (.slice Av rs.length cv) rs.length rs rfl (bp (bp HV2.out (eJ HB6.out)) ((Below.refl _ _).alloc (Nat.le_refl _) _)) (w6.heap.size+1) (.slice (some ⟨w6.heap.size,0,none⟩) 1 1) [.slice (some ⟨g6,0,none⟩) z cap6] rfl (Row.new w6 38 #[.slice (some ⟨g6,0,none⟩) z cap6] (0,0) _ 1 rfl rfl (by decide)) ?_ ?_ ?_ ?_ ?_
        · intro u hu;simp only[List.mem_singleton]at hu;subst hu;rfl
        · have h9:=HLim.out.1;clear wq vq;unfold maxLen;simp only[List.length_cons,List.length_nil];omega
        · have h9:=HLim.out.1;clear wq vq;simp only[List.length_cons,List.length_nil];omega
        · rw[World.size_alloc];have h9:=HLim.out.2;have h8:=(eJ HB6.out).size;clear wq vq;omega
        intro v9 w9 h1 h2 _ _;obtain⟨g9,cap9,rfl⟩:=ownsRow_succ h1;have HF:=ab (mb HV1.out HV2.out HV3.out HLim.out.2 HO6.out HBl.out (eJ HB6.out) h1 h2);obtain⟨c9,f9⟩:=HF.out.1;have HB9:=ab (show Below w1.heap.size w5 w9 from((HI2.out.trans ((eJ HB6.out).mono (Nat.le_of_lt hl91))).alloc (Nat.le_of_lt hl61) _).grown h2 (by rw[World.size_alloc];exact Nat.le_succ_of_le (Nat.le_of_lt hl61)) (λk e=>Nat.le_trans (show w1.heap.size<=w5.heap.size by have h9:=HZ5.out;clear wq vq;omega) (HV2.out.lt k e).1));clear h1 h2;refine hK _ _ ?_;clear hK K;refine wpAny_ready (rs:= [8]) (by kernel_rfl) (by simp) ?_;refine AllReady.cons rfl (λK hK=> ?_) AllReady.nil
        go_simp
        refine hK _ _ ?_;clear hK K;refine wpAny_done (by kernel_rfl) ?_ _;obtain⟨_,r1,r2,r3,r4,r5⟩:=HF.out;refine⟨r1,r2,⟨_,_,r3,r4,?_⟩,HB9.out.setCell (p:=⟨w1.heap.size,0,none⟩) (Nat.le_refl _) _⟩;rw[List.map_append,List.map_singleton,<-HQZ.out];exact r5
      · go_simp
        (with_reducible refine(CS.out).mono ?_)
        rintro e w6 ⟨v6,rfl,ho6,hb6⟩;obtain⟨g6,cap6,rfl,_,_⟩:=ho6.form HZ1.out;have HO6:=ab ho6;have HB6:=ab hb6;have c66:=(hb6.cell (p:=⟨w1.heap.size,0,none⟩) hl91).trans c6;have f66:=(hb6.frozen (p:=⟨w1.heap.size,0,none⟩) hl91).trans f6;have c62:=(hb6.cell (p:=⟨W.heap.size,0,none⟩) hl92).trans c2;have hl61:w1.heap.size < w6.heap.size:=Nat.lt_of_lt_of_le hl91 hb6.size;have hl62:W.heap.size < w6.heap.size:=Nat.lt_of_lt_of_le hl92 hb6.size;clear ho6 hb6;refine hK _ _ ?_;clear hK K;refine wpAny_ready (rs:= [0,6]) (by kernel_rfl) (by simp) ?_;refine AllReady.cons rfl (λK hK=> ?_) (AllReady.cons rfl (λK hK=> ?_) AllReady.nil)
        · go_simp
          refine hK _ _ ?_;clear hK K;refine wpAny_ready (rs:= [6]) (by kernel_rfl) (by simp) ?_;refine AllReady.cons rfl (λK hK=> ?_) AllReady.nil
          go_simp
          refine hK _ _ ?_;clear hK K;refine wpAny_ready (rs:= [7]) (by kernel_rfl) (by simp) ?_;refine AllReady.cons rfl (λK hK=> ?_) AllReady.nil;refine jf _ rfl (.tmp 26) (.tmp 32) 142 rfl w5.heap.size 38 i0 (.slice none 0 0) 24 Tryz.underlying142 HIn.out hi0 hi1 hi2 rfl (.slice Av rs.length cv) rs.length rs rfl (bp (bp HV2.out (eJ HB6.out)) ((Below.refl _ _).alloc (Nat.le_refl _) _)) (w6.heap.size+1) (.slice (some ⟨w6.heap.size,0,none⟩) 1 1) [.slice (some ⟨g6,0,none⟩) z cap6] rfl (Row.new w6 38 #[.slice (some ⟨g6,0,none⟩) z cap6] (0,0) _ 1 rfl rfl (by decide)) ?_ ?_ ?_ ?_ ?_
          · intro u hu;simp only[List.mem_singleton]at hu;subst hu;rfl
          · have h9:=HLim.out.1;clear wq vq;unfold maxLen;simp only[List.length_cons,List.length_nil];omega
          · have h9:=HLim.out.1;clear wq vq;simp only[List.length_cons,List.length_nil];omega
          · rw[World.size_alloc];have h9:=HLim.out.2;have h8:=(eJ HB6.out).size;clear wq vq;omega
          intro v9 w9 h1 h2 _ _;obtain⟨g9,cap9,rfl⟩:=ownsRow_succ h1;have HF:=ab (mb HV1.out HV2.out HV3.out HLim.out.2 HO6.out HBl.out (eJ HB6.out) h1 h2);obtain⟨c9,f9⟩:=HF.out.1;have HB9:=ab (show Below w1.heap.size w5 w9 from((HI2.out.trans ((eJ HB6.out).mono (Nat.le_of_lt hl91))).alloc (Nat.le_of_lt hl61) _).grown h2 (by rw[World.size_alloc];exact Nat.le_succ_of_le (Nat.le_of_lt hl61)) (λk e=>Nat.le_trans (show w1.heap.size<=w5.heap.size by have h9:=HZ5.out;clear wq vq;omega) (HV2.out.lt k e).1));clear h1 h2;refine hK _ _ ?_;clear hK K;refine wpAny_ready (rs:= [8]) (by kernel_rfl) (by simp) ?_;refine AllReady.cons rfl (λK hK=> ?_) AllReady.nil
          go_simp
          refine hK _ _ ?_;clear hK K;refine wpAny_done (by kernel_rfl) ?_ _;obtain⟨_,r1,r2,r3,r4,r5⟩:=HF.out;refine⟨r1,r2,⟨_,_,r3,r4,?_⟩,HB9.out.setCell (p:=⟨w1.heap.size,0,none⟩) (Nat.le_refl _) _⟩;rw[List.map_append,List.map_singleton,<-HQZ.out];exact r5
        · go_simp
          refine hK _ _ ?_;clear hK K;refine wpAny_ready (rs:= [0]) (by kernel_rfl) (by simp) ?_;refine AllReady.cons rfl (λK hK=> ?_) AllReady.nil
          go_simp
          refine hK _ _ ?_;clear hK K;refine wpAny_ready (rs:= [7]) (by kernel_rfl) (by simp) ?_;refine AllReady.cons rfl (λK hK=> ?_) AllReady.nil;refine jf _ rfl (.tmp 26) (.tmp 32) 142 rfl w5.heap.size 38 i0 (.slice none 0 0) 24 Tryz.underlying142 HIn.out hi0 hi1 hi2 rfl (.slice Av rs.length cv) rs.length rs rfl (bp (bp HV2.out (eJ HB6.out)) ((Below.refl _ _).alloc (Nat.le_refl _) _)) (w6.heap.size+1) (.slice (some ⟨w6.heap.size,0,none⟩) 1 1) [.slice (some ⟨g6,0,none⟩) z cap6] rfl (Row.new w6 38 #[.slice (some ⟨g6,0,none⟩) z cap6] (0,0) _ 1 rfl rfl (by decide)) ?_ ?_ ?_ ?_ ?_
          · intro u hu;simp only[List.mem_singleton]at hu;subst hu;rfl
          · have h9:=HLim.out.1;clear wq vq;unfold maxLen;simp only[List.length_cons,List.length_nil];omega
          · have h9:=HLim.out.1;clear wq vq;simp only[List.length_cons,List.length_nil];omega
          · rw[World.size_alloc];have h9:=HLim.out.2;have h8:=(eJ HB6.out).size;clear wq vq;omega
          intro v9 w9 h1 h2 _ _;obtain⟨g9,cap9,rfl⟩:=ownsRow_succ h1;have HF:=ab (mb HV1.out HV2.out HV3.out HLim.out.2 HO6.out HBl.out (eJ HB6.out) h1 h2);obtain⟨c9,f9⟩:=HF.out.1;have HB9:=ab (show Below w1.heap.size w5 w9 from((HI2.out.trans ((eJ HB6.out).mono (Nat.le_of_lt hl91))).alloc (Nat.le_of_lt hl61) _).grown h2 (by rw[World.size_alloc];exact Nat.le_succ_of_le (Nat.le_of_lt hl61)) (λk e=>Nat.le_trans (show w1.heap.size<=w5.heap.size by have h9:=HZ5.out;clear wq vq;omega) (HV2.out.lt k e).1));clear h1 h2;refine hK _ _ ?_;clear hK K;refine wpAny_ready (rs:= [8]) (by kernel_rfl) (by simp) ?_;refine AllReady.cons rfl (λK hK=> ?_) AllReady.nil
          go_simp
          refine hK _ _ ?_;clear hK K;refine wpAny_done (by kernel_rfl) ?_ _;obtain⟨_,r1,r2,r3,r4,r5⟩:=HF.out;refine⟨r1,r2,⟨_,_,r3,r4,?_⟩,HB9.out.setCell (p:=⟨w1.heap.size,0,none⟩) (Nat.le_refl _) _⟩;rw[List.map_append,List.map_singleton,<-HQZ.out];exact r5
   case done=>
    rintro D0 A0 hD0 ⟨⟨v,rs,hv1,hv2,hv3⟩,hI2⟩ hdf;obtain⟨Av,cv,rfl⟩:∃Av cv,v= .slice Av rs.length cv:=by
     rcases hv2.2 with⟨h1,h0⟩|⟨g,cap,cur,h1,_⟩
     · exact⟨none,0,by rw[h1,h0]⟩
     · exact⟨_,cap,h1⟩
    have cn:=hv1.cell;rw[HIm.out]at hv3;have HV2:=ab hv2;have HV3:=ab hv3;have HI2:=ab hI2;have HDF:=ab hdf;have HDz:=ab hD0;clear hv1 hv2 hv3 hI2 hdf hD0
    gi_wp2_with fail
    refine⟨by simp,.inl ⟨_,_,rfl,run_takeDeferred HDF.out,?_⟩⟩;have hput:∀ {e:TypeId} {base size m:Nat} {u:Value} {xs:List Value},A0.ownsRow base e size u m xs->(A0.putObj D0 (.deferred none)).ownsRow base e size u m xs:=λh=>ownsRow_putObj h _ HDF.out rfl;refine⟨_,results_tmp rfl _ _ _,_,rfl,?_,js (HBW.out.trans (HI2.out.mono (Nat.le_of_lt hl1))) ?_ ?_⟩
    · rw[HR.out];have h2:=hput HV2.out;refine⟨rs,Row.dm h2 (Nat.le_refl _),HV3.out.1,λi u p hu hp=> ?_⟩;exact Bytes.dm (hput (HV3.out.2 i u p hu hp).1)
    · have h8:=HI2.out.size;have h9:=HZ5.out;omega
    · have h8:=HDz.out;have h9:=HZ5.out;omega
end
end Go.Proofs.YtdilnodbfnlhdaaGreatDoor
namespace Go.Proofs.YtdilnodbfnlhdaaGreatDoor
open Go.RowKit Tide
structure jm (im:List UInt8) (lim i:Nat) (b:List UInt8):Prop where
 size:1<=b.length/\b.length<=3968
 mark:bL im i=some 1
 head:eP im i=b.length
 body:eK im (i+1) b.length=b
 fits:ax i b.length<=lim
def ef (im:List UInt8) (lim:Nat):Nat->List (List UInt8)->Prop
 | i, []=>i < lim->bL im i≠some 1
 | i,b :: bs=>jm im lim i b/\ef im lim (ax i b.length) bs
def gB:Nat->List (List UInt8)->List (Nat × Nat)
 | _, []=> []
 | i,b :: bs=>(i,b.length) :: gB (ax i b.length) bs
def b9 (i:Nat) (bs:List (List UInt8)):Nat:=i+(bs.map λb=>fS b.length).sum
theorem lg (i n:Nat):ax i n=i+fS n:=by unfold ax fS;omega
theorem ir (i:Nat) (b:List UInt8) (bs:List (List UInt8)):b9 i (b :: bs)=b9 (ax i b.length) bs:=by unfold b9;rw[lg,List.map_cons,List.sum_cons];omega
theorem lu (i:Nat) (bs:List (List UInt8)):i<=b9 i bs:=by unfold b9;omega
theorem qi:∀ (i:Nat) (bs:List (List UInt8)),i+bs.length<=b9 i bs
 | i, []=>by simp[b9]
 | i,b :: bs=>by have:=qi (ax i b.length) bs;rw[ir,List.length_cons];unfold ax at *;omega
variable {im im':List UInt8} {lim:Nat}
theorem qN:∀ {bs:List (List UInt8)} {i k:Nat},ef im lim i bs->bs.length<=k->fh im lim k i=gB i bs
 | [],i,k,h,_=>nA im lim k i (λhc=>h hc.1 hc.2.1)
 | b :: bs,i,0,_,hk=>by simp at hk
 | b :: bs,i,k+1,h,hk=>by
   obtain⟨h1,h2⟩:=h;have hi:i < lim:=by have:=h1.fits;unfold ax at this;omega
   unfold fh;rw[h1.head,if_pos ⟨hi,h1.mark,by have:=h1.size;omega,h1.fits⟩,qN h2 (by simpa using hk)];rfl
theorem qP:∀ (i:Nat) (bs:List (List UInt8)),((gB i bs).getLast?.map λx=>ax x.1 x.2).getD i=b9 i bs
 | i, []=>by simp[gB,b9]
 | i, [b]=>by rw[ir];simp[gB,b9]
 | i,b :: c :: bs=>by
   have ih:=qP (ax i b.length) (c :: bs);rw[ir,<-ih];simp only[gB,List.getLast?_cons_cons];cases h:((ax i b.length,c.length) :: gB (ax (ax i b.length) c.length) bs).getLast? with
   | none=>simp at h
   | some x=>rfl
theorem qO:∀ {bs:List (List UInt8)} {i:Nat},ef im lim i bs->(gB i bs).map (λz=>eK im (z.1+1) z.2)=bs
 | [],_,_=>rfl
 | b :: bs,i,h=>by obtain⟨h1,h2⟩:=h;rw[gB,List.map_cons,qO h2,h1.body]
theorem sn:∀ {bs:List (List UInt8)} {i:Nat},ef im lim i bs->i<=lim->b9 i bs<=lim
 | [],i,_,h=>by simpa[b9]using h
 | b :: bs,i,h,_=>by rw[ir];exact sn h.2 h.1.fits
theorem jm.congr {i:Nat} {b:List UInt8} (h:jm im lim i b) (he:∀j,i<=j->j < ax i b.length->ak im' j=ak im j):jm im' lim i b where
 size:=h.size
 mark:=by rw[dC,he i (Nat.le_refl _) (by unfold ax;omega),<-dC];exact h.mark
 head:=by unfold eP;rw[he i (Nat.le_refl _) (by unfold ax;omega)];exact h.head
 body:=by rw[vz (im:=im) (λj h1 h2=>he j (by omega) (by unfold ax;omega))];exact h.body
 fits:=h.fits
theorem ef.congr:∀ {bs:List (List UInt8)} {i:Nat},ef im lim i bs->(∀j,i<=j->j < lim->j<=b9 i bs->ak im' j=ak im j)->ef im' lim i bs
 | [],i,h,he=>λhi=>by rw[dC,he i (Nat.le_refl _) hi (lu _ _),<-dC];exact h hi
 | b :: bs,i,h,he=>by have hg:=lu (ax i b.length) bs;have hf:=h.1.fits;rw[ir]at he;refine⟨h.1.congr λj h1 h2=>he j h1 (by omega) (by omega),h.2.congr λj h1 h2 h3=>he j (by unfold ax at h1;omega) h2 h3⟩
theorem ef.snoc:∀ {bs:List (List UInt8)} {i:Nat} {b:List UInt8},ef im lim i bs->(∀j,i<=j->j < b9 i bs->ak im' j=ak im j)->jm im' lim (b9 i bs) b->(ax (b9 i bs) b.length < lim->bL im' (ax (b9 i bs) b.length)≠some 1)->ef im' lim i (bs ++ [b])
 | [],i,b,_,_,h1,h2=>by
   have e:b9 i []=i:=by simp[b9]
   rw[e]at h1 h2;exact⟨h1,h2⟩
 | c :: bs,i,b,h,he,h1,h2=>by rw[ir]at he h1 h2;have hg:=lu (ax i c.length) bs;refine⟨h.1.congr λj h3 h4=>he j h3 (by omega),h.2.snoc (λj h3 h4=>he j (by unfold ax at h3;omega) h4) h1 h2⟩
end Go.Proofs.YtdilnodbfnlhdaaGreatDoor
namespace Go.Proofs.YtdilnodbfnlhdaaGreatDoor
open Go.RowKit Tide
theorem ef.tail {im im':List UInt8} {lim:Nat}:∀ {bs:List (List UInt8)} {i:Nat},ef im lim i bs->(∀j,i<=j->j < b9 i bs->ak im' j=ak im j)->(b9 i bs < lim->bL im' (b9 i bs)≠some 1)->ef im' lim i bs
 | [],i,h,he,hm=>by
   have e:b9 i []=i:=by simp[b9]
   rw[e]at hm;exact hm
 | b :: bs,i,h,he,hm=>by have hg:=lu (ax i b.length) bs;rw[ir]at he hm;exact⟨h.1.congr λj h1 h2=>he j h1 (by omega),h.2.tail (λj h1 h2=>he j (by unfold ax at h1;omega) h2) hm⟩
structure jo (im:List UInt8) (g:aE):Prop where
 mark:bL im (64 * g.place)=some 1
 num:bB ((ak im (64 * g.place)).take 8)=g.number
 aL:ef im (64 * g.place+64) (64 * g.place+1) g.aL
structure aQ (n:Nat) (im:List UInt8) (m:aM):Prop where
 len:im.length=64 * n
 places:m.places=n / 64
 ag:∀g ∈ m.ag,jo im g
 free:∀p,p < m.places->(∀g ∈ m.ag,g.place≠p)->bL im (64 * p)≠some 1
 wf:m.Wf
theorem jo.congr {im im':List UInt8} {g:aE} (h:jo im g) (he:∀j,64 * g.place<=j->j < 64 * g.place+64->ak im' j=ak im j):jo im' g where
 mark:=by rw[dC,he _ (Nat.le_refl _) (by omega),<-dC];exact h.mark
 num:=by rw[he _ (Nat.le_refl _) (by omega)];exact h.num
 aL:=h.aL.congr λj h1 h2 _=>he j (by omega) h2
theorem gT {im im':List UInt8} {i:Nat} (h:ak im' i=ak im i):bL im' i=bL im i:=by rw[dC,h,<-dC]
def bj (g:aE):Nat:=64 * g.place+1+g.iG
theorem kn {s:aM} (h:s.Wf) {g:aE} (hg:g ∈ s.ag):b9 (64 * g.place+1) g.aL=bj g:=by have:=(h.aL g hg).1;unfold b9 bj;omega
section
variable {n:Nat} {im im':List UInt8} {m:aM}
theorem aQ.on (h:aQ n im m) {g:aE} (hg:g ∈ m.ag):64 * g.place+64<=n:=by have h1:=h.wf.place g hg;rw[h.places]at h1;omega
theorem aQ.outside (h:aQ n im m) (hl:im'.length=64 * n) {P:Nat} (hP:∀g ∈ m.ag,g.place≠P) (he:∀j,j < 64 * P\/64 * P+64<=j->ak im' j=ak im j) (hm:bL im' (64 * P)≠some 1):aQ n im' m where
 len:=hl
 places:=h.places
 ag:=λg hg=>(h.ag g hg).congr λj h1 h2=>he j (by have:=hP g hg;omega)
 free:=λp hp hf=>by
  by_cases e:p=P
  · subst e;exact hm
  · rw[gT (he (64 * p) (by omega))];exact h.free p hp hf
 wf:=h.wf
theorem aQ.taken (h:aQ n im m) (hl:im'.length=64 * n) {P no:Nat} (hP:∀g ∈ m.ag,g.place≠P) (he:∀j,j < 64 * P\/64 * P+64<=j->ak im' j=ak im j) (hm:bL im' (64 * P)=some 1) (hno:bB ((ak im' (64 * P)).take 8)=no) (h1:bL im' (64 * P+1)≠some 1)
 (hw:({ m with ag:=m.ag ++ [⟨P,no,0, []⟩] }:aM).Wf):aQ n im' { m with ag:=m.ag ++ [⟨P,no,0, []⟩] } where
 len:=hl
 places:=h.places
 ag:=λg hg=>by
  rcases List.mem_append.1 hg with hg|hg
  · exact(h.ag g hg).congr λj h1 h2=>he j (by have:=hP g hg;omega)
  · simp only[List.mem_singleton]at hg;subst hg;exact⟨hm,hno,λ_=>h1⟩
 free:=λp hp hf=>by have hne:P≠p:=hf ⟨P,no,0, []⟩ (by simp);rw[gT (he (64 * p) (by omega))];exact h.free p hp (λg hg=>hf g (by simp[hg]))
 wf:=hw
theorem aQ.behind (h:aQ n im m) (hl:im'.length=64 * n) {g:aE} (hg:g ∈ m.ag) (he:∀j,j < bj g\/64 * g.place+64<=j->ak im' j=ak im j) (hm:bj g < 64 * g.place+64->bL im' (bj g)≠some 1):aQ n im' m where
 len:=hl
 places:=h.places
 ag:=λx hx=>by
  by_cases e:x.place=g.place
  · have hxg:x=g:=by
     have h1:=h.wf.apart;obtain⟨i,hi,rfl⟩:=List.getElem_of_mem hx;obtain⟨j,hj,rfl⟩:=List.getElem_of_mem hg;have h2:=(List.pairwise_iff_getElem.1 h1);by_cases hij:i=j
     · subst hij;rfl
     · rcases Nat.lt_or_gt_of_ne hij with h3|h3
       · exact absurd (by rw[List.getElem_map,List.getElem_map];exact e) (h2 i j (by simpa using hi) (by simpa using hj) h3)
       · exact absurd (by rw[List.getElem_map,List.getElem_map];exact e.symm) (h2 j i (by simpa using hj) (by simpa using hi) h3)
    subst hxg;have h1:=h.ag x hx;have hge:64 * x.place+1<=bj x:=by unfold bj;omega
    refine⟨?_,?_,h1.aL.tail (λj h2 h3=>he j ?_) ?_⟩
    · rw[gT (he _ (by omega))];exact h1.mark
    · rw[he _ (by omega)];exact h1.num
    · rw[kn h.wf hx]at h3;exact .inl h3
    · rw[kn h.wf hx];exact hm
  · exact(h.ag x hx).congr λj h1 h2=>he j (by unfold bj;omega)
 free:=λp hp hf=>by have hne:=hf g hg;rw[gT (he (64 * p) (by unfold bj;omega))];exact h.free p hp hf
 wf:=h.wf
theorem aQ.A9 {l:List aE} {g:aE} {b:List UInt8} (h:aQ n im { m with ag:=l ++ [g] }) (hl:im'.length=64 * n) (he:∀j,j < bj g\/64 * g.place+64<=j->ak im' j=ak im j)
 (h1:jm im' (64 * g.place+64) (bj g) b) (h2:ax (bj g) b.length < 64 * g.place+64->bL im' (ax (bj g) b.length)≠some 1) (hw:({ m with ag:=l ++ [g.push b] }:aM).Wf):aQ n im' { m with ag:=l ++ [g.push b] } where
 len:=hl
 places:=h.places
 ag:=λx hx=>by
  have hgm:g ∈ l ++ [g]:=by simp
  rcases List.mem_append.1 hx with hx|hx
  · have hne:x.place≠g.place:=by have h3:=h.wf.apart;simp only[List.map_append,List.map_cons,List.map_nil]at h3;exact(List.pairwise_append.1 h3).2.2 x.place (List.mem_map.2 ⟨x,hx,rfl⟩) g.place (by simp)
    exact(h.ag x (List.mem_append_left _ hx)).congr λj h1 h2=>he j (by unfold bj;omega)
  · simp only[List.mem_singleton]at hx;subst hx;have h3:=h.ag g hgm;have hge:64 * g.place+1<=bj g:=by unfold bj;omega
    have hend:=kn h.wf hgm;refine⟨?_,?_,?_⟩
    · show bL im' (64 * g.place)=_;rw[gT (he _ (by omega))];exact h3.mark
    · show bB ((ak im' (64 * g.place)).take 8)=g.number;rw[he _ (by omega)];exact h3.num
    · show ef im' (64 * g.place+64) (64 * g.place+1) (g.aL ++ [b]);exact h3.aL.snoc (λj h4 h5=>he j (by rw[hend]at h5;exact .inl h5)) (by rw[hend];exact h1) (by rw[hend];exact h2)
 free:=λp hp hf=>by
  have hne:g.place≠p:=hf (g.push b) (by simp);rw[gT (he (64 * p) (by unfold bj;omega))];refine h.free p hp λx hx=> ?_;rcases List.mem_append.1 hx with hx|hx
  · exact hf x (List.mem_append_left _ hx)
  · simp only[List.mem_singleton]at hx;subst hx;exact hne
 wf:=hw
end
end Go.Proofs.YtdilnodbfnlhdaaGreatDoor
