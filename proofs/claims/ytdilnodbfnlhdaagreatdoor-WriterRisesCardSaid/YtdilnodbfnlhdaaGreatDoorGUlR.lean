import Derived.Test.YtdilnodbfnlhdaaGreatDoorGUlA
import Derived.Test.YtdilnodbfnlhdaaGreatDoorGUiG
import Derived.Test.YtdilnodbfnlhdaaGreatDoorGUrU
import Derived.Test.YtdilnodbfnlhdaaGreatDoorGSgA
import Derived.Test.YtdilnodbfnlhdaaGreatDoorGConv
import Derived.Test.YtdilnodbfnlhdaaGreatDoorGPush
import Derived.Test.YtdilnodbfnlhdaaGreatDoorGErr
import Derived.Test.YtdilnodbfnlhdaaGreatDoorGUrS
import Derived.Test.YtdilnodbfnlhdaaGreatDoorGKeep
import Derived.Test.YtdilnodbfnlhdaaGreatDoorGBits7
import Derived.Test.YtdilnodbfnlhdaaGreatDoorGPlR
import Derived.Test.YtdilnodbfnlhdaaGreatDoorGPlN
import Derived.Deep.RegionHeld3
import Derived.Deep.QuietTactic
import Derived.BigQuiet
import Derived.IntWalk
import Derived.Deep.DeepCutAuto
import Derived.Deep.CutBlock
import Derived.WalkKit
import Derived.WalkSpells
set_option maxHeartbeats 2000000
set_option maxRecDepth 100000
namespace Go.Proofs.YtdilnodbfnlhdaaGreatDoor
open Go.RowKit Tide
def ji (w:World) (a:Nat->Addr):Prop:=w.cell? ⟨4,0,none⟩=some (ai (a 0))/\w.cell? ⟨2,0,none⟩=some (ai (a 3))/\4 < w.heap.size/\2 < w.heap.size
theorem ji.below {w w':World} {a:Nat->Addr} (h:ji w a) (hb:Below w.heap.size w w'):ji w' a:=
 ⟨(hb.cell (p:=⟨4,0,none⟩) h.2.2.1).trans h.1,(hb.cell (p:=⟨2,0,none⟩) h.2.2.2).trans h.2.1,by have:=h.2.2.1;have:=hb.size;omega,by have:=h.2.2.2;have:=hb.size;omega⟩
theorem iY {B:Nat} {a w:World} (h:Below B a w) (n:Nat):Below B a (w.drewN n):=⟨h.os,h.tape,h.output,h.size,h.block⟩
def pn (E:Nat->Addr) (ep:Int) (cs:List (List Int)) (a:Int) (v:Value):Prop:=
 (aP ep cs=false/\v= .tuple #[.int .i64 0,.int .i64 0,ai (E 3)])\/(aP ep cs=true/\¬(0<=a/\a<=4095)/\v= .tuple #[.int .i64 0,.int .i64 0,ai (E 0)])\/
   (aP ep cs=true/\0<=a/\a<=4095/\v= .tuple #[.int .i64 (a % cs.length),.int .i64 (a / cs.length),.nilIface])
theorem sb (E:Nat->Addr) (ep:Int) (cs:List (List Int)) (v:Value) (a:Int) (B:Nat) (w:World) (hv:cO w B v cs) (hB:B<=w.heap.size) (hE:ji w E):
 Calls Tryz.prog 84 #[cL ep v,.int .i64 a] w λe w'=>∃x,e= .returned x/\pn E ep cs a x/\Below w.heap.size w w':=by
 obtain⟨hlen,A,c,rfl,hcl⟩:=hv.form;clear hcl;have B0:=ab ((Below.refl w.heap.size w).alloc (Nat.le_refl _) (.cells #[.int .i64 ep,.slice A cs.length c] 24));have P0:=ab (aH.new w 24 (.int .i64 ep) (.slice A cs.length c));have CR:=ab (λW (h:Below w.heap.size w W)=>sC ep cs _ B W (hv.below (h.mono hB)) (Nat.le_trans hB h.size));have HE:=ab hE;have HP:=ab (λh=> @oD ep cs h);clear hv hB hE;cases hr:aP ep cs with
 | false=>
   rw[hr]at CR;have HR:=ab hr;clear hr
   go_enter Tryz.func84,Tryz.ntmps84
   go_wp2_with fail
   refine(CR.out _ B0.out).mono ?_;rintro e w1 ⟨rfl,hb⟩;have HB:=ab (B0.out.trans (hb.mono B0.out.size));obtain⟨e0,e3,_,_⟩:=HE.out.below HB.out;clear hb
   go_wp2_with fail
   go_quiet (fail)
   go_wp2_with fail
   go_ret3
   exact⟨_,rfl,.inl ⟨HR.out,rfl⟩,iY HB.out _⟩
 | true=>
   rw[hr]at CR HP;have hn:=HP.out rfl;have n1:=hn.2.2.1;have n3:=hn.2.2.2.1;have HR:=ab hr;clear hn HP hr;cases q0:decide (a < 0) with
   | true=>
     go_enter Tryz.func84,Tryz.ntmps84
     go_wp2_with fail
     refine(CR.out _ B0.out).mono ?_;rintro e w1 ⟨rfl,hb⟩;have HB:=ab (B0.out.trans (hb.mono B0.out.size));obtain⟨e0,e3,_,_⟩:=HE.out.below HB.out;clear hb
     go_wp2_with fail
     go_quiet (fail)
     go_wp2_with fail
     go_ret3
     exact⟨_,rfl,.inr (.inl ⟨HR.out,by simp at q0;omega,rfl⟩),iY HB.out _⟩
   | false=>
   cases q1:decide (4096<=a) with
   | true=>
     go_enter Tryz.func84,Tryz.ntmps84
     go_wp2_with fail
     refine(CR.out _ B0.out).mono ?_;rintro e w1 ⟨rfl,hb⟩;have HB:=ab (B0.out.trans (hb.mono B0.out.size));obtain⟨e0,e3,_,_⟩:=HE.out.below HB.out;clear hb
     go_wp2_with fail
     go_quiet (fail)
     go_wp2_with fail
     go_ret3
     exact⟨_,rfl,.inr (.inl ⟨HR.out,by simp at q1;omega,rfl⟩),iY HB.out _⟩
   | false=>
     have i0:0<=a:=by simp at q0;omega
     have i1:a < 4096:=by simp at q1;omega
     have HX:=ab (λ(x:Value) (h:x= .tuple #[.int .i64 (a % cs.length),.int .i64 (a / cs.length),.nilIface])=>(show pn E ep cs a x from .inr (.inr ⟨HR.out,i0,by omega,h⟩)));generalize cs.length=n at *;have nz:(0:Int)<=(n:Int):=by omega
     have nq:((n:Int) == 0)=false:=by simp;omega
     go_enter Tryz.func84,Tryz.ntmps84
     go_wp2_with fail
     refine(CR.out _ B0.out).mono ?_;rintro e w1 ⟨rfl,hb⟩;have HB:=ab (B0.out.trans (hb.mono B0.out.size));obtain⟨_,hc0,hc1,_⟩:=(P0.out.below hb P0.out.lt).facts;clear hb
     go_wp2_with fail
     go_quiet (fail)
     go_wp2_with fail
     go_ret3
     exact⟨_,rfl,HX.out _ rfl,iY HB.out _⟩
end Go.Proofs.YtdilnodbfnlhdaaGreatDoor
namespace Go.Proofs.YtdilnodbfnlhdaaGreatDoor
open Go.RowKit Tide
end Go.Proofs.YtdilnodbfnlhdaaGreatDoor
namespace Go.Proofs.YtdilnodbfnlhdaaGreatDoor
open Go.RowKit Tide
theorem wZ (x y:List UInt8) (v u:Value) (B B':Nat) (w:World) (hx:Bytes w B v x) (hy:Bytes w B' u y):Calls Tryz.prog 99 #[v,u] w λe w'=>e= .returned (.bool (decide (x=y)))/\w=w':=by
 have cx:=jy hx;have cy:=jy hy;have HQ:=ab (show((text x).toList == (text y).toList)=decide (x=y) from by rw[show(text x).toList=x by rw[ByteArray.toList_eq];simp[text],show(text y).toList=y by rw[ByteArray.toList_eq];simp[text],Bool.eq_iff_iff];simp);generalize text x=s at *;generalize text y=t at *;clear hx hy
 go_enter Tryz.func99,Tryz.ntmps99
 go_wp2_with fail
 go_ret
 exact⟨by rw[<-HQ.out]<;>rfl,rfl⟩
end Go.Proofs.YtdilnodbfnlhdaaGreatDoor
namespace Go.Proofs.YtdilnodbfnlhdaaGreatDoor
open Go Go.RowKit Tide
theorem ra {cs:List (List Int)} {a:Int} {k:Nat} (hk:k < cs.length) (h:a.toNat % cs.length=k):bU cs a=cs[k]:=by unfold bU;rw[h,List.getD_eq_getElem?_getD,List.getElem?_eq_getElem hk];rfl
end Go.Proofs.YtdilnodbfnlhdaaGreatDoor
namespace Go.Proofs.YtdilnodbfnlhdaaGreatDoor
open Go Go.RowKit Go.Shelf Tide
section
variable {D:az} {a:Nat->Addr} {w W W':World} {FX0:Nat->Prop} {X0:World->Prop} {g q dev n N M:Nat} {u ur:av} {G S:Nat->Prop}
end
end Go.Proofs.YtdilnodbfnlhdaaGreatDoor
namespace Go.Proofs.YtdilnodbfnlhdaaGreatDoor
open Go Go.RowKit Tide
def gO (W:World) (F:Nat->Prop) (k:Nat):Prop:=k < W.heap.size/\¬F k
def iL (W:World) (F:Nat->Prop) (Y:World):Prop:=W.heap.size<=Y.heap.size/\∀k,gO W F k->Y.heap[k]? =W.heap[k]?
theorem mx (W:World) (F:Nat->Prop):cY (gO W F) (iL W F):=λ_ _ _ h hl hk hf=>⟨Nat.le_trans h.1 hk.size,λk hr=>(hk.block k (hl k hr) (hf k hr)).trans (h.2 k hr)⟩
theorem sK (W:World) (F:Nat->Prop):iL W F W:=⟨Nat.le_refl _,λ_ _=>rfl⟩
def cZ (D:az) (w W:World) (F:Nat->Prop) (g n N:Nat) (u:av):Prop:=
 (∃p bm dev,UL D w (gO W F) (λ_=>True) g p bm dev n N u W)/\∀k,F k->w.heap.size<=k/\k < W.heap.size
def mU (D:az) (w W:World) (F:Nat->Prop) (g n N:Nat) (u:av) (w':World):Prop:=∃F',cZ D w w' F' g n N u/\(∀k,F' k->F k\/W.heap.size<=k)/\Kept F W w'
section
variable {D:az} {a:Nat->Addr} {x:Nat->Addr} {w W W':World} {F K:Nat->Prop} {g p bm dev n N M:Nat} {u u':av}
theorem cZ.since (h:cZ D w W F g n N u):Below w.heap.size w W:=by obtain⟨⟨p,bm,dev,h1⟩,_⟩:=h;exact h1.since
theorem cZ.mono (h:cZ D w W F g n N u) (hNM:N<=M):cZ D w W F g n M u:=by obtain⟨⟨p,bm,dev,h1⟩,h2⟩:=h;exact⟨⟨p,bm,dev,h1.mono hNM⟩,h2⟩
theorem cZ.kept (hD:aC x D) (h:cZ D w W F g n N u) (hk:Kept K W W') (hK:∀k,K k->¬F k/\w.heap.size<=k):cZ D w W' F g n N u:=by
 obtain⟨⟨p,bm,dev,h1⟩,h2⟩:=h;have hz:=hk.size;refine⟨⟨p,bm,dev,h1.swap hD (K:=λk=>K k/\k < W.heap.size) (hk.mono (λi hi e=>⟨e,hi⟩)) (λk e=>⟨⟨e.2,(hK k e.1).1⟩,(hK k e.1).2⟩) (λk e=> ?_) (λk e=>e.1) trivial⟩,λk e=>⟨(h2 k e).1,Nat.lt_of_lt_of_le (h2 k e).2 hz⟩⟩;rcases Nat.lt_or_ge k W.heap.size with hlt|hge
 · exact .inl ⟨hlt,e.2⟩
 · exact .inr hge
theorem cZ.below (hD:aC x D) (h:cZ D w W F g n N u) (hb:Below W.heap.size W W'):cZ D w W' F g n N u:=h.kept hD (K:=λ_=>False) (Kept.al hb) (λ_ h=>h.elim)
theorem UL.tL (hs:Below w.heap.size w W) (hF:∀k,F k->w.heap.size<=k/\k < W.heap.size) (h:UL D w (gO W F) (iL W F) g p bm dev n N u W'):mU D w W F g n N u W':=by
 have hx:=h.iq;have hw:=h.since;refine⟨λk=>w.heap.size<=k/\k < W'.heap.size/\¬gO W F k,⟨⟨p,bm,dev,h.less (λk e=> ?_) (λ_ _=>trivial)⟩,λk e=>⟨e.1,e.2.1⟩⟩,λk e=> ?_,⟨hw.os.trans hs.os.symm,hw.tape.trans hs.tape.symm,hw.output.trans hs.output.symm,hx.1,λk hlt hf=>hx.2 k ⟨hlt,hf⟩⟩⟩
 · by_cases hlt:k < w.heap.size
   · exact⟨Nat.lt_of_lt_of_le hlt hs.size,λhf=>by have:=(hF k hf).1;omega⟩
   · exact Classical.byContradiction λhn=>e.2 ⟨by omega,e.1,hn⟩
 · by_cases hlt:k < W.heap.size
   · exact .inl (Classical.byContradiction λhn=>e.2.2 ⟨hlt,hn⟩)
   · exact .inr (by omega)
theorem cZ.beside (hD:aC x D) (h:cZ D w W F g n N u):∃p bm dev,UL D w (gO W F) (iL W F) g p bm dev n N u W:=by obtain⟨⟨p,bm,dev,h1⟩,h2⟩:=h;exact⟨p,bm,dev,h1.swap hD (K:=λ_=>False) (Kept.refl _ W) (λ_ h=>h.elim) (λ_ e=> .inl e) (λ_ e=>e.1) (sK W F)⟩
theorem cZ.write (hD:aC (three a) D) (hE:ar w a) (hn:n<=1000) (hNl:N<=90000) (h:cZ D w W F g n N u) (ep a':Int) (vb:Value) (b:List UInt8) (hv:Bytes W W.heap.size vb b):
 Calls Tryz.prog 98 #[.pointer (some ⟨g,0,none⟩),.int .i64 ep,.int .i64 a',vb] W λe w'=>∃x,e= .returned x/\bf a x (cw u ep a' b).2/\mU D w W F g n (N+1) (cw u ep a' b).1 w':=by
 obtain⟨p,bm,dev,h1⟩:=h.beside hD;refine(h1.write hD (mx W F) hE hn hNl ep a' vb b hv).mono ?_;rintro e w' ⟨x,he,hx,hU⟩;exact⟨x,he,hx,hU.tL h.since h.2⟩
theorem cZ.read (hD:aC (three a) D) (hE:ar w a) (h:cZ D w W F g n N u) (ep a':Int):
 Calls Tryz.prog 86 #[.pointer (some ⟨g,0,none⟩),.int .i64 ep,.int .i64 a'] W λe w'=>∃v x,e= .returned (.tuple #[v,x])/\Bytes w' w'.heap.size v (fa u ep a').1/\(∀k,v.ownBlock=some k->W.heap.size<=k/\k < w'.heap.size)/\bf a x (fa u ep a').2/\Below W.heap.size W w':=by
 obtain⟨p,bm,dev,h1⟩:=h.beside hD;refine(h1.Bv hD (mx W F) hE ep a').mono ?_;rintro e w' ⟨v,x,he,hv,ho,hx,hb,_⟩;exact⟨v,x,he,hv,ho,hx,hb⟩
end
end Go.Proofs.YtdilnodbfnlhdaaGreatDoor
namespace Go.Proofs.YtdilnodbfnlhdaaGreatDoor
open Go Go.RowKit Tide
section
variable {W W':World} {H K:Nat->Prop} {q:Nat} {u:av}
end
def jv (up:Nat->Bool) (q:Nat->Nat) (i:Nat):Value:=if up i=true then .pointer (some ⟨q i,0,none⟩) else .pointer none
section
variable {W W':World} {H:Nat->Nat->Prop} {K:Nat->Prop} {q:Nat->Nat} {us:Nat->av}
end
end Go.Proofs.YtdilnodbfnlhdaaGreatDoor
namespace Go.Proofs.YtdilnodbfnlhdaaGreatDoor
open Go Go.RowKit Tide
structure et (D:az) (w W:World) (g:Nat->Nat) (H:Nat->Nat->Prop) (m n N:Nat) (us:Nat->av):Prop where
 un:∀i,i < m->cZ D w W (H i) (g i) n N (us i)
 apart:∀i j,i < m->j < m->i≠j->∀k,H i k->¬H j k
 since:Below w.heap.size w W
def aJ (m:Nat) (H:Nat->Nat->Prop) (k:Nat):Prop:=∃i,i < m/\H i k
def b7 (D:az) (w W:World) (g:Nat->Nat) (H:Nat->Nat->Prop) (m n N:Nat) (us:Nat->av) (w':World):Prop:=∃H',et D w w' g H' m n N us/\(∀i k,H' i k->H i k\/W.heap.size<=k)/\Kept (aJ m H) W w'
section
variable {D:az} {x:Nat->Addr} {w W W':World} {H:Nat->Nat->Prop} {K:Nat->Prop} {g:Nat->Nat} {m n N M:Nat} {us:Nat->av}
theorem et.mono (h:et D w W g H m n N us) (hNM:N<=M):et D w W g H m n M us:=⟨λi hi=>(h.un i hi).mono hNM,h.apart,h.since⟩
theorem et.kept (hD:aC x D) (h:et D w W g H m n N us) (hk:Kept K W W') (hK:∀k,K k->¬aJ m H k/\w.heap.size<=k):et D w W' g H m n N us:=
 ⟨λi hi=>(h.un i hi).kept hD hk (λk e=>⟨λhf=>(hK k e).1 ⟨i,hi,hf⟩,(hK k e).2⟩),h.apart,h.since.trans ⟨hk.os,hk.tape,hk.output,hk.size,λk hl=>hk.block k (Nat.lt_of_lt_of_le hl h.since.size) (λe=>Nat.not_lt.2 (hK k e).2 hl)⟩⟩
theorem et.below (hD:aC x D) (h:et D w W g H m n N us) (hb:Below W.heap.size W W'):et D w W' g H m n N us:=h.kept hD (K:=λ_=>False) (Kept.al hb) (λ_ h=>h.elim)
theorem et.lt (h:et D w W g H m n N us):∀k,aJ m H k->w.heap.size<=k/\k < W.heap.size:=λk ⟨i,hi,e⟩=>(h.un i hi).2 k e
theorem b7.refl (hD:aC x D) (h:et D w W g H m n N us) (hb:Below W.heap.size W W'):b7 D w W g H m n N us W':=⟨H,h.below hD hb,λ_ _ h=> .inl h,Kept.al hb⟩
theorem b7.mono (h:b7 D w W g H m n N us W') (hNM:N<=M):b7 D w W g H m n M us W':=by obtain⟨H',h1,h2,h3⟩:=h;exact⟨H',h1.mono hNM,h2,h3⟩
theorem et.step (hD:aC x D) (h:et D w W g H m n N us) {i:Nat} (hi:i < m) {u:av} (hs:mU D w W (H i) (g i) n (N+1) u W'):b7 D w W g H m n (N+1) (gl us i u) W':=by
 obtain⟨H',h1,h2,h3⟩:=hs;refine⟨λj=>if j=i then H' else H j,⟨λj hj=> ?_,λj l hj hl hne k=> ?_,h1.since⟩,λj k hk=> ?_,h3.mono (λk _ e=>⟨i,hi,e⟩)⟩
 · show cZ D w W' (if j=i then H' else H j) (g j) n (N+1) (gl us i u j);by_cases e:j=i
   · subst e;rw[if_pos rfl,mF];exact h1
   · rw[if_neg e,kT _ _ e];exact((h.un j hj).kept hD h3 (λk hk=>⟨λhf=>h.apart j i hj hi e k hf hk,((h.un i hi).2 k hk).1⟩)).mono (Nat.le_succ _)
 · show(if j=i then H' else H j) k->¬(if l=i then H' else H l) k;by_cases e1:j=i
   · subst e1;rw[if_pos rfl,if_neg (λe=>hne e.symm)];intro a b;rcases h2 k a with a|a
     · exact h.apart j l hj hl hne k a b
     · have:=((h.un l hl).2 k b).2;omega
   · rw[if_neg e1];by_cases e2:l=i
     · subst e2;rw[if_pos rfl];intro a b;rcases h2 k b with b|b
       · exact h.apart j l hj hl hne k a b
       · have:=((h.un j hj).2 k a).2;omega
     · rw[if_neg e2];exact h.apart j l hj hl hne k
 · show H j k\/_;by_cases e:j=i
   · subst e;have hk:(if j=j then H' else H j) k:=hk;rw[if_pos rfl]at hk;exact h2 k hk
   · have hk:(if j=i then H' else H j) k:=hk;rw[if_neg e]at hk;exact .inl hk
theorem b7.trans {us3:Nat->av} {W1 W2:World} {H1:Nat->Nat->Prop} (h1:∀i k,H1 i k->H i k\/W.heap.size<=k) (hk:Kept (aJ m H) W W1) (h2:b7 D w W1 g H1 m n N us3 W2):b7 D w W g H m n N us3 W2:=by
 obtain⟨H2,a1,a2,a3⟩:=h2;have hz:=hk.size;refine⟨H2,a1,λi k e=> ?_,hk.trans a3 (λk ⟨i,hi,e⟩=>(h1 i k e).imp (λe=>⟨i,hi,e⟩) id)⟩;rcases a2 i k e with e|e
 · exact h1 i k e
 · exact .inr (by omega)
theorem b7.after {W1 W2:World} (hb:Below W.heap.size W W1) (h2:b7 D w W1 g H m n N us W2):b7 D w W g H m n N us W2:=
 b7.trans (λ_ _ e=> .inl e) (Kept.al hb) h2
end
def gH (m:Nat) (up:Nat->Bool) (q:Nat->Nat):List Value:=(List.range m).map (jv up q)
theorem sH (m:Nat) (up:Nat->Bool) (q:Nat->Nat):(gH m up q).length=m:=by simp[gH]
theorem Ch {m:Nat} (up:Nat->Bool) (q:Nat->Nat) {i:Nat} (h:i < m):(gH m up q)[i]? =some (jv up q i):=by simp[gH,h]
theorem kN {W:World} {B m:Nat} {v:Value} {up:Nat->Bool} {q:Nat->Nat} (hm:0 < m) (h:Row W B v (gH m up q)):∃b o c,v= .slice (some ⟨b,o,none⟩) m c/\b < B/\∀i,i < m->W.cell? ⟨b,o+i,none⟩=some (jv up q i):=by obtain⟨_,A,c,rfl,_,_,hc⟩:=h;obtain⟨b,o,rfl,hb,hcell⟩:=hc (by intro e;have:=sH m up q;rw[e]at this;simp at this;omega);exact⟨b,o,c,by rw[sH],hb,λi hi=>hcell i _ (Ch up q hi)⟩
def mV (m:Nat) (up:Nat->Bool):Prop:=0 < m/\m<=12/\∀i,m<=i->i < 12->up i=false
theorem oU {m:Nat} {up:Nat->Bool} (hm:mV m up) {n:Int} (h:dO up n=true):∃i:Nat,n=i/\i < m/\up i=true:=by
 obtain⟨hn0,hn6,hup⟩:=Eo h;obtain⟨i,rfl⟩:∃i:Nat,n=(i:Int):=⟨n.toNat,by omega⟩;rw[Int.toNat_natCast]at hup;refine⟨i,rfl,?_,hup⟩;rcases Nat.lt_or_ge i m with hlt|hge
 · exact hlt
 · have:=hm.2.2 i hge (by omega);rw[this]at hup;cases hup
def cH (W:World) (s:Nat) (v:Value) (ep:Int) (vc:Value) (own:Int):Prop:=W.heap[s]? =some (.cells #[v,.int .i64 ep,vc,.int .i64 own] 105 (0,0))
theorem cH.new (W:World) (v:Value) (ep:Int) (vc:Value) (own:Int):cH (W.alloc (.cells #[v,.int .i64 ep,vc,.int .i64 own] 105)) W.heap.size v ep vc own:=heap_alloc_new W _
theorem cH.lt {W:World} {s:Nat} {v:Value} {ep:Int} {vc:Value} {own:Int} (h:cH W s v ep vc own):s < W.heap.size:=by
 rcases Nat.lt_or_ge s W.heap.size with hlt|hge
 · exact hlt
 · unfold cH at h;rw[Array.getElem?_eq_none hge]at h;cases h
theorem cH.kept {W W':World} {K:Nat->Prop} {s:Nat} {v:Value} {ep:Int} {vc:Value} {own:Int} (h:cH W s v ep vc own) (hk:Kept K W W') (hK:¬K s):cH W' s v ep vc own:=(hk.block s h.lt hK).trans h
theorem cH.below {W W':World} {s:Nat} {v:Value} {ep:Int} {vc:Value} {own:Int} (h:cH W s v ep vc own) (hb:Below W.heap.size W W'):cH W' s v ep vc own:=(hb.block s h.lt).trans h
theorem cH.facts {W:World} {s:Nat} {v:Value} {ep:Int} {vc:Value} {own:Int} (h:cH W s v ep vc own):W.cell? ⟨s,0,none⟩=some v/\W.cell? ⟨s,1,none⟩=some (.int .i64 ep)/\W.cell? ⟨s,2,none⟩=some vc/\W.cell? ⟨s,3,none⟩=some (.int .i64 own):=
 ⟨cell_of_row _ _ 0 _ _ _ h,cell_of_row _ _ 1 _ _ _ h,cell_of_row _ _ 2 _ _ _ h,cell_of_row _ _ 3 _ _ _ h⟩
end Go.Proofs.YtdilnodbfnlhdaaGreatDoor
namespace Go.Proofs.YtdilnodbfnlhdaaGreatDoor
open Go Go.RowKit Tide
theorem EO {u:av} {ep a:Int} {b:List UInt8} (h:(cw u ep a b).2≠0):(cw u ep a b).1=u:=by
 unfold cw at h ⊢;split
 · rfl
 split
 · rfl
 split
 · rfl
 split
 · rfl
 split
 · rename_i h1;exact sk _ h1
 · rename_i h0 h1 h2 h3 h4;rw[if_neg h0,if_neg h1,if_neg h2,if_neg h3,if_neg h4]at h;exact absurd rfl h
end Go.Proofs.YtdilnodbfnlhdaaGreatDoor
namespace Go.Proofs.YtdilnodbfnlhdaaGreatDoor
open Go Go.RowKit Tide
def uH (a:Nat->Addr) (m:Nat) (up:Nat->Bool) (g:Nat->Nat) (n:Int) (v:Value):Prop:=
 (dO up n=false/\v= .tuple #[.pointer none,ai (a 11)])\/(dO up n=true/\∃i:Nat,n=i/\i < m/\v= .tuple #[.pointer (some ⟨g i,0,none⟩),.nilIface])
theorem tP {a:Nat->Addr} {w:World} {m:Nat} {up:Nat->Bool} (hE:ar w a) (hm:mV m up) (g:Nat->Nat) (n:Int) (v:Value) (B:Nat) (hv:Row w B v (gH m up g)):
 Calls Tryz.prog 85 #[v,.int .i64 n] w λe w'=>∃x,e= .returned x/\uH a m up g n x/\Below w.heap.size w w':=by
 obtain⟨b,o,c,rfl,_,hcell⟩:=kN hm.1 hv;have e11:w.cell? ⟨11,0,none⟩=some (ai (a 11)):=hE.var 11 (by omega);clear hv hE;by_cases h0:n < 0
 · have hu:dO up n=false:=by unfold dO;simp;omega
   have HU:=ab hu;clear hcell hu
   go_enter Tryz.func85,Tryz.ntmps85
   go_wp2_with fail
   go_quiet (fail)
   go_wp2_with fail
   go_ret2
   exact⟨_,rfl,.inl ⟨HU.out,rfl⟩,iY (Below.refl _ _) _⟩
 by_cases h6:(m:Int)<=n
 · have hu:dO up n=false:=by
    cases hu:dO up n with
    | false=>rfl
    | true=>obtain⟨i,e,hi,_⟩:=oU hm hu;omega
   have HU:=ab hu;clear hcell hu
   go_enter Tryz.func85,Tryz.ntmps85
   go_wp2_with fail
   go_quiet (fail)
   go_wp2_with fail
   go_ret2
   exact⟨_,rfl,.inl ⟨HU.out,rfl⟩,iY (Below.refl _ _) _⟩
 obtain⟨i,rfl⟩:∃i:Nat,n=(i:Int):=⟨n.toNat,by omega⟩;have hi:i < m:=by omega
 have hm6:=hm.2.1;have hcu:=hcell i hi;have i1:(i:Int) < (m:Int):=by omega
 have hu:dO up (i:Int)=up i:=by unfold dO;simp;omega
 have HI:=ab hi;clear hcell h0 h6;unfold jv at hcu;cases hup:up i with
 | false=>
   rw[hup]at hcu hu;have hcu:w.cell? ⟨b,o+i,none⟩=some (.pointer none):=hcu;have HU:=ab hu;clear hu hi
   go_enter Tryz.func85,Tryz.ntmps85
   go_wp2_with fail
   go_quiet (fail)
   go_wp2_with fail
   go_ret2
   exact⟨_,rfl,.inl ⟨HU.out,rfl⟩,iY (Below.refl _ _) _⟩
 | true=>
   rw[hup]at hcu hu;have hcu:w.cell? ⟨b,o+i,none⟩=some (.pointer (some ⟨g i,0,none⟩)):=hcu;have HU:=ab hu;clear hu hi
   go_enter Tryz.func85,Tryz.ntmps85
   go_wp2_with fail
   go_ret2
   exact⟨_,rfl,.inr ⟨HU.out,i,rfl,HI.out,rfl⟩,Below.refl _ _⟩
def cP (W:World) (S:Nat->Prop) (v:Value) (xs:List Value):Prop:=Row W W.heap.size v xs/\(xs≠ []->∀k,v.ownBlock=some k->S k)
theorem cP.kept {K S:Nat->Prop} {W W':World} {v:Value} {xs:List Value} (h:cP W S v xs) (hk:Kept K W W') (hK:∀k,K k->¬S k):cP W' S v xs:=by obtain⟨⟨h1,A,c,rfl,h2,h3,h4⟩,h5⟩:=h;refine⟨⟨h1,A,c,rfl,h2,h3,λhne=> ?_⟩,h5⟩;obtain⟨b,o,rfl,hb,hc⟩:=h4 hne;exact⟨b,o,rfl,Nat.lt_of_lt_of_le hb hk.size,λj u hu=>(hk.cell (p:=⟨b,o+j,none⟩) hb (λe=>hK b e (h5 hne b rfl))).trans (hc j u hu)⟩
theorem cP.below {S:Nat->Prop} {W W':World} {v:Value} {xs:List Value} (h:cP W S v xs) (hb:Below W.heap.size W W'):cP W' S v xs:=h.kept (Kept.al hb (F:=λ_=>False)) (λ_ e=>e.elim)
theorem cP.iW {W:World} {lo:Nat} {v:Value} {xs:List Value} (h:Row W lo v xs) (hl:lo<=W.heap.size):cP W (λk=>k < lo) v xs:=by refine⟨h.more hl,λhne k e=> ?_⟩;obtain⟨_,A,c,rfl,_,_,h4⟩:=h;obtain⟨b,o,rfl,hb,_⟩:=h4 hne;injection e with e;have e:b=k:=e;omega
def dH (W:World) (S:Nat->Prop) (v:Value) (cs:List (List Int)):Prop:=
 ∃vs:List Value,cP W S v vs/\vs.length=cs.length/\∀ (i:Nat) (u:Value) (c:List Int),vs[i]? =some u->cs[i]? =some c->cP W S u (ay c)
theorem dH.di {S:Nat->Prop} {W:World} {v:Value} {cs:List (List Int)} (h:dH W S v cs):cO W W.heap.size v cs:=by obtain⟨vs,h1,h2,h3⟩:=h;exact⟨vs,h1.1,h2,λi u c hu hc=>(h3 i u c hu hc).1⟩
theorem dH.kept {K S:Nat->Prop} {W W':World} {v:Value} {cs:List (List Int)} (h:dH W S v cs) (hk:Kept K W W') (hK:∀k,K k->¬S k):dH W' S v cs:=by obtain⟨vs,h1,h2,h3⟩:=h;exact⟨vs,h1.kept hk hK,h2,λi u c hu hc=>(h3 i u c hu hc).kept hk hK⟩
theorem dH.below {S:Nat->Prop} {W W':World} {v:Value} {cs:List (List Int)} (h:dH W S v cs) (hb:Below W.heap.size W W'):dH W' S v cs:=h.kept (Kept.al hb (F:=λ_=>False)) (λ_ e=>e.elim)
theorem dH.iW {W:World} {lo:Nat} {v:Value} {cs:List (List Int)} (h:cO W lo v cs) (hl:lo<=W.heap.size):dH W (λk=>k < lo) v cs:=by obtain⟨vs,h1,h2,h3⟩:=h;exact⟨vs,cP.iW h1 hl,h2,λi u c hu hc=>cP.iW (h3 i u c hu hc) hl⟩
theorem dH.form {S:Nat->Prop} {W:World} {v:Value} {cs:List (List Int)} (h:dH W S v cs):∃A c,v= .slice A cs.length c/\∀i (hi:i < cs.length),∃b o u,A=some ⟨b,o,none⟩/\b < W.heap.size/\W.cell? ⟨b,o+i,none⟩=some u/\cP W S u (ay cs[i]):=by
 obtain⟨vs,h1,h2,h3⟩:=h;obtain⟨⟨_,A,c,rfl,_,_,h4⟩,_⟩:=h1;refine⟨A,c,by rw[h2],λi hi=> ?_⟩;have hv:i < vs.length:=by omega
 obtain⟨b,o,rfl,hb,hc⟩:=h4 (by intro e;rw[e]at hv;simp at hv);exact⟨b,o,vs[i],rfl,hb,hc i _ (List.getElem?_eq_getElem hv),h3 i _ _ (List.getElem?_eq_getElem hv) (List.getElem?_eq_getElem hi)⟩
structure eH (D:az) (w W:World) (lo:Nat->Prop) (g:Nat->Nat) (H:Nat->Nat->Prop) (m:Nat) (us:Nat->av) (up:Nat->Bool) (v vp:Value) (cs:List (List Int)) (N:Nat):Prop where
 bP:et D w W g H m 192 N us
 gm:mV m up
 rows:∀W',Kept (aJ m H) W W'->Row W' W.heap.size v (gH m up g)
 lo_le:∀k,lo k->k < W.heap.size
 dz:∀k,aJ m H k->¬lo k
 di:dH W lo vp cs
section
variable {D:az} {a x:Nat->Addr} {w W W':World} {lo:Nat->Prop} {m N M:Nat} {g:Nat->Nat} {H:Nat->Nat->Prop} {us us':Nat->av} {up:Nat->Bool} {v vp:Value} {cs:List (List Int)}
theorem eH.step (h:eH D w W lo g H m us up v vp cs N) (hs:b7 D w W g H m 192 M us' W'):∃H',eH D w W' lo g H' m us' up v vp cs M/\(∀i k,H' i k->H i k\/W.heap.size<=k)/\Kept (aJ m H) W W':=by
 obtain⟨H',g1,g2,g3⟩:=hs;refine⟨H',⟨g1,h.gm,λW2 hk=>(h.rows W2 (g3.trans hk (λk ⟨i,hi,e⟩=>(g2 i k e).imp (λe=>⟨i,hi,e⟩) id))).more g3.size,λk e=>Nat.lt_of_lt_of_le (h.lo_le k e) g3.size,λk ⟨i,hi,e⟩ hs=> ?_,h.di.kept g3 h.dz⟩,g2,g3⟩;rcases g2 i k e with e|e
 · exact h.dz k ⟨i,hi,e⟩ hs
 · have:=h.lo_le k hs;omega
theorem eH.below (hD:aC x D) (h:eH D w W lo g H m us up v vp cs N) (hb:Below W.heap.size W W'):eH D w W' lo g H m us up v vp cs N:=
 ⟨h.bP.below hD hb,h.gm,λW2 hk=>(h.rows W2 ((Kept.al hb (F:=aJ m H)).trans hk (λ_ e=> .inl e))).more hb.size,λk e=>Nat.lt_of_lt_of_le (h.lo_le k e) hb.size,h.dz,h.di.below hb⟩
theorem eH.bq (hE:ar w a) (h:eH D w W lo g H m us up v vp cs N):ar W a:=hE.below h.bP.since
theorem up_down (hE:ar w a) (h:eH D w W lo g H m us up v vp cs N) {n:Int} (hu:dO up n=false):
 Calls Tryz.prog 85 #[v,.int .i64 n] W λe w'=>e= .returned (.tuple #[.pointer none,ai (a 11)])/\Below W.heap.size W w':=by
 refine(tP (h.bq hE) h.gm g n v _ (h.rows W (Kept.refl _ _))).mono ?_;rintro e w' ⟨x,rfl,hx,hb⟩;rcases hx with⟨_,rfl⟩|⟨h,_⟩
 · exact⟨rfl,hb⟩
 · rw[hu]at h;cases h
theorem tQ (hE:ar w a) (h:eH D w W lo g H m us up v vp cs N) {i:Nat} (hu:dO up (i:Int)=true):
 Calls Tryz.prog 85 #[v,.int .i64 (i:Int)] W λe w'=>e= .returned (.tuple #[.pointer (some ⟨g i,0,none⟩),.nilIface])/\Below W.heap.size W w':=by
 refine(tP (h.bq hE) h.gm g i v _ (h.rows W (Kept.refl _ _))).mono ?_;rintro e w' ⟨x,rfl,hx,hb⟩;rcases hx with⟨h,_⟩|⟨_,j,ej,_,rfl⟩
 · rw[hu]at h;cases h
 · obtain rfl:i=j:=by omega
   exact⟨rfl,hb⟩
def je (up:Nat->Bool) (ep at':Int) (us:Nat->av) (n:Int):List UInt8 × Nat:=if dO up n=false then([],12) else fa (us n.toNat) ep at'
theorem Ds (hD:aC (three a) D) (hE:ar w a) (h:eH D w W lo g H m us up v vp cs N) (ep at':Int) (l:List Int) (vc:Value) (hc:cP W lo vc (ay l)) (k:Nat) (hk:k < l.length):
 Calls Tryz.prog 39 #[.agg #[v,.int .i64 ep,vc,.int .i64 at'],.int .i64 (k:Int)] W λe w'=>∃vb x,e= .returned (.tuple #[vb,x])/\Bytes w' w'.heap.size vb (je up ep at' us l[k]).1/\(∀j,vb.ownBlock=some j->W.heap.size<=j/\j < w'.heap.size)/\bf a x (je up ep at' us l[k]).2/\Below W.heap.size W w':=by
 have HD:=ab hD;have HC:=ab h;obtain⟨b0,o0,c0,rfl,_,hrow6⟩:=kN h.gm.1 (h.rows W (Kept.refl _ _));clear hrow6;obtain⟨hcl,A1,c1,rfl,hcu⟩:=dn hc.1;obtain⟨b1,o1,rfl,hb1,hcj⟩:=hcu k hk;have B0:=ab ((Below.refl W.heap.size W).alloc (Nat.le_refl _) (.cells #[.slice (some ⟨b0,o0,none⟩) m c0,.int .i64 ep,.slice (some ⟨b1,o1,none⟩) l.length c1,.int .i64 at'] 105));have P0:=ab (cH.new W (.slice (some ⟨b0,o0,none⟩) m c0) ep (.slice (some ⟨b1,o1,none⟩) l.length c1) at');replace hcj:=(B0.out.cell (p:=⟨b1,o1+k,none⟩) hb1).trans hcj;have hks:(k:Int) < (l.length:Int):=by omega
 have CR:=ab (λW1 (hb:Below W.heap.size W W1) (i:Nat) (hi:i < m)=>((h.below hD hb).bP.un i hi).read hD hE ep at');obtain⟨n,hn⟩:=aa (l[k]);rw[hn]at hcj ⊢;obtain⟨L,hL⟩:=aa l.length;rw[hL]at B0 P0 hcj hks ⊢;obtain⟨r,hr⟩:=aa (je up ep at' us n);have HR:=ab hr;rw[hr];obtain⟨p0,p1,p2,p3⟩:=P0.out.facts;have K1:=ab (And.intro p0 (And.intro p2 hcj));have HPl:=ab P0.out.lt;have Hb1:=ab (Nat.lt_of_lt_of_le hb1 B0.out.size);have P1:=ab (And.intro p1 p3);have HE:=ab hE;clear h hc hcu hcl hL hn hk hr hD hE p0 p1 p2 p3 hcj;cases hu:dO up n with
 | false=>
   have hr0:=HR.out;unfold je at hr0;rw[if_pos hu]at hr0;subst hr0;have CU:=ab (up_down HE.out (HC.out.below HD.out B0.out.drew) hu);clear hu CR
   go_enter Tryz.func39,Tryz.ntmps39
   go_wp2_with fail
   go_region_held3 (λY=>Y.cell? ⟨W.heap.size,0,none⟩=some (.slice (some ⟨b0,o0,none⟩) m c0)/\Y.cell? ⟨W.heap.size,2,none⟩=some (.slice (some ⟨b1,o1,none⟩) L c1)/\Y.cell? ⟨b1,o1+k,none⟩=some (.int .i64 n))
    (first|exact K1.out|exact K2.out)
    (first
      | ((with_reducible refine CU.out.mono ?_);rintro en w2 ⟨rfl,hb2⟩;have K2:=ab (And.intro ((hb2.cell (p:=⟨W.heap.size,0,none⟩) HPl.out).trans K1.out.1) (And.intro ((hb2.cell (p:=⟨W.heap.size,2,none⟩) HPl.out).trans K1.out.2.1) ((hb2.cell (p:=⟨b1,o1+k,none⟩) Hb1.out).trans K1.out.2.2)))))
   have HB2:=ab (B0.out.trans (((Below.refl _ _).drew.trans (hb2.mono (Nat.le_refl _))).mono B0.out.size));clear K1 K2 CU hb2
   go_wp2_with fail
   go_ret2
   exact⟨_,_,rfl,fO _ _,(λj e=>by cases e),bo a 11 (by decide),HB2.out⟩
 | true=>
   obtain⟨i,rfl,hi,_⟩:=oU HC.out.gm hu;have hr0:=HR.out;unfold je at hr0;rw[if_neg (by rw[hu];simp),Int.toNat_natCast]at hr0;have HR:=ab hr0;have CU:=ab (tQ HE.out (HC.out.below HD.out B0.out.drew) hu);have CR:=ab (λW1 hb=>CR.out W1 hb i hi);rw[hr0]at CR;clear hu hr0 hi
   go_enter Tryz.func39,Tryz.ntmps39
   go_wp2_with fail
   go_region_held3 (λY=>Y.cell? ⟨W.heap.size,0,none⟩=some (.slice (some ⟨b0,o0,none⟩) m c0)/\Y.cell? ⟨W.heap.size,2,none⟩=some (.slice (some ⟨b1,o1,none⟩) L c1)/\Y.cell? ⟨b1,o1+k,none⟩=some (.int .i64 (i:Int)))
    (first|exact K1.out|exact K2.out)
    (first
      | ((with_reducible refine CU.out.mono ?_);rintro en w2 ⟨rfl,hb2⟩;have K2:=ab (And.intro ((hb2.cell (p:=⟨W.heap.size,0,none⟩) HPl.out).trans K1.out.1) (And.intro ((hb2.cell (p:=⟨W.heap.size,2,none⟩) HPl.out).trans K1.out.2.1) ((hb2.cell (p:=⟨b1,o1+k,none⟩) Hb1.out).trans K1.out.2.2)))))
   have HB2:=ab (B0.out.trans (((Below.refl _ _).drew.trans (hb2.mono (Nat.le_refl _))).mono B0.out.size));have p1:=(hb2.cell (p:=⟨W.heap.size,1,none⟩) HPl.out).trans P1.out.1;have p3:=(hb2.cell (p:=⟨W.heap.size,3,none⟩) HPl.out).trans P1.out.2;have C2:=ab (CR.out w2 HB2.out);clear K1 K2 CU hb2 CR
   go_wp2_with fail
   refine C2.out.mono ?_;rintro en w3 ⟨vb,x,rfl,h1,h2,h3,h4⟩;have H1:=ab h1;have H2:=ab h2;have H3:=ab h3;have H4:=ab h4;clear h1 h2 h3 h4 C2
   go_wp2_with fail
   go_ret2
   exact⟨_,_,rfl,H1.out,(λj e=>⟨Nat.le_trans HB2.out.size (H2.out j e).1,(H2.out j e).2⟩),H3.out,HB2.out.trans (H4.out.mono HB2.out.size)⟩
end
end Go.Proofs.YtdilnodbfnlhdaaGreatDoor
namespace Go.Proofs.YtdilnodbfnlhdaaGreatDoor
open Go Go.RowKit Tide
end Go.Proofs.YtdilnodbfnlhdaaGreatDoor
namespace Go.Proofs.YtdilnodbfnlhdaaGreatDoor
open Go Go.RowKit Tide
section
variable {W W':World} {lo:Nat} {q:Nat->Nat} {H:Nat->Nat->Prop} {us us':Nat->av} {up:Nat->Bool} {v vp:Value} {cs:List (List Int)} {Ap:Option Addr} {cp:Nat}
end
end Go.Proofs.YtdilnodbfnlhdaaGreatDoor
namespace Go.Proofs.YtdilnodbfnlhdaaGreatDoor
open Go Go.RowKit Tide
section
variable {W W':World} {lo:Nat} {q:Nat->Nat} {H:Nat->Nat->Prop} {us us':Nat->av} {up:Nat->Bool} {v vp:Value} {cs:List (List Int)} {Ap:Option Addr} {cp:Nat}
end
end Go.Proofs.YtdilnodbfnlhdaaGreatDoor
namespace Go.Proofs.YtdilnodbfnlhdaaGreatDoor
open Go Go.RowKit Tide
theorem jb {w w':World} {B:Nat} {v:Value} {xs:List Value} {K:Nat->Prop} (h:Row w B v xs) (hk:Kept K w w') (hB:B<=w.heap.size) (hf:∀k,v.ownBlock=some k->¬K k):Row w' B v xs:=by obtain⟨h1,A,c,rfl,h2,h3,h4⟩:=h;refine⟨h1,A,c,rfl,h2,h3,λhne=> ?_⟩;obtain⟨b,o,rfl,hb,hc⟩:=h4 hne;exact⟨b,o,rfl,hb,λj u hu=>(hk.cell (p:=⟨b,o+j,none⟩) (Nat.lt_of_lt_of_le hb hB) (hf b rfl)).trans (hc j u hu)⟩
theorem AL {ep:Int} {cs:List (List Int)} {a:Int} (h:eY ep cs a=0):1<=(bU cs a).length/\(bU cs a).length<=3:=by
 unfold eY at h;cases hr:aP ep cs with
 | false=>rw[hr]at h;exact absurd h (by simp)
 | true=>obtain⟨_,_,h1,_,h5,_⟩:=oD hr;have hk:a.toNat % cs.length < cs.length:=Nat.mod_lt _ (by omega);rw[ra hk rfl];exact h5 _ (List.getElem_mem hk)
section
variable {W W':World} {lo:Nat} {q:Nat->Nat} {H:Nat->Nat->Prop} {us us':Nat->av} {up:Nat->Bool} {v vp:Value} {cs:List (List Int)} {Ap:Option Addr} {cp b0 o0 c0:Nat}
end
end Go.Proofs.YtdilnodbfnlhdaaGreatDoor
namespace Go.Proofs.YtdilnodbfnlhdaaGreatDoor
open Go Go.RowKit Tide
section
variable {D:az} {a x:Nat->Addr} {w W W':World} {lo:Nat->Prop} {m N M:Nat} {g:Nat->Nat} {H:Nat->Nat->Prop} {us us':Nat->av} {up:Nat->Bool} {v vp:Value} {cs:List (List Int)}
theorem DN (hD:aC (three a) D) (hE:ar w a) (hN:N<=90000) (h:eH D w W lo g H m us up v vp cs N) (ep at':Int) (l:List Int) (vc:Value) (hc:cP W lo vc (ay l)) (k:Nat) (hk:k < l.length) (vb:Value) (b:List UInt8) (hvb:Bytes W W.heap.size vb b) (hap:∀j,vb.ownBlock=some j->¬aJ m H j):
 Calls Tryz.prog 48 #[.agg #[v,.int .i64 ep,vc,.int .i64 at'],.int .i64 (k:Int),vb] W λe w'=>∃x,e= .returned x/\bf a x (eZ up ep at' b us l[k] (k == 0)).2/\b7 D w W g H m 192 (N+1) (eZ up ep at' b us l[k] (k == 0)).1 w':=by
 have HD:=ab hD;have HE:=ab hE;have HC:=ab h;obtain⟨b0,o0,c0,rfl,_,hrow6⟩:=kN h.gm.1 (h.rows W (Kept.refl _ _));clear hrow6;obtain⟨hcl,A1,c1,rfl,hcu⟩:=dn hc.1;obtain⟨b1,o1,rfl,hb1,hcj⟩:=hcu k hk;obtain⟨Ab,cb,rfl,_⟩:=hvb.form;have B0:=ab ((Below.refl W.heap.size W).alloc (Nat.le_refl _) (.cells #[.slice (some ⟨b0,o0,none⟩) m c0,.int .i64 ep,.slice (some ⟨b1,o1,none⟩) l.length c1,.int .i64 at'] 105));have P0:=ab (cH.new W (.slice (some ⟨b0,o0,none⟩) m c0) ep (.slice (some ⟨b1,o1,none⟩) l.length c1) at');replace hcj:=(B0.out.cell (p:=⟨b1,o1+k,none⟩) hb1).trans hcj;have hks:(k:Int) < (l.length:Int):=by omega
 have HRow:=ab hc;have HVb:=ab hvb;have HAp:=ab hap;have CS:=ab (λ(W1:World) (H1:Nat->Nat->Prop) (M:Nat) (h1:eH D w W1 lo g H1 m us up (.slice (some ⟨b0,o0,none⟩) m c0) vp cs M) (hc1:cP W1 lo (.slice (some ⟨b1,o1,none⟩) l.length c1) (ay l))=>Ds HD.out HE.out h1 ep at' l _ hc1 k hk);obtain⟨n,hn⟩:=aa (l[k]);rw[hn]at hcj CS ⊢;obtain⟨L,hL⟩:=aa l.length;rw[hL]at B0 P0 hcj hks CS HRow ⊢;obtain⟨p0,p1,p2,p3⟩:=P0.out.facts;have K1:=ab (And.intro p0 (And.intro p2 hcj));have HPl:=ab P0.out.lt;have Hb1:=ab (Nat.lt_of_lt_of_le hb1 B0.out.size);clear h hc hcu hcl hL hn hk hD hE p0 p1 p2 p3 hcj hvb hap;cases hu:dO up n with
 | false=>
   have hp:=ab (Bh (ep:=ep) (at':=at') (b:=b) (us:=us) (first:=k == 0) hu);rw[hp.out];have CU:=ab (up_down HE.out (HC.out.below HD.out B0.out.drew) hu);clear hu CS
   go_enter Tryz.func48,Tryz.ntmps48
   go_wp2_with fail
   go_region_held3 (λY=>Y.cell? ⟨W.heap.size,0,none⟩=some (.slice (some ⟨b0,o0,none⟩) m c0)/\Y.cell? ⟨W.heap.size,2,none⟩=some (.slice (some ⟨b1,o1,none⟩) L c1)/\Y.cell? ⟨b1,o1+k,none⟩=some (.int .i64 n))
    (first|exact K1.out|exact K2.out)
    (first
      | ((with_reducible refine CU.out.mono ?_);rintro en w2 ⟨rfl,hb2⟩;have K2:=ab (And.intro ((hb2.cell (p:=⟨W.heap.size,0,none⟩) HPl.out).trans K1.out.1) (And.intro ((hb2.cell (p:=⟨W.heap.size,2,none⟩) HPl.out).trans K1.out.2.1) ((hb2.cell (p:=⟨b1,o1+k,none⟩) Hb1.out).trans K1.out.2.2)))))
   have HB2:=ab (B0.out.trans (((Below.refl _ _).drew.trans (hb2.mono (Nat.le_refl _))).mono B0.out.size));clear K1 K2 CU hb2
   go_wp2_with fail
   go_ret
   exact⟨_,rfl,bo a 11 (by decide),(b7.refl HD.out HC.out.bP HB2.out).mono (Nat.le_succ _)⟩
 | true=>
   obtain⟨i,rfl,hi,_⟩:=oU HC.out.gm hu;have CU:=ab (tQ HE.out (HC.out.below HD.out B0.out.drew) hu);have CW:=ab (λ(W1:World) (hb:Below W.heap.size W W1)=>((HC.out.below HD.out hb).bP.un i hi).write HD.out HE.out (by decide) hN ep at' _ b ((HVb.out.below hb).more hb.size));have HPut:=ab (show eZ up ep at' b us (i:Int) (k == 0)=if(cw (us i) ep at' b).2≠9\/(k == 0)=true then(gl us i (cw (us i) ep at' b).1,(cw (us i) ep at' b).2) else(us,if(fa (us i) ep at').2=0/\(fa (us i) ep at').1≠b then 17 else(fa (us i) ep at').2) from by unfold eZ;rw[if_neg (by rw[hu];simp),Int.toNat_natCast]);have HSr:=ab (show je up ep at' us (i:Int)=fa (us i) ep at' from by unfold je;rw[if_neg (by rw[hu];simp),Int.toNat_natCast]);rw[HSr.out]at CS;obtain⟨r,hr⟩:=aa (cw (us i) ep at' b);have HWe:=ab (λh:r.2≠0=>show r.1=us i from by rw[<-hr]at h ⊢;exact EO h);rw[hr]at CW HPut;obtain⟨rd,hrd⟩:=aa (fa (us i) ep at');rw[hrd]at CS HPut;obtain⟨p,hp⟩:=aa (eZ up ep at' b us (i:Int) (k == 0));rw[hp]at HPut ⊢;have HI:=ab hi;clear hu hr hrd hp hi HSr
   go_enter Tryz.func48,Tryz.ntmps48
   go_wp2_with fail
   go_region_held3 (λY=>Y.cell? ⟨W.heap.size,0,none⟩=some (.slice (some ⟨b0,o0,none⟩) m c0)/\Y.cell? ⟨W.heap.size,2,none⟩=some (.slice (some ⟨b1,o1,none⟩) L c1)/\Y.cell? ⟨b1,o1+k,none⟩=some (.int .i64 (i:Int)))
    (first|exact K1.out|exact K2.out)
    (first
      | ((with_reducible refine CU.out.mono ?_);rintro en w2 ⟨rfl,hb2⟩;have K2:=ab (And.intro ((hb2.cell (p:=⟨W.heap.size,0,none⟩) HPl.out).trans K1.out.1) (And.intro ((hb2.cell (p:=⟨W.heap.size,2,none⟩) HPl.out).trans K1.out.2.1) ((hb2.cell (p:=⟨b1,o1+k,none⟩) Hb1.out).trans K1.out.2.2)))))
   have B02:=ab ((Below.refl _ _).drew.trans hb2);have HB2:=ab (B0.out.trans (B02.out.mono B0.out.size));have P2:=ab (P0.out.below B02.out);obtain⟨p0,p1,p2,p3⟩:=P2.out.facts;have C2:=ab (CW.out w2 HB2.out);clear K1 K2 CU hb2 CW B02 p0 p2
   go_wp2_with fail
   refine C2.out.mono ?_;rintro en w3 ⟨x3,rfl,hx3,hst⟩;have HX3:=ab hx3;have hC2:=HC.out.below HD.out HB2.out;have HS3:=ab (hC2.bP.step HD.out HI.out hst);have HC2:=ab hC2;have hfr:¬aJ m H W.heap.size:=λe=>by have:=(HC.out.bP.lt _ e).2;omega
   have P3:=ab (show cH w3 W.heap.size _ _ _ _ from by obtain⟨_,_,_,g3⟩:=HS3.out;exact P2.out.kept g3 hfr);have E3':=ab (HE.out.below (by obtain⟨_,g1,_,_⟩:=HS3.out;exact g1.since));have e9:w3.cell? ⟨3,0,none⟩=some (ai (a 8)):=E3'.out.var 8 (by decide);have CI:=ab (rh a x3 r.2 8 w3 E3'.out HX3.out (by decide));clear hx3 hst hC2 C2 p1 p3;cases qk:((k:Int) == 0) with
   | true=>
     have hk0:(k == 0)=true:=by simpa using qk
     have hpe:=HPut.out;rw[if_pos (.inr hk0)]at hpe;have HP:=ab hpe;clear hpe HPut CI
     go_wp2_with fail
     go_ret
     exact⟨_,rfl,by rw[HP.out];exact HX3.out,by rw[HP.out];exact b7.after HB2.out HS3.out⟩
   | false=>
     have hk0:(k == 0)=false:=by simpa using qk
     cases q9:(r.2 == 8+1) with
     | false=>
       have hpe:=HPut.out;rw[if_pos (.inl (by simpa using q9))]at hpe;have HP:=ab hpe;rw[q9]at CI;clear hpe HPut q9 hk0
       go_wp2_with fail
       refine CI.out.mono ?_;rintro en w4 ⟨rfl,rfl⟩;clear CI
       go_wp2_with fail
       go_ret
       exact⟨_,rfl,by rw[HP.out];exact HX3.out,by rw[HP.out];exact b7.after HB2.out HS3.out⟩
     | true=>
       have h9:r.2=9:=by simpa using q9
       have hpe:=HPut.out;rw[if_neg (by rw[h9,hk0];simp)]at hpe;have hs3:=HS3.out;rw[HWe.out (by rw[h9];decide),Ep]at hs3;obtain⟨H3,hC3,g2,g3⟩:=HC2.out.step hs3;have HC3:=ab hC3;have HTr:=ab (λ(W4:World) (h4:b7 D w w3 g H3 m 192 (N+1) us W4)=>b7.after HB2.out (b7.trans g2 g3 h4));have C3:=ab (CS.out w3 H3 _ hC3 (cP.kept (cP.below HRow.out HB2.out) g3 HC2.out.dz));have HV3:=ab (show Bytes w3 w3.heap.size _ b from Row.more (jb ((HVb.out.below HB2.out).more HB2.out.size) g3 (Nat.le_refl _) HAp.out) g3.size);rw[q9]at CI;have HPe:=ab hpe;obtain⟨p0,p1,p2,p3⟩:=P3.out.facts;clear hpe HPut q9 hk0 h9 hs3 hC3 g2 g3 CS HS3
       go_wp2_with fail
       refine CI.out.mono ?_;rintro en w4 ⟨rfl,rfl⟩;clear CI
       go_wp2_with fail
       refine C3.out.mono ?_;rintro en w4 ⟨v4,x4,rfl,hv4,_,hx4,hb4⟩;obtain⟨A4,c4,rfl,_⟩:=hv4.form;have HX4:=ab hx4;have HS4:=ab (HTr.out w4 (b7.refl HD.out HC3.out.bP hb4));have CQ:=ab (wZ rd.1 b _ _ _ _ w4 hv4 (HV3.out.below hb4));have e17:w4.cell? ⟨16,0,none⟩=some (ai (a 16)):=(E3'.out.below hb4).var 16 (by decide);clear hv4 hx4 hb4 C3 p0 p1 p2 p3 e9;by_cases h0:rd.2=0
       · have hx4:=HX4.out;rw[h0]at hx4;obtain rfl:=nH hx4 rfl;cases qe:decide (rd.1=b) with
         | true=>
           have hpx:p=(us,0):=by rw[HPe.out,if_neg (by rintro⟨_,hne⟩;exact hne (of_decide_eq_true qe)),h0]
           have HP:=ab hpx;rw[qe]at CQ;clear hpx hx4 h0 qe HPe
           go_wp2_with fail
           refine CQ.out.mono ?_;rintro en w5 ⟨rfl,rfl⟩;clear CQ
           go_wp2_with fail
           go_ret
           exact⟨_,rfl,by rw[HP.out];exact ec a,by rw[HP.out];exact HS4.out⟩
         | false=>
           have hpx:p=(us,17):=by rw[HPe.out,if_pos ⟨h0,of_decide_eq_false qe⟩]
           have HP:=ab hpx;rw[qe]at CQ;clear hpx hx4 h0 qe HPe
           go_wp2_with fail
           refine CQ.out.mono ?_;rintro en w5 ⟨rfl,rfl⟩;clear CQ
           go_wp2_with fail
           go_ret
           exact⟨_,rfl,by rw[HP.out];exact bo a 16 (by decide),by rw[HP.out];exact HS4.out⟩
       · obtain⟨ad,rfl⟩:=lF HX4.out h0;have hpx:p=(us,rd.2):=by rw[HPe.out,if_neg (by rintro⟨h,_⟩;exact h0 h)]
         have HP:=ab hpx;clear hpx h0 HPe CQ
         go_wp2_with fail
         go_ret
         exact⟨_,rfl,by rw[HP.out];exact HX4.out,by rw[HP.out];exact HS4.out⟩
end
end Go.Proofs.YtdilnodbfnlhdaaGreatDoor
namespace Go.Proofs.YtdilnodbfnlhdaaGreatDoor
open Go Go.RowKit Tide
section
variable {D:az} {a x:Nat->Addr} {w W W':World} {lo:Nat->Prop} {m N M:Nat} {g:Nat->Nat} {H:Nat->Nat->Prop} {us us':Nat->av} {up:Nat->Bool} {v vp:Value} {cs:List (List Int)}
end
end Go.Proofs.YtdilnodbfnlhdaaGreatDoor
namespace Go.Proofs.YtdilnodbfnlhdaaGreatDoor
open Go Go.RowKit Tide
def uv (a:Nat->Addr) (ep:Int) (cs:List (List Int)) (q:Int) (lo:Nat->Prop) (W:World) (v:Value) (y:Value):Prop:=
 (eY ep cs q≠0/\∃x,y= .tuple #[.agg #[.slice none 0 0,.int .i64 0,.slice none 0 0,.int .i64 0],x]/\bf a x (eY ep cs q))\/(eY ep cs q=0/\∃vc,y= .tuple #[.agg #[v,.int .i64 ep,vc,.int .i64 (q / cs.length)],.nilIface]/\cP W lo vc (ay (bU cs q)))
theorem qp {a:Nat->Addr} {W:World} (hE:ar W a):ji W a:=⟨hE.var 0 (by decide),hE.var 3 (by decide),World.block_lt_of_cell? _ _ (hE.var 0 (by decide)),World.block_lt_of_cell? _ _ (hE.var 3 (by decide))⟩
abbrev sg (W:World) (g:Nat) (p q r s:Value):World:=(((W.setCell ⟨g,0,none⟩ p).setCell ⟨g,1,none⟩ q).setCell ⟨g,2,none⟩ r).setCell ⟨g,3,none⟩ s
theorem cH.put {W:World} {s:Nat} {v:Value} {ep:Int} {vc:Value} {own:Int} (h:cH W s v ep vc own) (v':Value) (ep':Int) (vc':Value) (own':Int):cH (sg W s v' (.int .i64 ep') vc' (.int .i64 own')) s v' ep' vc' own':=
 heap_setCell_same _ _ _ _ _ _ (heap_setCell_same _ _ _ _ _ _ (heap_setCell_same _ _ _ _ _ _ (heap_setCell_same _ _ _ _ _ _ h)))
theorem cH.free {W:World} {s:Nat} {v:Value} {ep:Int} {vc:Value} {own:Int} (h:cH W s v ep vc own) (i:Nat):W.frozen? ⟨s,i,none⟩=false:=frozen_of_row _ _ i _ _ h
theorem om {W0 W:World} {B g:Nat} (h:Below B W0 W) (hg:B<=g) (p q r s:Value):Below B W0 (sg W g p q r s):=
 (((h.setCell (p:=⟨g,0,none⟩) hg p).setCell (p:=⟨g,1,none⟩) hg q).setCell (p:=⟨g,2,none⟩) hg r).setCell (p:=⟨g,3,none⟩) hg s
section
variable {D:az} {a x:Nat->Addr} {w W W':World} {lo:Nat->Prop} {m N M:Nat} {g:Nat->Nat} {H:Nat->Nat->Prop} {us us':Nat->av} {up:Nat->Bool} {v vp:Value} {cs:List (List Int)}
theorem wF (hD:aC (three a) D) (hE:ar w a) (h:eH D w W lo g H m us up v vp cs N) (ep q:Int):
 Calls Tryz.prog 38 #[v,cL ep vp,.int .i64 q] W λe w'=>∃y,e= .returned y/\uv a ep cs q lo w' v y/\Below W.heap.size W w':=by
 obtain⟨b0,o0,c0,rfl,_,hrow6⟩:=kN h.gm.1 (h.rows W (Kept.refl _ _));clear hrow6;obtain⟨A,c,rfl,hcl⟩:=h.di.form;obtain⟨W0,hW0⟩:=aa (W.alloc (.cells #[.int .i64 ep,.slice A cs.length c] 24));have B0:=ab (show Below W.heap.size W W0 from by rw[<-hW0];exact(Below.refl W.heap.size W).alloc (Nat.le_refl _) _);have P0:=ab (show aH W0 W.heap.size 24 (.int .i64 ep) (.slice A cs.length c) from by rw[<-hW0];exact aH.new W _ _ _);obtain⟨W1,hW1⟩:=aa (W0.alloc (.cells #[.slice none 0 0,.int .i64 0,.slice none 0 0,.int .i64 0] 105));have B1:=ab (show Below W0.heap.size W0 W1 from by rw[<-hW1];exact(Below.refl W0.heap.size W0).alloc (Nat.le_refl _) _);have S1:=ab (show cH W1 W0.heap.size (.slice none 0 0) 0 (.slice none 0 0) 0 from by rw[<-hW1];exact cH.new W0 _ _ _ _);have HC:=ab (h.below hD (B0.out.trans (B1.out.mono B0.out.size)));have CP:=ab (sb a ep cs (.slice A cs.length c) q W1.heap.size W1 HC.out.di.di (Nat.le_refl _) (qp (HC.out.bq hE)));obtain⟨hpl,p0,p1,_⟩:=(P0.out.below B1.out P0.out.lt).facts;have HB1:=ab (B0.out.trans (B1.out.mono B0.out.size));have HGr:=ab (λ(W2:World) (hb:Below W1.heap.size W1 W2)=>(HC.out.below hD hb).di);have HP:=ab (λh=> @oD ep cs h);have HCL:=ab hcl;clear h hD hE hcl;have hcase:eY ep cs q=4/\aP ep cs=false\/eY ep cs q=1/\aP ep cs=true/\¬(0<=q/\q<=4095)\/eY ep cs q=0/\aP ep cs=true/\0<=q/\q<=4095:=by
  unfold eY;cases hr:aP ep cs with
  | false=>exact .inl ⟨by rw[if_pos rfl],rfl⟩
  | true=>
    rw[if_neg (by decide)];by_cases hq:q < 0\/4095 < q
    · exact .inr (.inl ⟨by rw[if_pos hq],rfl,by omega⟩)
    · exact .inr (.inr ⟨by rw[if_neg hq],rfl,by omega,by omega⟩)
 rcases hcase with⟨he,hr⟩|⟨he,hr,hq⟩|⟨he,hr,hq0,hq1⟩
 · have CP:=ab (CP.out.mono (R':=λe w'=>e= .returned (.tuple #[.int .i64 0,.int .i64 0,ai (a 3)])/\Below W1.heap.size W1 w') (λe w' ⟨x,h1,h2,h3⟩=>by
    rcases h2 with⟨_,rfl⟩|⟨h,_⟩|⟨h,_⟩
    · exact⟨h1,h3⟩
    · rw[hr]at h;cases h
    · rw[hr]at h;cases h))
   have HE:=ab he;clear he hr HP HCL
   go_enter Tryz.func38,Tryz.ntmps38
   go_wp2_with fail
   refine CP.out.mono ?_;rintro e w2 ⟨rfl,hb⟩;have S2:=ab (S1.out.below hb);obtain⟨s0,s1,s2,s3⟩:=S2.out.facts;have f0:=S2.out.free 0;have f1:=S2.out.free 1;have f2:=S2.out.free 2;have f3:=S2.out.free 3;have E4:=ab (S2.out.put (.slice none 0 0) 0 (.slice none 0 0) 0).facts;have HB2:=ab (HB1.out.trans (hb.mono HB1.out.size));clear hb CP p0 p1
   go_wp2_with fail
   obtain⟨e0,e1,e2,e3⟩:=E4.out;exact bodyPost_ret (v:= .tuple #[.agg #[.slice none 0 0,.int .i64 0,.slice none 0 0,.int .i64 0],ai (a 3)]) (by simp[results,Tryz.results38,go_sem,e0,e1,e2,e3]) rfl ⟨_,rfl,.inl ⟨by rw[HE.out];decide,_,rfl,by rw[HE.out];exact bo a 3 (by decide)⟩,om HB2.out B0.out.size _ _ _ _⟩
 · have CP:=ab (CP.out.mono (R':=λe w'=>e= .returned (.tuple #[.int .i64 0,.int .i64 0,ai (a 0)])/\Below W1.heap.size W1 w') (λe w' ⟨x,h1,h2,h3⟩=>by
    rcases h2 with⟨h,_⟩|⟨_,_,rfl⟩|⟨_,h4,h5,_⟩
    · rw[hr]at h;cases h
    · exact⟨h1,h3⟩
    · exact absurd ⟨h4,h5⟩ hq))
   have HE:=ab he;clear he hr hq HP HCL
   go_enter Tryz.func38,Tryz.ntmps38
   go_wp2_with fail
   refine CP.out.mono ?_;rintro e w2 ⟨rfl,hb⟩;have S2:=ab (S1.out.below hb);obtain⟨s0,s1,s2,s3⟩:=S2.out.facts;have f0:=S2.out.free 0;have f1:=S2.out.free 1;have f2:=S2.out.free 2;have f3:=S2.out.free 3;have E4:=ab (S2.out.put (.slice none 0 0) 0 (.slice none 0 0) 0).facts;have HB2:=ab (HB1.out.trans (hb.mono HB1.out.size));clear hb CP p0 p1
   go_wp2_with fail
   obtain⟨e0,e1,e2,e3⟩:=E4.out;exact bodyPost_ret (v:= .tuple #[.agg #[.slice none 0 0,.int .i64 0,.slice none 0 0,.int .i64 0],ai (a 0)]) (by simp[results,Tryz.results38,go_sem,e0,e1,e2,e3]) rfl ⟨_,rfl,.inl ⟨by rw[HE.out];decide,_,rfl,by rw[HE.out];exact bo a 0 (by decide)⟩,om HB2.out B0.out.size _ _ _ _⟩
 · have CP:=ab (CP.out.mono (R':=λe w'=>e= .returned (.tuple #[.int .i64 (q % cs.length),.int .i64 (q / cs.length),.nilIface])/\Below W1.heap.size W1 w') (λe w' ⟨x,h1,h2,h3⟩=>by
    rcases h2 with⟨h,_⟩|⟨_,h,_⟩|⟨_,_,_,rfl⟩
    · rw[hr]at h;cases h
    · exact absurd ⟨hq0,hq1⟩ h
    · exact⟨h1,h3⟩))
   have hn:=HP.out hr;have n1:=hn.2.2.1;have n3:=hn.2.2.2.1;obtain⟨k,hk⟩:∃k:Nat,q.toNat % cs.length=k:=⟨_,rfl⟩;have hkl:k < cs.length:=by rw[<-hk];exact Nat.mod_lt _ (by omega)
   have hkI:q % (cs.length:Int)=(k:Int):=by rw[<-hk,Int.natCast_emod];congr 1;omega
   obtain⟨b,o,u,rfl,hbB,hcu,hrow⟩:=HCL.out k hkl;obtain⟨_,Au,cu,rfl,_⟩:=dn hrow.1;have HX:=ab (show cP W lo (.slice Au cs[k].length cu) (ay (bU cs q)) from by rw[ra hkl hk];exact hrow);rw[hkI]at CP;have HE:=ab he;have hbW:=ab hbB;have HCU:=ab hcu;have nk:(k:Int) < (cs.length:Int):=by omega
   clear he hr HP HCL hn hk hkI hcu hrow n1 n3
   go_enter Tryz.func38,Tryz.ntmps38
   go_wp2_with fail
   refine CP.out.mono ?_;rintro e w2 ⟨rfl,hb⟩;have S2:=ab (S1.out.below hb);obtain⟨s0,s1,s2,s3⟩:=S2.out.facts;have f0:=S2.out.free 0;have f1:=S2.out.free 1;have f2:=S2.out.free 2;have f3:=S2.out.free 3;have HB2:=ab (HB1.out.trans (hb.mono HB1.out.size));obtain⟨_,p0,p1,_⟩:=(P0.out.below (B1.out.trans (hb.mono B1.out.size)) P0.out.lt).facts;have hcu:=(HB2.out.cell (p:=⟨b,o+k,none⟩) hbW.out).trans HCU.out;clear hb CP
   go_wp2_with fail
   clear HCU;have E4:=ab (S2.out.put (.slice (some ⟨b0,o0,none⟩) m c0) ep (.slice Au cs[k].length cu) (q / cs.length)).facts;have HB3:=ab (om HB2.out B0.out.size (.slice (some ⟨b0,o0,none⟩) m c0) (.int .i64 ep) (.slice Au cs[k].length cu) (.int .i64 (q / cs.length))).drew
   go_region_law (fail)
   all_goals go_wp2_with fail
   all_goals obtain⟨e0,e1,e2,e3⟩:=E4.out
   all_goals exact bodyPost_ret (v:= .tuple #[.agg #[.slice (some ⟨b0,o0,none⟩) m c0,.int .i64 ep,.slice Au cs[k].length cu,.int .i64 (q / cs.length)],.nilIface]) (by simp[results,Tryz.results38,go_sem,e0,e1,e2,e3]) rfl ⟨_,rfl,.inr ⟨HE.out,_,rfl,cP.below HX.out HB3.out⟩,HB3.out⟩
end
end Go.Proofs.YtdilnodbfnlhdaaGreatDoor
