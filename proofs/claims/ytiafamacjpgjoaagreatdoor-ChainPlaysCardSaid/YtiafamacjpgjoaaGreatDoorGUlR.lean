import Derived.Test.YtiafamacjpgjoaaGreatDoorGUlA
import Derived.Test.YtiafamacjpgjoaaGreatDoorGUrW
import Derived.Test.YtiafamacjpgjoaaGreatDoorGUiG
import Derived.Test.YtiafamacjpgjoaaGreatDoorGSgA
import Derived.Test.YtiafamacjpgjoaaGreatDoorGConv
import Derived.Test.YtiafamacjpgjoaaGreatDoorGPush
import Derived.Test.YtiafamacjpgjoaaGreatDoorGErr
import Derived.Test.YtiafamacjpgjoaaGreatDoorGPlW
import Derived.Test.YtiafamacjpgjoaaGreatDoorGKeep
import Derived.Test.YtiafamacjpgjoaaGreatDoorGPlM
import Derived.Test.YtiafamacjpgjoaaGreatDoorGBits7
import Derived.Deep.RegionHeld3
import Derived.Deep.QuietTactic
import Derived.BigQuiet
import Derived.IntWalk
import Derived.WalkKit
import Derived.WalkSpells
set_option maxRecDepth 100000
set_option maxHeartbeats 2000000
namespace Go.Proofs.YtiafamacjpgjoaaGreatDoor
open Go Go.RowKit Tide
theorem mj {cs:List (List Int)} {a:Int} {k:Nat} (hk:k < cs.length) (h:a.toNat % cs.length=k):bx cs a=cs[k]:=by unfold bx;rw[h,List.getD_eq_getElem?_getD,List.getElem?_eq_getElem hk];rfl
def qu (ep:Int) (cs:List (List Int)) (a:Int) (B:Nat) (W:World) (v:Value):Prop:=
 (bA ep cs a≠0/\v= .tuple #[.slice none 0 0,.int .i64 0,.int .i64 (bA ep cs a:Nat)])\/(bA ep cs a=0/\∃vc,v= .tuple #[vc,.int .i64 (a / cs.length),.int .i64 0]/\Row W B vc (az (bx cs a)))
theorem mZ (ep:Int) (cs:List (List Int)) (v:Value) (B:Nat) (w:World) (a:Int) (hv:b7 w B v cs) (hB:B<=w.heap.size):
 Calls Tryz.prog 49 #[cA ep v,.int .i64 a] w λe w'=>∃x,e= .returned x/\qu ep cs a B w' x/\Below w.heap.size w w':=by
 obtain⟨hlen,A,c,rfl,hcl⟩:=hv.form;have B0:=ab ((Below.refl w.heap.size w).alloc (Nat.le_refl _) (.cells #[.int .i64 ep,.slice A cs.length c] 34));have P0:=ab (aI.new w 34 (.int .i64 ep) (.slice A cs.length c));have CR:=ab (λW (h:Below w.heap.size w W)=>px ep cs _ B W (hv.below (h.mono hB)) (Nat.le_trans hB h.size));have HP:=ab (λh=> @fh ep cs h);have HCL:=ab hcl;have HBb:=ab hB;clear hv hB hcl;cases hr:aO ep cs with
 | false=>
   have hp:=ab (show bA ep cs a=4 by unfold bA;rw[if_pos hr]);rw[hr]at CR;clear hr
   go_enter Tryz.func49,Tryz.ntmps49
   go_wp2_with fail
   refine(CR.out _ B0.out).mono ?_;rintro e w1 ⟨rfl,hb⟩;have HB:=ab (B0.out.trans (hb.mono B0.out.size));clear hb
   go_wp2_with fail
   go_ret3
   exact⟨_,rfl,.inl ⟨by rw[hp.out];decide,by rw[hp.out]<;>rfl⟩,HB.out⟩
 | true=>
   rw[hr]at CR HP;have hn:=HP.out rfl;have n1:=hn.2.2.1;have n3:=hn.2.2.2.1;have HR:=ab hr;clear hn HP hr;cases q0:decide (a < 0) with
   | true=>
     have hp:=ab (show bA ep cs a=1 by unfold bA;rw[if_neg (by rw[HR.out];decide),if_pos (.inl (by simpa using q0))])
     go_enter Tryz.func49,Tryz.ntmps49
     go_wp2_with fail
     refine(CR.out _ B0.out).mono ?_;rintro e w1 ⟨rfl,hb⟩;have HB:=ab (B0.out.trans (hb.mono B0.out.size));clear hb
     go_wp2_with fail
     go_ret3
     exact⟨_,rfl,.inl ⟨by rw[hp.out];decide,by rw[hp.out]<;>rfl⟩,HB.out⟩
   | false=>
   cases q1:decide (4095 < a) with
   | true=>
     have hp:=ab (show bA ep cs a=1 by unfold bA;rw[if_neg (by rw[HR.out];decide),if_pos (.inr (by simpa using q1))])
     go_enter Tryz.func49,Tryz.ntmps49
     go_wp2_with fail
     refine(CR.out _ B0.out).mono ?_;rintro e w1 ⟨rfl,hb⟩;have HB:=ab (B0.out.trans (hb.mono B0.out.size));clear hb
     go_wp2_with fail
     go_ret3
     exact⟨_,rfl,.inl ⟨by rw[hp.out];decide,by rw[hp.out]<;>rfl⟩,HB.out⟩
   | false=>
     have i0:0<=a:=by simp at q0;omega
     have i1:a<=4095:=by simp at q1;omega
     have hp:=ab (show bA ep cs a=0 by unfold bA;rw[if_neg (by rw[HR.out];decide),if_neg (by omega)]);obtain⟨k,hk⟩:∃k:Nat,a.toNat % cs.length=k:=⟨_,rfl⟩;have hkl:k < cs.length:=by rw[<-hk];exact Nat.mod_lt _ (by omega)
     have hkI:a % (cs.length:Int)=(k:Int):=by rw[<-hk,Int.natCast_emod];congr 1;omega
     obtain⟨b,o,u,rfl,hbB,hcu,hrow⟩:=HCL.out k hkl;have HX:=ab (λ(W:World) (hb:Below w.heap.size w W)=>(show qu ep cs a B W (.tuple #[u,.int .i64 (a / cs.length),.int .i64 0]) from .inr ⟨hp.out,u,rfl,by rw[mj hkl hk];exact Row.aj hrow (eH (hb.mono HBb.out))⟩));have HC:=ab (λ(W:World) (hb:Below w.heap.size w W)=>(hb.cell (p:=⟨b,o+k,none⟩) (Nat.lt_of_lt_of_le hbB HBb.out)).trans hcu);have nk:(k:Int) < (cs.length:Int):=by omega
     clear hcu hrow HCL hk hkl hbB;generalize cs.length=n at *;have nz:(0:Int)<=(n:Int):=by omega
     have nq:((n:Int) == 0)=false:=by simp;omega
     go_enter Tryz.func49,Tryz.ntmps49
     go_wp2_with fail
     refine(CR.out _ B0.out).mono ?_;rintro e w1 ⟨rfl,hb⟩;have HB:=ab (B0.out.trans (hb.mono B0.out.size));obtain⟨_,hc0,hc1,_⟩:=(P0.out.below hb P0.out.lt).facts;have hcu:=HC.out _ HB.out;clear hb
     go_wp2_with fail
     go_quiet (fail)
     go_wp2_with fail
     go_ret3
     exact⟨_,rfl,HX.out _ (iq HB.out _),iq HB.out _⟩
end Go.Proofs.YtiafamacjpgjoaaGreatDoor
namespace Go.Proofs.YtiafamacjpgjoaaGreatDoor
open Go.RowKit Tide
theorem qP (w:World):Bytes (w.alloc (.cells #[.int .u8 0] 5)) (w.alloc (.cells #[.int .u8 0] 5)).heap.size (.slice (some ⟨w.heap.size,0,none⟩) 1 1) [0]:=by refine⟨by simp[al],some ⟨w.heap.size,0,none⟩,1,by simp[al],by simp[al],by simp,λ_=>⟨w.heap.size,0,rfl,by simp,λj u hu=> ?_⟩⟩;have e:al [0]= [Value.int .u8 0]:=rfl;rw[e]at hu;rw[Nat.zero_add,cell_of_row _ _ j _ _ _ (heap_alloc_new w _)];simpa using hu
theorem zB (w:World):Calls Tryz.prog 44 #[] w λe w'=>(∃v,e= .returned v/\Bytes w' w'.heap.size v [0])/\Below w.heap.size w w':=by
 go_enter Tryz.func44,Tryz.ntmps44
 go_wp2_with fail
 go_ret
 exact⟨⟨_,rfl,qP w⟩,(Below.refl _ _).alloc (Nat.le_refl _) _⟩
theorem rG (x y:List UInt8) (v u:Value) (B B':Nat) (w:World) (hx:Bytes w B v x) (hy:Bytes w B' u y):Calls Tryz.prog 46 #[v,u] w λe w'=>e= .returned (.bool (decide (x=y)))/\w=w':=by
 have cx:=fT hx;have cy:=fT hy;have HQ:=ab (show((text x).toList == (text y).toList)=decide (x=y) from by rw[show(text x).toList=x by rw[ByteArray.toList_eq];simp[text],show(text y).toList=y by rw[ByteArray.toList_eq];simp[text],Bool.eq_iff_iff];simp);generalize text x=s at *;generalize text y=t at *;clear hx hy
 go_enter Tryz.func46,Tryz.ntmps46
 go_wp2_with fail
 go_ret
 exact⟨by rw[<-HQ.out]<;>rfl,rfl⟩
theorem zy (x:List UInt8) (v:Value) (B:Nat) (w:World) (hx:Bytes w B v x) (hB:B<=w.heap.size):Calls Tryz.prog 17 #[v] w λe w'=>e= .returned (.bool (decide (x= [0])))/\Below w.heap.size w w':=by
 have CJ:=ab (zB w);have HX:=ab hx;clear hx
 go_enter Tryz.func17,Tryz.ntmps17
 go_wp2_with fail
 refine CJ.out.mono ?_;rintro en w1 ⟨⟨u,rfl,hu⟩,hb⟩;have HB:=ab hb;have CE:=ab (rG x [0] v u B w1.heap.size w1 (HX.out.below (hb.mono hB)) hu);clear hu hb CJ
 go_wp2_with fail
 refine CE.out.mono ?_;rintro en w2 ⟨rfl,rfl⟩
 go_wp2_with fail
 go_ret
 exact⟨rfl,HB.out⟩
end Go.Proofs.YtiafamacjpgjoaaGreatDoor
namespace Go.Proofs.YtiafamacjpgjoaaGreatDoor
open Go Go.RowKit Go.Shelf Tide
section
variable {D:aB} {a:Nat->Addr} {w W W':World} {FX0:Nat->Prop} {X0:World->Prop} {g q dev n N M:Nat} {u ur:ah} {G S:Nat->Prop}
end
end Go.Proofs.YtiafamacjpgjoaaGreatDoor
namespace Go.Proofs.YtiafamacjpgjoaaGreatDoor
open Go Go.RowKit Tide
def iF (W:World) (F:Nat->Prop) (k:Nat):Prop:=k < W.heap.size/\¬F k
def jA (W:World) (F:Nat->Prop) (Y:World):Prop:=W.heap.size<=Y.heap.size/\∀k,iF W F k->Y.heap[k]? =W.heap[k]?
theorem jR (W:World) (F:Nat->Prop):cG (iF W F) (jA W F):=λ_ _ _ h hl hk hf=>⟨Nat.le_trans h.1 hk.size,λk hr=>(hk.block k (hl k hr) (hf k hr)).trans (h.2 k hr)⟩
theorem ua (W:World) (F:Nat->Prop):jA W F W:=⟨Nat.le_refl _,λ_ _=>rfl⟩
def c8 (D:aB) (w W:World) (F:Nat->Prop) (g n N:Nat) (u:ah):Prop:=
 (∃p bm dev,UL D w (iF W F) (λ_=>True) g p bm dev n N u W)/\∀k,F k->w.heap.size<=k/\k < W.heap.size
def kT (D:aB) (w W:World) (F:Nat->Prop) (g n N:Nat) (u:ah) (w':World):Prop:=∃F',c8 D w w' F' g n N u/\(∀k,F' k->F k\/W.heap.size<=k)/\Kept F W w'
section
variable {D:aB} {a:Nat->Addr} {x:Nat->Addr} {w W W':World} {F K:Nat->Prop} {g p bm dev n N M:Nat} {u u':ah}
theorem c8.since (h:c8 D w W F g n N u):Below w.heap.size w W:=by obtain⟨⟨p,bm,dev,h1⟩,_⟩:=h;exact h1.since
theorem c8.mono (h:c8 D w W F g n N u) (hNM:N<=M):c8 D w W F g n M u:=by obtain⟨⟨p,bm,dev,h1⟩,h2⟩:=h;exact⟨⟨p,bm,dev,h1.mono hNM⟩,h2⟩
theorem c8.kept (hD:ay x D) (h:c8 D w W F g n N u) (hk:Kept K W W') (hK:∀k,K k->¬F k/\w.heap.size<=k):c8 D w W' F g n N u:=by
 obtain⟨⟨p,bm,dev,h1⟩,h2⟩:=h;have hz:=hk.size;refine⟨⟨p,bm,dev,h1.swap hD (K:=λk=>K k/\k < W.heap.size) (hk.mono (λi hi e=>⟨e,hi⟩)) (λk e=>⟨⟨e.2,(hK k e.1).1⟩,(hK k e.1).2⟩) (λk e=> ?_) (λk e=>e.1) trivial⟩,λk e=>⟨(h2 k e).1,Nat.lt_of_lt_of_le (h2 k e).2 hz⟩⟩;rcases Nat.lt_or_ge k W.heap.size with hlt|hge
 · exact .inl ⟨hlt,e.2⟩
 · exact .inr hge
theorem UL.nj (hs:Below w.heap.size w W) (hF:∀k,F k->w.heap.size<=k/\k < W.heap.size) (h:UL D w (iF W F) (jA W F) g p bm dev n N u W'):kT D w W F g n N u W':=by
 have hx:=h.gY;have hw:=h.since;refine⟨λk=>w.heap.size<=k/\k < W'.heap.size/\¬iF W F k,⟨⟨p,bm,dev,h.less (λk e=> ?_) (λ_ _=>trivial)⟩,λk e=>⟨e.1,e.2.1⟩⟩,λk e=> ?_,⟨hw.os.trans hs.os.symm,hw.tape.trans hs.tape.symm,hw.output.trans hs.output.symm,hx.1,λk hlt hf=>hx.2 k ⟨hlt,hf⟩⟩⟩
 · by_cases hlt:k < w.heap.size
   · exact⟨Nat.lt_of_lt_of_le hlt hs.size,λhf=>by have:=(hF k hf).1;omega⟩
   · exact Classical.byContradiction λhn=>e.2 ⟨by omega,e.1,hn⟩
 · by_cases hlt:k < W.heap.size
   · exact .inl (Classical.byContradiction λhn=>e.2.2 ⟨hlt,hn⟩)
   · exact .inr (by omega)
theorem c8.beside (hD:ay x D) (h:c8 D w W F g n N u):∃p bm dev,UL D w (iF W F) (jA W F) g p bm dev n N u W:=by obtain⟨⟨p,bm,dev,h1⟩,h2⟩:=h;exact⟨p,bm,dev,h1.swap hD (K:=λ_=>False) (Kept.refl _ W) (λ_ h=>h.elim) (λ_ e=> .inl e) (λ_ e=>e.1) (ua W F)⟩
theorem c8.write (hD:ay (three a) D) (hE:av w a) (hn:n<=1000) (hNl:N<=90000) (h:c8 D w W F g n N u) (ep a':Int) (vb:Value) (b:List UInt8) (hv:Bytes W W.heap.size vb b):
 Calls Tryz.prog 83 #[.pointer (some ⟨g,0,none⟩),.int .i64 ep,.int .i64 a',vb] W λe w'=>∃x,e= .returned x/\bE a x (aT u ep a' b).2/\kT D w W F g n (N+1) (aT u ep a' b).1 w':=by
 obtain⟨p,bm,dev,h1⟩:=h.beside hD;refine(h1.write hD (jR W F) hE hn hNl ep a' vb b hv).mono ?_;rintro e w' ⟨x,he,hx,hU⟩;exact⟨x,he,hx,hU.nj h.since h.2⟩
theorem c8.seal (hD:ay (three a) D) (hE:av w a) (hn:n<=1000) (hNl:N<=90000) (h:c8 D w W F g n N u) (ep:Int):
 Calls Tryz.prog 29 #[.pointer (some ⟨g,0,none⟩),.int .i64 ep] W λe w'=>∃x,e= .returned (.tuple #[.int .i64 (cB u ep).2.1,x])/\bE a x (cB u ep).2.2/\kT D w W F g n (N+1) (cB u ep).1 w':=by
 obtain⟨p,bm,dev,h1⟩:=h.beside hD;refine(h1.seal hD (jR W F) hE hn hNl ep).mono ?_;rintro e w' ⟨x,he,hx,hU⟩;exact⟨x,he,hx,hU.nj h.since h.2⟩
theorem c8.trim (hD:ay (three a) D) (hE:av w a) (hn:n<=1000) (hNl:N<=90000) (h:c8 D w W F g n N u) (ep to':Int):
 Calls Tryz.prog 75 #[.pointer (some ⟨g,0,none⟩),.int .i64 ep,.int .i64 to'] W λe w'=>∃x,e= .returned x/\bE a x (bS u ep to').2/\kT D w W F g n (N+1) (bS u ep to').1 w':=by
 obtain⟨p,bm,dev,h1⟩:=h.beside hD;refine(h1.trim hD (jR W F) hE hn hNl ep to').mono ?_;rintro e w' ⟨x,he,hx,hU⟩;exact⟨x,he,hx,hU.nj h.since h.2⟩
theorem c8.read (hD:ay (three a) D) (hE:av w a) (h:c8 D w W F g n N u) (ep a':Int):
 Calls Tryz.prog 69 #[.pointer (some ⟨g,0,none⟩),.int .i64 ep,.int .i64 a'] W λe w'=>∃v x,e= .returned (.tuple #[v,x])/\Bytes w' w'.heap.size v (bt u ep a').1/\(∀k,v.ownBlock=some k->W.heap.size<=k/\k < w'.heap.size)/\bE a x (bt u ep a').2/\Below W.heap.size W w':=by
 obtain⟨p,bm,dev,h1⟩:=h.beside hD;refine(h1.Ca hD (jR W F) hE ep a').mono ?_;rintro e w' ⟨v,x,he,hv,ho,hx,hb,_⟩;exact⟨v,x,he,hv,ho,hx,hb⟩
theorem c8.tail (hD:ay x D) (hNl:N<=90000) (h:c8 D w W F g n N u):
 Calls Tryz.prog 57 #[.pointer (some ⟨g,0,none⟩)] W λe w'=>e= .returned (.int .i64 ((max u.top u.trimmed:Nat):Int))/\Below W.heap.size W w':=by
 obtain⟨p,bm,dev,h1⟩:=h.beside hD;refine(h1.tail hD (jR W F) hNl).mono ?_;rintro e w' ⟨he,hb,_⟩;exact⟨he,hb⟩
theorem c8.my (h:c8 D w W F g n N u) (hn:n<=1000) (hNl:N<=90000):dp u:=by obtain⟨⟨p,bm,dev,h1⟩,_⟩:=h;exact h1.my hn hNl
end
end Go.Proofs.YtiafamacjpgjoaaGreatDoor
namespace Go.Proofs.YtiafamacjpgjoaaGreatDoor
open Go Go.RowKit Tide
def eF (W:World) (H:Nat->Prop) (q:Nat) (u:ah):Prop:=(∃G S,RU W G S q u/\∀k,G k\/S k->H k)/\∀k,H k->k < W.heap.size
def kR (W:World) (H:Nat->Prop) (q:Nat) (u:ah) (w':World):Prop:=∃H',eF w' H' q u/\(∀k,H' k->H k\/W.heap.size<=k)/\Kept H W w'
section
variable {W W':World} {H K:Nat->Prop} {q:Nat} {u:ah}
theorem eF.kept (h:eF W H q u) (hk:Kept K W W') (hK:∀k,H k->¬K k):eF W' H q u:=by obtain⟨⟨G,S,h1,h2⟩,h3⟩:=h;exact⟨⟨G,S,h1.aj hk (λk e=>hK k (h2 k e)),h2⟩,λk e=>Nat.lt_of_lt_of_le (h3 k e) hk.size⟩
theorem pj {F S:Nat->Prop} {r:ah × Nat} {e:Ending} (hF:∀k,F k->H k) (hS:∀k,S k->H k) (h:jB W F S q r e W'):e= .returned (.int .i64 (r.2:Int))/\kR W H q r.1 W':=by obtain⟨he,G',S',g1,g2,g3,g4⟩:=h;exact⟨he,λk=>G' k\/S' k,⟨⟨G',S',g1,λ_ h=>h⟩,g1.lt⟩,λk hk=>hk.elim (λh=>(g2 k h).imp (hF k) id) (λh=>(g3 k h).imp (hS k) id),g4.mono (λk _ e=>hF k e)⟩
theorem eF.write (h:eF W H q u) (hok:dp u) (ep a':Int) {v:Value} {b:List UInt8} (hv:Bytes W W.heap.size v b) (hap:∀k,v.ownBlock=some k->¬H k):
 Calls Tryz.prog 84 #[.pointer (some ⟨q,0,none⟩),.int .i64 ep,.int .i64 a',v] W λe w'=>e= .returned (.int .i64 ((aT u ep a' b).2:Nat))/\kR W H q (aT u ep a' b).1 w':=by
 obtain⟨⟨G,S,⟨F,p,va,vp,vi,rs,hr,hG⟩,h2⟩,_⟩:=h;exact(Dn hr hok.small hok.rows ep a' hv (λk hk e=>hap k hk (h2 k (.inl ((hG k).1 e))))).mono λe w' hs=>pj (λk e=>h2 k (.inl ((hG k).1 e))) (λk e=>h2 k (.inr e)) hs
theorem eF.trim (h:eF W H q u) (hok:dp u) (ep a':Int):
 Calls Tryz.prog 55 #[.pointer (some ⟨q,0,none⟩),.int .i64 ep,.int .i64 a'] W λe w'=>e= .returned (.int .i64 ((bS u ep a').2:Nat))/\kR W H q (bS u ep a').1 w':=by
 obtain⟨⟨G,S,⟨F,p,va,vp,vi,rs,hr,hG⟩,h2⟩,h3⟩:=h;exact(Di hr hok.small ep a' hok.rows hok.ag hok.uy hok.uQ).mono λe w' hs=>pj (λk e=>h2 k (.inl ((hG k).1 e))) (λk e=>h2 k (.inr e)) hs
theorem eF.seal (h:eF W H q u) (hok:dp u) (ep:Int):
 Calls Tryz.prog 30 #[.pointer (some ⟨q,0,none⟩),.int .i64 ep] W λe w'=>e= .returned (.tuple #[.int .i64 (cB u ep).2.1,.int .i64 ((cB u ep).2.2:Nat)])/\kR W H q (cB u ep).1 w':=by
 obtain⟨⟨G,S,⟨F,p,va,vp,vi,rs,hr,hG⟩,h2⟩,h3⟩:=h;refine(Dd hr hok.small ep).mono ?_;rintro e w' ⟨k,rfl,rfl,hs⟩;exact⟨rfl,(pj (λk e=>h2 k (.inl ((hG k).1 e))) (λk e=>h2 k (.inr e)) hs).2⟩
theorem eF.read (h:eF W H q u) (hok:dp u) (ep a':Int):
 Calls Tryz.prog 53 #[.pointer (some ⟨q,0,none⟩),.int .i64 ep,.int .i64 a'] W λe w'=>∃v,e= .returned (.tuple #[v,.int .i64 ((bt u ep a').2:Nat)])/\Bytes w' w'.heap.size v (bt u ep a').1/\(∀k,v.ownBlock=some k->W.heap.size<=k/\k < w'.heap.size)/\Below W.heap.size W w':=by
 obtain⟨⟨G,S,⟨F,p,va,vp,vi,rs,hr,hG⟩,h2⟩,h3⟩:=h;exact Cv hr hok.bytes ep a'
theorem eF.tail (h:eF W H q u):
 Calls Tryz.prog 59 #[.pointer (some ⟨q,0,none⟩)] W λe w'=>e= .returned (.int .i64 ((max u.top u.trimmed:Nat):Int))/\Below W.heap.size W w':=by
 obtain⟨⟨G,S,⟨F,p,va,vp,vi,rs,hr,hG⟩,h2⟩,h3⟩:=h;exact py hr
end
def cj (up:Nat->Bool) (q:Nat->Nat) (i:Nat):Value:=if up i=true then .pointer (some ⟨q i,0,none⟩) else .pointer none
def fC (up:Nat->Bool) (q:Nat->Nat):List Value:=(List.range 6).map (cj up q)
structure Refs (W:World) (q:Nat->Nat) (H:Nat->Nat->Prop) (us:Nat->ah):Prop where
 un:∀i,i < 6->eF W (H i) (q i) (us i)
 apart:∀i j,i < 6->j < 6->i≠j->∀k,H i k->¬H j k
def a9 (H:Nat->Nat->Prop) (k:Nat):Prop:=∃i,i < 6/\H i k
def aU (W:World) (q:Nat->Nat) (H:Nat->Nat->Prop) (us:Nat->ah) (w':World):Prop:=∃H',Refs w' q H' us/\(∀i k,H' i k->H i k\/W.heap.size<=k)/\Kept (a9 H) W w'
section
variable {W W':World} {H:Nat->Nat->Prop} {K:Nat->Prop} {q:Nat->Nat} {us:Nat->ah}
theorem Refs.kept (h:Refs W q H us) (hk:Kept K W W') (hK:∀k,a9 H k->¬K k):Refs W' q H us:=⟨λi hi=>(h.un i hi).kept hk (λk e=>hK k ⟨i,hi,e⟩),h.apart⟩
theorem Refs.below (h:Refs W q H us) (hb:Below W.heap.size W W'):Refs W' q H us:=h.kept (K:=λ_=>False) (Kept.an hb) (λ_ _ h=>h)
theorem Refs.lt (h:Refs W q H us):∀k,a9 H k->k < W.heap.size:=λk ⟨i,hi,e⟩=>(h.un i hi).2 k e
theorem aU.refl (h:Refs W q H us) (hb:Below W.heap.size W W'):aU W q H us W':=⟨H,h.below hb,λ_ _ h=> .inl h,Kept.an hb⟩
theorem Refs.step (h:Refs W q H us) {i:Nat} (hi:i < 6) {u:ah} (hs:kR W (H i) (q i) u W'):aU W q H (bZ us i u) W':=by
 obtain⟨H',h1,h2,h3⟩:=hs;refine⟨λj=>if j=i then H' else H j,⟨λj hj=> ?_,λj l hj hl hne k=> ?_⟩,λj k hk=> ?_,h3.mono (λk _ e=>⟨i,hi,e⟩)⟩
 · show eF W' (if j=i then H' else H j) (q j) (bZ us i u j);by_cases e:j=i
   · subst e;rw[if_pos rfl,pX];exact h1
   · rw[if_neg e,iU _ _ e];exact(h.un j hj).kept h3 (λk hk=>h.apart j i hj hi e k hk)
 · show(if j=i then H' else H j) k->¬(if l=i then H' else H l) k;by_cases e1:j=i
   · subst e1;rw[if_pos rfl,if_neg (λe=>hne e.symm)];intro a b;rcases h2 k a with a|a
     · exact h.apart j l hj hl hne k a b
     · have:=(h.un l hl).2 k b;omega
   · rw[if_neg e1];by_cases e2:l=i
     · subst e2;rw[if_pos rfl];intro a b;rcases h2 k b with b|b
       · exact h.apart j l hj hl hne k a b
       · have:=(h.un j hj).2 k a;omega
     · rw[if_neg e2];exact h.apart j l hj hl hne k
 · show H j k\/_;by_cases e:j=i
   · subst e;have hk:(if j=j then H' else H j) k:=hk;rw[if_pos rfl]at hk;exact h2 k hk
   · have hk:(if j=i then H' else H j) k:=hk;rw[if_neg e]at hk;exact .inl hk
theorem aU.trans {us3:Nat->ah} {W1 W2:World} {H1:Nat->Nat->Prop} (h1:∀i k,H1 i k->H i k\/W.heap.size<=k) (hk:Kept (a9 H) W W1) (h2:aU W1 q H1 us3 W2):aU W q H us3 W2:=by
 obtain⟨H2,a1,a2,a3⟩:=h2;have hz:=hk.size;refine⟨H2,a1,λi k e=> ?_,hk.trans a3 (λk ⟨i,hi,e⟩=>(h1 i k e).imp (λe=>⟨i,hi,e⟩) id)⟩;rcases a2 i k e with e|e
 · exact h1 i k e
 · exact .inr (by omega)
end
end Go.Proofs.YtiafamacjpgjoaaGreatDoor
namespace Go.Proofs.YtiafamacjpgjoaaGreatDoor
open Go Go.RowKit Tide
structure eb (D:aB) (w W:World) (g:Nat->Nat) (H:Nat->Nat->Prop) (m n N:Nat) (us:Nat->ah):Prop where
 un:∀i,i < m->c8 D w W (H i) (g i) n N (us i)
 apart:∀i j,i < m->j < m->i≠j->∀k,H i k->¬H j k
 since:Below w.heap.size w W
def bX (m:Nat) (H:Nat->Nat->Prop) (k:Nat):Prop:=∃i,i < m/\H i k
def aH (D:aB) (w W:World) (g:Nat->Nat) (H:Nat->Nat->Prop) (m n N:Nat) (us:Nat->ah) (w':World):Prop:=∃H',eb D w w' g H' m n N us/\(∀i k,H' i k->H i k\/W.heap.size<=k)/\Kept (bX m H) W w'
section
variable {D:aB} {x:Nat->Addr} {w W W':World} {H:Nat->Nat->Prop} {K:Nat->Prop} {g:Nat->Nat} {m n N M:Nat} {us:Nat->ah}
theorem eb.mono (h:eb D w W g H m n N us) (hNM:N<=M):eb D w W g H m n M us:=⟨λi hi=>(h.un i hi).mono hNM,h.apart,h.since⟩
theorem eb.kept (hD:ay x D) (h:eb D w W g H m n N us) (hk:Kept K W W') (hK:∀k,K k->¬bX m H k/\w.heap.size<=k):eb D w W' g H m n N us:=
 ⟨λi hi=>(h.un i hi).kept hD hk (λk e=>⟨λhf=>(hK k e).1 ⟨i,hi,hf⟩,(hK k e).2⟩),h.apart,h.since.trans ⟨hk.os,hk.tape,hk.output,hk.size,λk hl=>hk.block k (Nat.lt_of_lt_of_le hl h.since.size) (λe=>Nat.not_lt.2 (hK k e).2 hl)⟩⟩
theorem eb.below (hD:ay x D) (h:eb D w W g H m n N us) (hb:Below W.heap.size W W'):eb D w W' g H m n N us:=h.kept hD (K:=λ_=>False) (Kept.an hb) (λ_ h=>h.elim)
theorem eb.lt (h:eb D w W g H m n N us):∀k,bX m H k->w.heap.size<=k/\k < W.heap.size:=λk ⟨i,hi,e⟩=>(h.un i hi).2 k e
theorem aH.refl (hD:ay x D) (h:eb D w W g H m n N us) (hb:Below W.heap.size W W'):aH D w W g H m n N us W':=⟨H,h.below hD hb,λ_ _ h=> .inl h,Kept.an hb⟩
theorem aH.mono (h:aH D w W g H m n N us W') (hNM:N<=M):aH D w W g H m n M us W':=by obtain⟨H',h1,h2,h3⟩:=h;exact⟨H',h1.mono hNM,h2,h3⟩
theorem eb.step (hD:ay x D) (h:eb D w W g H m n N us) {i:Nat} (hi:i < m) {u:ah} (hs:kT D w W (H i) (g i) n (N+1) u W'):aH D w W g H m n (N+1) (bZ us i u) W':=by
 obtain⟨H',h1,h2,h3⟩:=hs;refine⟨λj=>if j=i then H' else H j,⟨λj hj=> ?_,λj l hj hl hne k=> ?_,h1.since⟩,λj k hk=> ?_,h3.mono (λk _ e=>⟨i,hi,e⟩)⟩
 · show c8 D w W' (if j=i then H' else H j) (g j) n (N+1) (bZ us i u j);by_cases e:j=i
   · subst e;rw[if_pos rfl,pX];exact h1
   · rw[if_neg e,iU _ _ e];exact((h.un j hj).kept hD h3 (λk hk=>⟨λhf=>h.apart j i hj hi e k hf hk,((h.un i hi).2 k hk).1⟩)).mono (Nat.le_succ _)
 · show(if j=i then H' else H j) k->¬(if l=i then H' else H l) k;by_cases e1:j=i
   · subst e1;rw[if_pos rfl,if_neg (λe=>hne e.symm)];intro a b;rcases h2 k a with a|a
     · exact h.apart j l hj hl hne k a b
     · have:=((h.un l hl).2 k b).2;omega
   · rw[if_neg e1];by_cases e2:l=i
     · subst e2;rw[if_pos rfl];intro a b;rcases h2 k b with b|b
       · exact h.apart j l hj hl hne k a b
       · have:=((h.un j hj).2 k a).2;omega
     · rw[if_neg e2];exact h.apart j l hj hl hne k
 · show H j k\/_;by_cases e:j=i
   · subst e;have hk:(if j=j then H' else H j) k:=hk;rw[if_pos rfl]at hk;exact h2 k hk
   · have hk:(if j=i then H' else H j) k:=hk;rw[if_neg e]at hk;exact .inl hk
theorem aH.trans {us3:Nat->ah} {W1 W2:World} {H1:Nat->Nat->Prop} (h1:∀i k,H1 i k->H i k\/W.heap.size<=k) (hk:Kept (bX m H) W W1) (h2:aH D w W1 g H1 m n N us3 W2):aH D w W g H m n N us3 W2:=by
 obtain⟨H2,a1,a2,a3⟩:=h2;have hz:=hk.size;refine⟨H2,a1,λi k e=> ?_,hk.trans a3 (λk ⟨i,hi,e⟩=>(h1 i k e).imp (λe=>⟨i,hi,e⟩) id)⟩;rcases a2 i k e with e|e
 · exact h1 i k e
 · exact .inr (by omega)
theorem aH.after {W1 W2:World} (hb:Below W.heap.size W W1) (h2:aH D w W1 g H m n N us W2):aH D w W g H m n N us W2:=
 aH.trans (λ_ _ e=> .inl e) (Kept.an hb) h2
end
def fj (m:Nat) (up:Nat->Bool) (q:Nat->Nat):List Value:=(List.range m).map (cj up q)
theorem tY (m:Nat) (up:Nat->Bool) (q:Nat->Nat):(fj m up q).length=m:=by simp[fj]
theorem C9 {m:Nat} (up:Nat->Bool) (q:Nat->Nat) {i:Nat} (h:i < m):(fj m up q)[i]? =some (cj up q i):=by simp[fj,h]
theorem fD {W:World} {B m:Nat} {v:Value} {up:Nat->Bool} {q:Nat->Nat} (hm:0 < m) (h:Row W B v (fj m up q)):∃b o c,v= .slice (some ⟨b,o,none⟩) m c/\b < B/\∀i,i < m->W.cell? ⟨b,o+i,none⟩=some (cj up q i):=by obtain⟨_,A,c,rfl,_,_,hc⟩:=h;obtain⟨b,o,rfl,hb,hcell⟩:=hc (by intro e;have:=tY m up q;rw[e]at this;simp at this;omega);exact⟨b,o,c,by rw[tY],hb,λi hi=>hcell i _ (C9 up q hi)⟩
def lR (m:Nat) (up:Nat->Bool):Prop:=0 < m/\m<=6/\∀i,m<=i->i < 6->up i=false
theorem lG {m:Nat} {up:Nat->Bool} (hm:lR m up) {n:Int} (h:aL up n=true):∃i:Nat,n=i/\i < m/\up i=true:=by
 obtain⟨hn0,hn6,hup⟩:=gC h;obtain⟨i,rfl⟩:∃i:Nat,n=(i:Int):=⟨n.toNat,by omega⟩;rw[Int.toNat_natCast]at hup;refine⟨i,rfl,?_,hup⟩;rcases Nat.lt_or_ge i m with hlt|hge
 · exact hlt
 · have:=hm.2.2 i hge (by omega);rw[this]at hup;cases hup
def bY (W:World) (s:Nat) (v:Value) (ep:Int) (vc:Value) (own:Int):Prop:=W.heap[s]? =some (.cells #[v,.int .i64 ep,vc,.int .i64 own] 79 (0,0))
theorem bY.new (W:World) (v:Value) (ep:Int) (vc:Value) (own:Int):bY (W.alloc (.cells #[v,.int .i64 ep,vc,.int .i64 own] 79)) W.heap.size v ep vc own:=heap_alloc_new W _
theorem bY.lt {W:World} {s:Nat} {v:Value} {ep:Int} {vc:Value} {own:Int} (h:bY W s v ep vc own):s < W.heap.size:=by
 rcases Nat.lt_or_ge s W.heap.size with hlt|hge
 · exact hlt
 · unfold bY at h;rw[Array.getElem?_eq_none hge]at h;cases h
theorem bY.kept {W W':World} {K:Nat->Prop} {s:Nat} {v:Value} {ep:Int} {vc:Value} {own:Int} (h:bY W s v ep vc own) (hk:Kept K W W') (hK:¬K s):bY W' s v ep vc own:=(hk.block s h.lt hK).trans h
theorem bY.below {W W':World} {s:Nat} {v:Value} {ep:Int} {vc:Value} {own:Int} (h:bY W s v ep vc own) (hb:Below W.heap.size W W'):bY W' s v ep vc own:=(hb.block s h.lt).trans h
theorem bY.facts {W:World} {s:Nat} {v:Value} {ep:Int} {vc:Value} {own:Int} (h:bY W s v ep vc own):W.cell? ⟨s,0,none⟩=some v/\W.cell? ⟨s,1,none⟩=some (.int .i64 ep)/\W.cell? ⟨s,2,none⟩=some vc/\W.cell? ⟨s,3,none⟩=some (.int .i64 own):=
 ⟨cell_of_row _ _ 0 _ _ _ h,cell_of_row _ _ 1 _ _ _ h,cell_of_row _ _ 2 _ _ _ h,cell_of_row _ _ 3 _ _ _ h⟩
end Go.Proofs.YtiafamacjpgjoaaGreatDoor
namespace Go.Proofs.YtiafamacjpgjoaaGreatDoor
open Go Go.RowKit Tide
theorem tX (up:Nat->Bool) (q:Nat->Nat):(fC up q).length=6:=by simp[fC]
theorem C7 (up:Nat->Bool) (q:Nat->Nat) {i:Nat} (h:i < 6):(fC up q)[i]? =some (cj up q i):=by simp[fC,h]
theorem jO {W:World} {B:Nat} {v:Value} {up:Nat->Bool} {q:Nat->Nat} (h:Row W B v (fC up q)):∃b o c,v= .slice (some ⟨b,o,none⟩) 6 c/\b < B/\∀i,i < 6->W.cell? ⟨b,o+i,none⟩=some (cj up q i):=by obtain⟨_,A,c,rfl,_,_,hc⟩:=h;obtain⟨b,o,rfl,hb,hcell⟩:=hc (by intro e;have:=tX up q;rw[e]at this;cases this);exact⟨b,o,c,by rw[tX],hb,λi hi=>hcell i _ (C7 up q hi)⟩
theorem lB (up:Nat->Bool) (q:Nat->Nat) (n:Int) (v:Value) (B:Nat) (w:World) (hv:Row w B v (fC up q)):
 Calls Tryz.prog 52 #[v,.int .i64 n] w λe w'=>e= .returned (.bool (aL up n))/\w=w':=by
 obtain⟨b,o,c,rfl,_,hcell⟩:=jO hv;clear hv;by_cases h0:n < 0
 · have hu:aL up n=false:=by unfold aL;simp;omega
   rw[hu];clear hcell
   go_enter Tryz.func52,Tryz.ntmps52
   go_wp2_with fail
   go_ret
   exact⟨rfl,rfl⟩
 by_cases h6:6<=n
 · have hu:aL up n=false:=by unfold aL;simp;omega
   rw[hu];clear hcell
   go_enter Tryz.func52,Tryz.ntmps52
   go_wp2_with fail
   go_ret
   exact⟨rfl,rfl⟩
 obtain⟨i,rfl⟩:∃i:Nat,n=(i:Int):=⟨n.toNat,by omega⟩;have hi:i < 6:=by omega
 have hcu:=hcell i hi;have i1:(i:Int) < 6:=by omega
 have hu:aL up (i:Int)=up i:=by unfold aL;simp;omega
 rw[hu];clear hcell hu h0 h6;unfold cj at hcu;cases hup:up i with
 | false=>
   rw[hup]at hcu;have hcu:w.cell? ⟨b,o+i,none⟩=some (.pointer none):=hcu
   go_enter Tryz.func52,Tryz.ntmps52
   go_wp2_with fail
   go_ret
   exact⟨rfl,rfl⟩
 | true=>
   rw[hup]at hcu;have hcu:w.cell? ⟨b,o+i,none⟩=some (.pointer (some ⟨q i,0,none⟩)):=hcu
   go_enter Tryz.func52,Tryz.ntmps52
   go_wp2_with fail
   go_ret
   exact⟨rfl,rfl⟩
theorem qh {u:ah} {ep a:Int} {b:List UInt8} (h:(aT u ep a b).2≠0):(aT u ep a b).1=u:=by
 unfold aT at h ⊢;split
 · rfl
 split
 · rfl
 split
 · rfl
 split
 · rfl
 split
 · rename_i h1;exact mN _ h1
 · rename_i h0 h1 h2 h3 h4;rw[if_neg h0,if_neg h1,if_neg h2,if_neg h3,if_neg h4]at h;exact absurd rfl h
theorem pw {W:World} {q:Nat->Nat} {H:Nat->Nat->Prop} {us:Nat->ah} (up:Nat->Bool) (cs:List Int) (k:Nat) (ep at':Int) (b:List UInt8) (v vc vb:Value) (B:Nat) (hk:k < cs.length)
 (hr:∀W',Kept (a9 H) W W'->Row W' W.heap.size v (fC up q)) (hc:∀W',Kept (a9 H) W W'->Row W' B vc (az cs)) (hvb:∀W',Kept (a9 H) W W'->Bytes W' W.heap.size vb b) (hap:∀j,vb.ownBlock=some j->¬a9 H j)
 (h:Refs W q H us) (hok:aL up cs[k]=true->dp (us (cs[k]).toNat)):
 Calls Tryz.prog 50 #[v,vc,.int .i64 (k:Int),.int .i64 ep,.int .i64 at',vb] W λe w'=>e= .returned (.int .i64 ((bg up ep at' b us cs[k] (k == 0)).2:Nat))/\aU W q H (bg up ep at' b us cs[k] (k == 0)).1 w':=by
 obtain⟨_,Ac,cc,rfl,hcc⟩:=cF (hc W (Kept.refl _ _));obtain⟨bc,oc,rfl,_,hcu⟩:=hcc k hk;have CU:=ab (lB up q cs[k] v _ W (hr W (Kept.refl _ _)));have i1:(k:Int) < (cs.length:Int):=by omega
 obtain⟨b0,o0,c0,rfl,hbq,hq0⟩:=jO (hr W (Kept.refl _ _));clear hq0;obtain⟨Ab,cb,rfl,_⟩:=(hvb W (Kept.refl _ _)).form;have HR:=ab hr;have HVB:=ab hvb;have HS:=ab h;have HAP:=ab hap;have HC:=ab hc;generalize cs[k]=n at *;cases hu:aL up n with
 | false=>
   rw[o8 hu];rw[hu]at CU;clear hr hc hvb hap h hcc
   go_enter Tryz.func50,Tryz.ntmps50
   go_wp2_with fail
   refine CU.out.mono ?_;rintro e w1 ⟨rfl,rfl⟩;clear CU
   go_wp2_with fail
   go_ret
   exact⟨rfl,aU.refl HS.out (Below.refl _ _)⟩
 | true=>
   rw[hu]at CU;obtain⟨hn0,hn6,hup⟩:=gC hu;obtain⟨i,rfl⟩:∃i:Nat,n=(i:Int):=⟨n.toNat,by omega⟩;obtain⟨c0,o0',c0',e0,_,hcell0⟩:=jO (hr W (Kept.refl _ _));injection e0 with e0 _ e0c;injection e0 with e0;injection e0 with e01 e02;subst e01 e02 e0c;have hi:i < 6:=by omega
   have hcell:=hcell0 i hi;clear hcell0;unfold cj at hcell;rw[Int.toNat_natCast]at hup hok;rw[if_pos hup]at hcell;have hok:=hok hu;have hu0:=HS.out.un i hi;have CW:=ab (hu0.write hok ep at' (hvb W (Kept.refl _ _)) (λk hk hH=>hap k hk ⟨i,hi,hH⟩));have i6:(i:Int) < 6:=by omega
   have HOK:=ab hok;obtain⟨r,hr9⟩:=aa (aT (us i) ep at' b);rw[hr9]at CW;have hput:bg up ep at' b us (i:Int) (k == 0)=if r.2≠9\/(k == 0)=true then(bZ us i r.1,r.2) else(us,if(bt (us i) ep at').2=0/\(bt (us i) ep at').1≠b then 17 else(bt (us i) ep at').2):=by unfold bg;rw[if_neg (by rw[hu];simp),Int.toNat_natCast,hr9]
   have HI:=ab hi;have H9:=ab hr9;clear hr hc hvb hap h hcc hok hu0 hr9
   go_enter Tryz.func50,Tryz.ntmps50
   go_wp2_with fail
   refine CU.out.mono ?_;rintro e w1 ⟨rfl,rfl⟩;clear CU
   go_wp2_with fail
   refine CW.out.mono ?_;rintro e w1 ⟨rfl,hst⟩;have ST:=ab (HS.out.step HI.out hst);clear hst CW;obtain⟨m,hm⟩:=aa r.2;have HM:=ab hm;rw[hm]at hput;rw[hm];clear hm;cases q9:((m:Int) == 9) with
   | false=>
     have hp:=ab (show bg up ep at' b us (i:Int) (k == 0)=(bZ us i r.1,m) by rw[hput,if_pos (.inl (by intro e;rw[e]at q9;exact absurd q9 (by decide)))]);clear hput
     go_wp2_with fail
     go_ret
     exact⟨by rw[hp.out]<;>rfl,by rw[hp.out];exact ST.out⟩
   | true=>
     have hm9:m=9:=by simp at q9;omega
     subst hm9;cases qk:((k:Int) == 0) with
     | true=>
       have hp:=ab (show bg up ep at' b us (i:Int) (k == 0)=(bZ us i r.1,9) by rw[hput,if_pos (.inr (by simpa using qk))]);clear hput
       go_wp2_with fail
       go_ret
       exact⟨by rw[hp.out]<;>rfl,by rw[hp.out];exact ST.out⟩
     | false=>
       have h1:r.1=us i:=by rw[<-H9.out];exact qh (by rw[H9.out,HM.out];decide)
       have ST:=ST.out;rw[h1,pY]at ST;have hp:bg up ep at' b us (i:Int) (k == 0)=(us,if(bt (us i) ep at').2=0/\(bt (us i) ep at').1≠b then 17 else(bt (us i) ep at').2):=by rw[hput,if_neg (by rintro(h|h);exact h rfl;simp at h qk;omega)]
       obtain⟨H',g1,g2,g3⟩:=ST;have CD:=ab ((g1.un i HI.out).read HOK.out ep at');have G1:=ab g1;have G2:=ab g2;have G3:=ab g3;have hvb1:=HVB.out w1 g3;have HVB1:=ab hvb1;obtain⟨rd,hrd⟩:=aa (bt (us i) ep at');rw[hrd]at CD hp;clear hput g1 g2 g3 hvb1 hrd h1
       go_wp2_with fail
       refine CD.out.mono ?_;rintro e w2 ⟨vo,rfl,hbo,_,hb⟩;obtain⟨m2,hm2⟩:=aa rd.2;rw[hm2]at hp ⊢;have RS2:=ab (aU.trans G2.out G3.out (aU.refl G1.out hb));have HB:=ab hb;have HBO:=ab hbo;obtain⟨Ao,co,rfl,_⟩:=hbo.form;clear hbo hb CD;cases q2:((m2:Int) == 0) with
       | false=>
         have hx:(if m2=0/\rd.1≠b then 17 else m2)=m2:=if_neg (λh=>by rw[h.1]at q2;exact absurd q2 (by decide));rw[hx]at hp;have HP:=ab hp;clear hx hp
         go_wp2_with fail
         go_ret
         exact⟨by rw[HP.out]<;>rfl,by rw[HP.out];exact RS2.out⟩
       | true=>
         have hm0:m2=0:=by simp at q2;omega
         have cv1:=fT HBO.out;have cv2:=fT (HVB1.out.below (HB.out.mono G3.out.size));have HM2:=ab hm0;clear hm0;have tb:(text b).toList=b:=by rw[ByteArray.toList_eq];simp[text]
         have tr:(text rd.1).toList=rd.1:=by rw[ByteArray.toList_eq];simp[text]
         have TB:=ab tb;have TR:=ab tr;clear tb tr;cases qs:((text rd.1).toList == (text b).toList) with
         | true=>
           have hq:rd.1=b:=by rw[<-TB.out,<-TR.out];exact beq_iff_eq.1 qs
           have hx:(if m2=0/\rd.1≠b then 17 else m2)=m2:=if_neg (λh=>h.2 hq);rw[hx]at hp;have HP:=ab hp;have qs2:(!((text rd.1).toList == (text b).toList))=false:=by rw[qs];rfl
           clear hx hp hq
           go_wp2_with fail
           go_ret
           exact⟨by rw[HP.out]<;>rfl,by rw[HP.out];exact RS2.out⟩
         | false=>
           have hq:rd.1≠b:=λh=>by rw[TB.out,TR.out,h]at qs;simp at qs
           have hx:(if m2=0/\rd.1≠b then 17 else m2)=17:=if_pos ⟨HM2.out,hq⟩;rw[hx]at hp;have HP:=ab hp;have qs2:(!((text rd.1).toList == (text b).toList))=true:=by rw[qs];rfl
           clear hx hp hq
           go_wp2_with fail
           go_ret
           exact⟨by rw[HP.out]<;>rfl,by rw[HP.out];exact RS2.out⟩
end Go.Proofs.YtiafamacjpgjoaaGreatDoor
namespace Go.Proofs.YtiafamacjpgjoaaGreatDoor
open Go Go.RowKit Tide
def vQ (a:Nat->Addr) (m:Nat) (up:Nat->Bool) (g:Nat->Nat) (n:Int) (v:Value):Prop:=
 (aL up n=false/\v= .tuple #[.pointer none,ao (a 11)])\/(aL up n=true/\∃i:Nat,n=i/\i < m/\v= .tuple #[.pointer (some ⟨g i,0,none⟩),.nilIface])
theorem uX {a:Nat->Addr} {w:World} {m:Nat} {up:Nat->Bool} (hE:av w a) (hm:lR m up) (g:Nat->Nat) (n:Int) (v:Value) (B:Nat) (hv:Row w B v (fj m up g)):
 Calls Tryz.prog 56 #[v,.int .i64 n] w λe w'=>∃x,e= .returned x/\vQ a m up g n x/\Below w.heap.size w w':=by
 obtain⟨b,o,c,rfl,_,hcell⟩:=fD hm.1 hv;have e11:w.cell? ⟨11,0,none⟩=some (ao (a 11)):=hE.var 11 (by omega);clear hv hE;by_cases h0:n < 0
 · have hu:aL up n=false:=by unfold aL;simp;omega
   have HU:=ab hu;clear hcell hu
   go_enter Tryz.func56,Tryz.ntmps56
   go_wp2_with fail
   go_quiet (fail)
   go_wp2_with fail
   go_ret2
   exact⟨_,rfl,.inl ⟨HU.out,rfl⟩,iq (Below.refl _ _) _⟩
 by_cases h6:(m:Int)<=n
 · have hu:aL up n=false:=by
    cases hu:aL up n with
    | false=>rfl
    | true=>obtain⟨i,e,hi,_⟩:=lG hm hu;omega
   have HU:=ab hu;clear hcell hu
   go_enter Tryz.func56,Tryz.ntmps56
   go_wp2_with fail
   go_quiet (fail)
   go_wp2_with fail
   go_ret2
   exact⟨_,rfl,.inl ⟨HU.out,rfl⟩,iq (Below.refl _ _) _⟩
 obtain⟨i,rfl⟩:∃i:Nat,n=(i:Int):=⟨n.toNat,by omega⟩;have hi:i < m:=by omega
 have hm6:=hm.2.1;have hcu:=hcell i hi;have i1:(i:Int) < (m:Int):=by omega
 have hu:aL up (i:Int)=up i:=by unfold aL;simp;omega
 have HI:=ab hi;clear hcell h0 h6;unfold cj at hcu;cases hup:up i with
 | false=>
   rw[hup]at hcu hu;have hcu:w.cell? ⟨b,o+i,none⟩=some (.pointer none):=hcu;have HU:=ab hu;clear hu hi
   go_enter Tryz.func56,Tryz.ntmps56
   go_wp2_with fail
   go_quiet (fail)
   go_wp2_with fail
   go_ret2
   exact⟨_,rfl,.inl ⟨HU.out,rfl⟩,iq (Below.refl _ _) _⟩
 | true=>
   rw[hup]at hcu hu;have hcu:w.cell? ⟨b,o+i,none⟩=some (.pointer (some ⟨g i,0,none⟩)):=hcu;have HU:=ab hu;clear hu hi
   go_enter Tryz.func56,Tryz.ntmps56
   go_wp2_with fail
   go_ret2
   exact⟨_,rfl,.inr ⟨HU.out,i,rfl,HI.out,rfl⟩,Below.refl _ _⟩
theorem jl {K:Nat->Prop} {W W':World} {lo:Nat} (hk:Kept K W W') (hK:∀k,K k->lo<=k) (hl:lo<=W.heap.size):∀b o,b < lo->W'.cell? ⟨b,o,none⟩=W.cell? ⟨b,o,none⟩:=λb o hb=>eH (B:=lo) ⟨hk.os,hk.tape,hk.output,hk.size,λk hkl=>hk.block k (by omega) (λe=>by have:=hK k e;omega)⟩ b o hb
def aS (W:World) (S:Nat->Prop) (v:Value) (xs:List Value):Prop:=Row W W.heap.size v xs/\(xs≠ []->∀k,v.ownBlock=some k->S k)
theorem aS.kept {K S:Nat->Prop} {W W':World} {v:Value} {xs:List Value} (h:aS W S v xs) (hk:Kept K W W') (hK:∀k,K k->¬S k):aS W' S v xs:=by obtain⟨⟨h1,A,c,rfl,h2,h3,h4⟩,h5⟩:=h;refine⟨⟨h1,A,c,rfl,h2,h3,λhne=> ?_⟩,h5⟩;obtain⟨b,o,rfl,hb,hc⟩:=h4 hne;exact⟨b,o,rfl,Nat.lt_of_lt_of_le hb hk.size,λj u hu=>(hk.cell (p:=⟨b,o+j,none⟩) hb (λe=>hK b e (h5 hne b rfl))).trans (hc j u hu)⟩
theorem aS.below {S:Nat->Prop} {W W':World} {v:Value} {xs:List Value} (h:aS W S v xs) (hb:Below W.heap.size W W'):aS W' S v xs:=h.kept (Kept.an hb (F:=λ_=>False)) (λ_ e=>e.elim)
theorem aS.ln {W:World} {lo:Nat} {v:Value} {xs:List Value} (h:Row W lo v xs) (hl:lo<=W.heap.size):aS W (λk=>k < lo) v xs:=by refine⟨h.more hl,λhne k e=> ?_⟩;obtain⟨_,A,c,rfl,_,_,h4⟩:=h;obtain⟨b,o,rfl,hb,_⟩:=h4 hne;injection e with e;have e:b=k:=e;omega
def eY (W:World) (S:Nat->Prop) (v:Value) (cs:List (List Int)):Prop:=
 ∃vs:List Value,aS W S v vs/\vs.length=cs.length/\∀ (i:Nat) (u:Value) (c:List Int),vs[i]? =some u->cs[i]? =some c->aS W S u (az c)
theorem eY.bQ {S:Nat->Prop} {W:World} {v:Value} {cs:List (List Int)} (h:eY W S v cs):b7 W W.heap.size v cs:=by obtain⟨vs,h1,h2,h3⟩:=h;exact⟨vs,h1.1,h2,λi u c hu hc=>(h3 i u c hu hc).1⟩
theorem eY.kept {K S:Nat->Prop} {W W':World} {v:Value} {cs:List (List Int)} (h:eY W S v cs) (hk:Kept K W W') (hK:∀k,K k->¬S k):eY W' S v cs:=by obtain⟨vs,h1,h2,h3⟩:=h;exact⟨vs,h1.kept hk hK,h2,λi u c hu hc=>(h3 i u c hu hc).kept hk hK⟩
theorem eY.below {S:Nat->Prop} {W W':World} {v:Value} {cs:List (List Int)} (h:eY W S v cs) (hb:Below W.heap.size W W'):eY W' S v cs:=h.kept (Kept.an hb (F:=λ_=>False)) (λ_ e=>e.elim)
theorem eY.ln {W:World} {lo:Nat} {v:Value} {cs:List (List Int)} (h:b7 W lo v cs) (hl:lo<=W.heap.size):eY W (λk=>k < lo) v cs:=by obtain⟨vs,h1,h2,h3⟩:=h;exact⟨vs,aS.ln h1 hl,h2,λi u c hu hc=>aS.ln (h3 i u c hu hc) hl⟩
theorem eY.form {S:Nat->Prop} {W:World} {v:Value} {cs:List (List Int)} (h:eY W S v cs):∃A c,v= .slice A cs.length c/\∀i (hi:i < cs.length),∃b o u,A=some ⟨b,o,none⟩/\b < W.heap.size/\W.cell? ⟨b,o+i,none⟩=some u/\aS W S u (az cs[i]):=by
 obtain⟨vs,h1,h2,h3⟩:=h;obtain⟨⟨_,A,c,rfl,_,_,h4⟩,_⟩:=h1;refine⟨A,c,by rw[h2],λi hi=> ?_⟩;have hv:i < vs.length:=by omega
 obtain⟨b,o,rfl,hb,hc⟩:=h4 (by intro e;rw[e]at hv;simp at hv);exact⟨b,o,vs[i],rfl,hb,hc i _ (List.getElem?_eq_getElem hv),h3 i _ _ (List.getElem?_eq_getElem hv) (List.getElem?_eq_getElem hi)⟩
theorem eY.rV {S:Nat->Prop} {W:World} {v:Value} {cs:List (List Int)} (h:eY W S v cs):∃A c,v= .slice A cs.length c/\∀i (hi:i < cs.length),∃b o u,A=some ⟨b,o,none⟩/\b < W.heap.size/\S b/\W.cell? ⟨b,o+i,none⟩=some u/\aS W S u (az cs[i]):=by
 obtain⟨vs,h1,h2,h3⟩:=h;obtain⟨⟨_,A,c,rfl,_,_,h4⟩,h5⟩:=h1;refine⟨A,c,by rw[h2],λi hi=> ?_⟩;have hv:i < vs.length:=by omega
 have hne:vs≠ []:=by intro e;rw[e]at hv;simp at hv
 obtain⟨b,o,rfl,hb,hc⟩:=h4 hne;exact⟨b,o,vs[i],rfl,hb,h5 hne b rfl,hc i _ (List.getElem?_eq_getElem hv),h3 i _ _ (List.getElem?_eq_getElem hv) (List.getElem?_eq_getElem hi)⟩
theorem aS.ints {S:Nat->Prop} {W:World} {v:Value} {l:List Int} (h:aS W S v (az l)):∃A c,v= .slice A l.length c/\∀j (hj:j < l.length),∃b o,A=some ⟨b,o,none⟩/\b < W.heap.size/\S b/\W.cell? ⟨b,o+j,none⟩=some (.int .i64 l[j]):=by obtain⟨_,A,c,rfl,hc⟩:=cF h.1;refine⟨A,c,rfl,λj hj=> ?_⟩;obtain⟨b,o,rfl,hb,hcj⟩:=hc j hj;exact⟨b,o,rfl,hb,h.2 (by intro e;have:=congrArg List.length e;simp[az]at this;rw[this]at hj;simp at hj) b rfl,hcj⟩
structure cZ (D:aB) (w W:World) (lo:Nat->Prop) (g:Nat->Nat) (H:Nat->Nat->Prop) (m:Nat) (us:Nat->ah) (up:Nat->Bool) (v vp:Value) (cs:List (List Int)) (N:Nat):Prop where
 aX:eb D w W g H m 128 N us
 dx:lR m up
 rows:∀W',Kept (bX m H) W W'->Row W' W.heap.size v (fj m up g)
 lo_le:∀k,lo k->k < W.heap.size
 bK:∀k,bX m H k->¬lo k
 bQ:eY W lo vp cs
section
variable {D:aB} {a x:Nat->Addr} {w W W':World} {lo:Nat->Prop} {m N M:Nat} {g:Nat->Nat} {H:Nat->Nat->Prop} {us us':Nat->ah} {up:Nat->Bool} {v vp:Value} {cs:List (List Int)}
theorem cZ.step (h:cZ D w W lo g H m us up v vp cs N) (hs:aH D w W g H m 128 M us' W'):∃H',cZ D w W' lo g H' m us' up v vp cs M/\(∀i k,H' i k->H i k\/W.heap.size<=k)/\Kept (bX m H) W W':=by
 obtain⟨H',g1,g2,g3⟩:=hs;refine⟨H',⟨g1,h.dx,λW2 hk=>(h.rows W2 (g3.trans hk (λk ⟨i,hi,e⟩=>(g2 i k e).imp (λe=>⟨i,hi,e⟩) id))).more g3.size,λk e=>Nat.lt_of_lt_of_le (h.lo_le k e) g3.size,λk ⟨i,hi,e⟩ hs=> ?_,h.bQ.kept g3 h.bK⟩,g2,g3⟩;rcases g2 i k e with e|e
 · exact h.bK k ⟨i,hi,e⟩ hs
 · have:=h.lo_le k hs;omega
theorem cZ.below (hD:ay x D) (h:cZ D w W lo g H m us up v vp cs N) (hb:Below W.heap.size W W'):cZ D w W' lo g H m us up v vp cs N:=
 ⟨h.aX.below hD hb,h.dx,λW2 hk=>(h.rows W2 ((Kept.an hb (F:=bX m H)).trans hk (λ_ e=> .inl e))).more hb.size,λk e=>Nat.lt_of_lt_of_le (h.lo_le k e) hb.size,h.bK,h.bQ.below hb⟩
theorem cZ.eR (hE:av w a) (h:cZ D w W lo g H m us up v vp cs N):av W a:=hE.below h.aX.since
theorem up_down (hE:av w a) (h:cZ D w W lo g H m us up v vp cs N) {n:Int} (hu:aL up n=false):
 Calls Tryz.prog 56 #[v,.int .i64 n] W λe w'=>e= .returned (.tuple #[.pointer none,ao (a 11)])/\Below W.heap.size W w':=by
 refine(uX (h.eR hE) h.dx g n v _ (h.rows W (Kept.refl _ _))).mono ?_;rintro e w' ⟨x,rfl,hx,hb⟩;rcases hx with⟨_,rfl⟩|⟨h,_⟩
 · exact⟨rfl,hb⟩
 · rw[hu]at h;cases h
theorem nn (hE:av w a) (h:cZ D w W lo g H m us up v vp cs N) {i:Nat} (hu:aL up (i:Int)=true):
 Calls Tryz.prog 56 #[v,.int .i64 (i:Int)] W λe w'=>e= .returned (.tuple #[.pointer (some ⟨g i,0,none⟩),.nilIface])/\Below W.heap.size W w':=by
 refine(uX (h.eR hE) h.dx g i v _ (h.rows W (Kept.refl _ _))).mono ?_;rintro e w' ⟨x,rfl,hx,hb⟩;rcases hx with⟨h,_⟩|⟨_,j,ej,_,rfl⟩
 · rw[hu]at h;cases h
 · obtain rfl:i=j:=by omega
   exact⟨rfl,hb⟩
def dc (up:Nat->Bool) (ep at':Int) (us:Nat->ah) (n:Int):List UInt8 × Nat:=if aL up n=false then([],12) else bt (us n.toNat) ep at'
theorem na (hD:ay (three a) D) (hE:av w a) (h:cZ D w W lo g H m us up v vp cs N) (ep at':Int) (l:List Int) (vc:Value) (hc:aS W lo vc (az l)) (k:Nat) (hk:k < l.length):
 Calls Tryz.prog 36 #[.agg #[v,.int .i64 ep,vc,.int .i64 at'],.int .i64 (k:Int)] W λe w'=>∃vb x,e= .returned (.tuple #[vb,x])/\Bytes w' w'.heap.size vb (dc up ep at' us l[k]).1/\(∀j,vb.ownBlock=some j->W.heap.size<=j/\j < w'.heap.size)/\bE a x (dc up ep at' us l[k]).2/\Below W.heap.size W w':=by
 have HD:=ab hD;have HC:=ab h;obtain⟨b0,o0,c0,rfl,_,hrow6⟩:=fD h.dx.1 (h.rows W (Kept.refl _ _));clear hrow6;obtain⟨hcl,A1,c1,rfl,hcu⟩:=cF hc.1;obtain⟨b1,o1,rfl,hb1,hcj⟩:=hcu k hk;have B0:=ab ((Below.refl W.heap.size W).alloc (Nat.le_refl _) (.cells #[.slice (some ⟨b0,o0,none⟩) m c0,.int .i64 ep,.slice (some ⟨b1,o1,none⟩) l.length c1,.int .i64 at'] 79));have P0:=ab (bY.new W (.slice (some ⟨b0,o0,none⟩) m c0) ep (.slice (some ⟨b1,o1,none⟩) l.length c1) at');replace hcj:=(B0.out.cell (p:=⟨b1,o1+k,none⟩) hb1).trans hcj;have hks:(k:Int) < (l.length:Int):=by omega
 have CR:=ab (λW1 (hb:Below W.heap.size W W1) (i:Nat) (hi:i < m)=>((h.below hD hb).aX.un i hi).read hD hE ep at');obtain⟨n,hn⟩:=aa (l[k]);rw[hn]at hcj ⊢;obtain⟨L,hL⟩:=aa l.length;rw[hL]at B0 P0 hcj hks ⊢;obtain⟨r,hr⟩:=aa (dc up ep at' us n);have HR:=ab hr;rw[hr];obtain⟨p0,p1,p2,p3⟩:=P0.out.facts;have K1:=ab (And.intro p0 (And.intro p2 hcj));have HPl:=ab P0.out.lt;have Hb1:=ab (Nat.lt_of_lt_of_le hb1 B0.out.size);have P1:=ab (And.intro p1 p3);have HE:=ab hE;clear h hc hcu hcl hL hn hk hr hD hE p0 p1 p2 p3 hcj;cases hu:aL up n with
 | false=>
   have hr0:=HR.out;unfold dc at hr0;rw[if_pos hu]at hr0;subst hr0;have CU:=ab (up_down HE.out (HC.out.below HD.out B0.out.drew) hu);clear hu CR
   go_enter Tryz.func36,Tryz.ntmps36
   go_wp2_with fail
   go_region_held3 (λY=>Y.cell? ⟨W.heap.size,0,none⟩=some (.slice (some ⟨b0,o0,none⟩) m c0)/\Y.cell? ⟨W.heap.size,2,none⟩=some (.slice (some ⟨b1,o1,none⟩) L c1)/\Y.cell? ⟨b1,o1+k,none⟩=some (.int .i64 n))
    (first|exact K1.out|exact K2.out)
    (first
      | ((with_reducible refine CU.out.mono ?_);rintro en w2 ⟨rfl,hb2⟩;have K2:=ab (And.intro ((hb2.cell (p:=⟨W.heap.size,0,none⟩) HPl.out).trans K1.out.1) (And.intro ((hb2.cell (p:=⟨W.heap.size,2,none⟩) HPl.out).trans K1.out.2.1) ((hb2.cell (p:=⟨b1,o1+k,none⟩) Hb1.out).trans K1.out.2.2)))))
   have HB2:=ab (B0.out.trans (((Below.refl _ _).drew.trans (hb2.mono (Nat.le_refl _))).mono B0.out.size));clear K1 K2 CU hb2
   go_wp2_with fail
   go_ret2
   exact⟨_,_,rfl,di _ _,(λj e=>by cases e),bL a 11 (by decide),HB2.out⟩
 | true=>
   obtain⟨i,rfl,hi,_⟩:=lG HC.out.dx hu;have hr0:=HR.out;unfold dc at hr0;rw[if_neg (by rw[hu];simp),Int.toNat_natCast]at hr0;have HR:=ab hr0;have CU:=ab (nn HE.out (HC.out.below HD.out B0.out.drew) hu);have CR:=ab (λW1 hb=>CR.out W1 hb i hi);rw[hr0]at CR;clear hu hr0 hi
   go_enter Tryz.func36,Tryz.ntmps36
   go_wp2_with fail
   go_region_held3 (λY=>Y.cell? ⟨W.heap.size,0,none⟩=some (.slice (some ⟨b0,o0,none⟩) m c0)/\Y.cell? ⟨W.heap.size,2,none⟩=some (.slice (some ⟨b1,o1,none⟩) L c1)/\Y.cell? ⟨b1,o1+k,none⟩=some (.int .i64 (i:Int)))
    (first|exact K1.out|exact K2.out)
    (first
      | ((with_reducible refine CU.out.mono ?_);rintro en w2 ⟨rfl,hb2⟩;have K2:=ab (And.intro ((hb2.cell (p:=⟨W.heap.size,0,none⟩) HPl.out).trans K1.out.1) (And.intro ((hb2.cell (p:=⟨W.heap.size,2,none⟩) HPl.out).trans K1.out.2.1) ((hb2.cell (p:=⟨b1,o1+k,none⟩) Hb1.out).trans K1.out.2.2)))))
   have HB2:=ab (B0.out.trans (((Below.refl _ _).drew.trans (hb2.mono (Nat.le_refl _))).mono B0.out.size));have p1:=(hb2.cell (p:=⟨W.heap.size,1,none⟩) HPl.out).trans P1.out.1;have p3:=(hb2.cell (p:=⟨W.heap.size,3,none⟩) HPl.out).trans P1.out.2;have C2:=ab (CR.out w2 HB2.out);clear K1 K2 CU hb2 CR
   go_wp2_with fail
   refine C2.out.mono ?_;rintro en w3 ⟨vb,x,rfl,h1,h2,h3,h4⟩;have H1:=ab h1;have H2:=ab h2;have H3:=ab h3;have H4:=ab h4;clear h1 h2 h3 h4 C2
   go_wp2_with fail
   go_ret2
   exact⟨_,_,rfl,H1.out,(λj e=>⟨Nat.le_trans HB2.out.size (H2.out j e).1,(H2.out j e).2⟩),H3.out,HB2.out.trans (H4.out.mono HB2.out.size)⟩
end
end Go.Proofs.YtiafamacjpgjoaaGreatDoor
namespace Go.Proofs.YtiafamacjpgjoaaGreatDoor
open Go Go.RowKit Tide
def fo (up:Nat->Bool) (ep at':Int) (b:List UInt8):(Nat->ah)->Nat->List Int->Prop
 | _,_, []=>True
 | us,k,n :: l=>(aL up n=true->dp (us n.toNat))/\((bg up ep at' b us n (k == 0)).2=0->fo up ep at' b (bg up ep at' b us n (k == 0)).1 (k+1) l)
theorem mc (up:Nat->Bool) (ep at':Int) (b:List UInt8) (us:Nat->ah) (k:Nat) (n:Int) (l:List Int):a8 up ep at' b us k (n :: l)=if(bg up ep at' b us n (k == 0)).2≠0 then bg up ep at' b us n (k == 0) else a8 up ep at' b (bg up ep at' b us n (k == 0)).1 (k+1) l:=rfl
theorem lA {W:World} {q:Nat->Nat} {H:Nat->Nat->Prop} {us:Nat->ah} (up:Nat->Bool) (cs:List Int) (k:Nat) (ep at':Int) (b:List UInt8) (v vc vb:Value) (B:Nat) (hk:k<=cs.length) (hB:B<=W.heap.size)
 (hr:∀W',Kept (a9 H) W W'->Row W' W.heap.size v (fC up q)) (hc:∀W',Kept (a9 H) W W'->Row W' B vc (az cs)) (hvb:∀W',Kept (a9 H) W W'->Bytes W' W.heap.size vb b) (hap:∀j,vb.ownBlock=some j->¬a9 H j/\j < W.heap.size)
 (h:Refs W q H us) (hok:fo up ep at' b us k (cs.drop k)):
 Calls Tryz.prog 51 #[v,vc,.int .i64 (k:Int),.int .i64 ep,.int .i64 at',vb] W λe w'=>e= .returned (.int .i64 ((a8 up ep at' b us k (cs.drop k)).2:Nat))/\aU W q H (a8 up ep at' b us k (cs.drop k)).1 w':=by
 have CP:=ab (λ(wr:World) (us':Nat->ah) (j:Nat) (hj:j < cs.length) (hs:aU W q H us' wr) (ho:aL up cs[j]=true->dp (us' (cs[j]).toNat))=>
  (show Calls Tryz.prog 50 #[v,vc,.int .i64 (j:Int),.int .i64 ep,.int .i64 at',vb] wr λe w'=>e= .returned (.int .i64 ((bg up ep at' b us' cs[j] (j == 0)).2:Nat))/\aU W q H (bg up ep at' b us' cs[j] (j == 0)).1 w' from by
    obtain⟨H',g1,g2,g3⟩:=hs;have hz:=g3.size;have tr:∀W',Kept (a9 H') wr W'->Kept (a9 H) W W':=λW' hk=>g3.trans hk (λk ⟨i,hi,e⟩=>(g2 i k e).imp (λe=>⟨i,hi,e⟩) id);refine(pw up cs j ep at' b v vc vb wr.heap.size hj (λW' hk=>(hr W' (tr W' hk)).more hz) (λW' hk=>(hc W' (tr W' hk)).more (Nat.le_trans hB hz)) (λW' hk=>(hvb W' (tr W' hk)).more hz) (λj' hj' ⟨i,hi,e⟩=> ?_) g1 ho).mono ?_
    · rcases g2 i j' e with e|e
      · exact(hap j' hj').1 ⟨i,hi,e⟩
      · have:=(hap j' hj').2;omega
    · rintro e w' ⟨he,hs⟩;exact⟨he,aU.trans g2 g3 hs⟩))
 obtain⟨hcl,Ac,cc,rfl,_⟩:=cF (hc W (Kept.refl _ _));obtain⟨Ab,cb,rfl,_⟩:=(hvb W (Kept.refl _ _)).form;obtain⟨b0,o0,c0,rfl,hbq,hq0⟩:=jO (hr W (Kept.refl _ _));clear hq0;have HS0:=ab (aU.refl h (Below.refl _ _));have HOk:=ab hok;obtain⟨R,hR⟩:=aa (a8 up ep at' b us k (cs.drop k));have HR:=ab hR;rw[hR];clear hr hc hvb hap h hok hR
 go_enter Tryz.func51,Tryz.ntmps51
 go_wp2_with fail
 go_loopw [2] (λi wr=>∃ (j:Nat) (us':Nat->ah),i= .int .i64 j/\j<=cs.length/\Hid (a8 up ep at' b us' j (cs.drop j)=R)/\Hid (fo up ep at' b us' j (cs.drop j))/\Hid (aU W q H us' wr)) (λi _=>cs.length - (intOf i).toNat)
 case atStart=>exact⟨k,us,rfl,hk,HR,HOk,HS0⟩
 case round=>
  obtain⟨j,us',rfl,hj,hf,ho,hs⟩:=hrel;by_cases hlj:j < cs.length
  · have hd:cs.drop j=cs[j] :: cs.drop (j+1):=List.drop_eq_getElem_cons hlj;have hf:=hf.out;have ho:=ho.out;rw[hd,mc]at hf;rw[hd]at ho;have C1:=CP.out wr us' j hlj hs.out ho.1;obtain⟨r,hr⟩:=aa (bg up ep at' b us' cs[j] (j == 0));have ho2:r.2=0->fo up ep at' b r.1 (j+1) (cs.drop (j+1)):=by rw[<-hr];exact ho.2
    rw[hr]at C1 hf;have C1:=ab C1;have HO:=ab ho2;obtain⟨m,hm⟩:=aa r.2;rw[hm]at C1 HO hf;have i1:(j:Int) < (cs.length:Int):=by omega
    cases q0:((m:Int) == 0) with
    | true=>
      have hm0:m=0:=by simp at q0;omega
      have q1:((m:Int) != 0)=false:=by unfold bne;rw[q0];rfl
      rw[if_neg (by rw[hm0];simp)]at hf;have HF:=ab hf;have HO2:=ab (HO.out hm0);clear hf ho ho2 hd hr hm hm0 hs HO
      go_wp2_with fail
      refine C1.out.mono ?_;rintro e w1 ⟨rfl,hs1⟩;have HS1:=ab hs1;clear hs1 C1
      go_wp2_with fail
      go_roundw
      case rel=>exact⟨j+1,r.1,by go_num,by omega,HF,HO2,HS1⟩
      case measure=>simp[intOf];omega
    | false=>
      have q1:((m:Int) != 0)=true:=by unfold bne;rw[q0];rfl
      rw[if_pos (by intro e;rw[e]at q0;exact absurd q0 (by decide))]at hf;have HF:=ab hf;have HM:=ab hm;clear hf ho ho2 hd hr hm hs HO
      go_wp2_with fail
      refine C1.out.mono ?_;rintro e w1 ⟨rfl,hs1⟩;have HS1:=ab hs1;clear hs1 C1
      go_wp2_with fail
      go_ret
      exact⟨by rw[<-HF.out,HM.out]<;>rfl,by rw[<-HF.out];exact HS1.out⟩
  · have hje:j=cs.length:=by omega
    have hf:=hf.out;rw[hje,List.drop_length]at hf;have HF:=ab hf;have HS:=ab hs.out;have i1:¬(j:Int) < (cs.length:Int):=by omega
    clear hf ho hs CP
    go_wp2_with fail
    go_ret
    exact⟨by rw[<-HF.out];rfl,by rw[<-HF.out];exact HS.out⟩
end Go.Proofs.YtiafamacjpgjoaaGreatDoor
namespace Go.Proofs.YtiafamacjpgjoaaGreatDoor
open Go Go.RowKit Tide
structure dZ (W:World) (lo:Nat) (q:Nat->Nat) (H:Nat->Nat->Prop) (us:Nat->ah) (up:Nat->Bool) (v vp:Value) (cs:List (List Int)):Prop where
 refs:Refs W q H us
 rows:∀W',Kept (a9 H) W W'->Row W' W.heap.size v (fC up q)
 lo_le:lo<=W.heap.size
 bK:∀k,a9 H k->lo<=k
 bQ:b7 W lo vp cs
section
variable {W W':World} {lo:Nat} {q:Nat->Nat} {H:Nat->Nat->Prop} {us us':Nat->ah} {up:Nat->Bool} {v vp:Value} {cs:List (List Int)} {Ap:Option Addr} {cp:Nat}
theorem gm {K:Nat->Prop} (hk:Kept K W W') (hK:∀k,K k->lo<=k) (hl:lo<=W.heap.size):∀b o,b < lo->W'.cell? ⟨b,o,none⟩=W.cell? ⟨b,o,none⟩:=λb o hb=>eH (B:=lo) ⟨hk.os,hk.tape,hk.output,hk.size,λk hkl=>hk.block k (by omega) (λe=>by have:=hK k e;omega)⟩ b o hb
theorem dZ.step (h:dZ W lo q H us up v vp cs) (hs:aU W q H us' W'):∃H',dZ W' lo q H' us' up v vp cs/\(∀i k,H' i k->H i k\/W.heap.size<=k)/\Kept (a9 H) W W':=by
 obtain⟨H',g1,g2,g3⟩:=hs;refine⟨H',⟨g1,λW2 hk=>(h.rows W2 (g3.trans hk (λk ⟨i,hi,e⟩=>(g2 i k e).imp (λe=>⟨i,hi,e⟩) id))).more g3.size,Nat.le_trans h.lo_le g3.size,λk ⟨i,hi,e⟩=> ?_,h.bQ.aj (gm g3 h.bK h.lo_le)⟩,g2,g3⟩;rcases g2 i k e with e|e
 · exact h.bK k ⟨i,hi,e⟩
 · exact Nat.le_trans h.lo_le e
theorem dZ.below (h:dZ W lo q H us up v vp cs) (hb:Below W.heap.size W W'):dZ W' lo q H us up v vp cs:=
 ⟨h.refs.below hb,λW2 hk=>(h.rows W2 ((Kept.an hb (F:=a9 H)).trans hk (λ_ e=> .inl e))).more hb.size,Nat.le_trans h.lo_le hb.size,h.bK,h.bQ.below (hb.mono h.lo_le)⟩
theorem C5 (h:dZ W lo q H us up v vp cs) (ep at':Int) (l:List Int) (vc vb:Value) (b:List UInt8) (hc:Row W lo vc (az l)) (hl:1<=l.length) (hvb:∀W',Kept (a9 H) W W'->Bytes W' W.heap.size vb b) (hap:∀j,vb.ownBlock=some j->¬a9 H j/\j < W.heap.size) (hok:fo up ep at' b us 1 (l.drop 1)):
 Calls Tryz.prog 22 #[v,.int .i64 ep,vc,.int .i64 at',vb] W λe w'=>e= .returned (.int .i64 ((a8 up ep at' b us 1 (l.drop 1)).2:Nat))/\aU W q H (a8 up ep at' b us 1 (l.drop 1)).1 w':=by
 have CF:=ab (lA up l 1 ep at' b v vc vb lo hl h.lo_le h.rows (λW' hk=>Row.aj hc (gm hk h.bK h.lo_le)) hvb hap h.refs hok);obtain⟨r,hr⟩:=aa (a8 up ep at' b us 1 (l.drop 1));rw[hr]at CF ⊢;clear h hc hvb hap hok hr
 go_enter Tryz.func22,Tryz.ntmps22
 go_wp2_with fail
 refine CF.out.mono ?_;rintro e w1 ⟨rfl,hs⟩;have HS:=ab hs;clear hs CF
 go_wp2_with fail
 go_ret
 exact⟨rfl,HS.out⟩
theorem Dm (h:dZ W lo q H us up v (.slice Ap cs.length cp) cs) (ep a:Int) (vb:Value) (b:List UInt8) (hvb:∀W',Kept (a9 H) W W'->Bytes W' W.heap.size vb b) (hap:∀j,vb.ownBlock=some j->¬a9 H j/\j < W.heap.size) (hok:bA ep cs a=0->fo up ep (a / cs.length) b us 0 (bx cs a)):
 Calls Tryz.prog 23 #[v,cA ep (.slice Ap cs.length cp),.int .i64 a,vb] W λe w'=>e= .returned (.int .i64 ((eh up ep cs a b us).2:Nat))/\aU W q H (eh up ep cs a b us).1 w':=by
 have B0:=ab ((Below.refl W.heap.size W).alloc (Nat.le_refl _) (.cells #[.int .i64 ep,.slice Ap cs.length cp] 34));have P0:=ab (aI.new W 34 (.int .i64 ep) (.slice Ap cs.length cp));have CP:=ab (λW1 (hb:Below W.heap.size W W1)=>mZ ep cs (.slice Ap cs.length cp) lo W1 a (h.below hb).bQ (h.below hb).lo_le);have HC:=ab h;obtain⟨e,he⟩:=aa (bA ep cs a);have HE:=ab he;clear he;cases q0:((e:Int) == 0) with
 | false=>
   have hx:=ab (show eh up ep cs a b us=(us,e) by unfold eh;rw[HE.out,if_pos (by intro e;rw[e]at q0;exact absurd q0 (by decide))]);have q1:((e:Int) != 0)=true:=by unfold bne;rw[q0];rfl
   have e0:e≠0:=by intro e;rw[e]at q0;exact absurd q0 (by decide)
   clear h hvb hap hok
   go_enter Tryz.func23,Tryz.ntmps23
   go_wp2_with fail
   refine(CP.out _ B0.out).mono ?_;rintro en w1 ⟨x,rfl,hx1,hb⟩;rcases hx1 with⟨_,rfl⟩|⟨h0,_⟩
   · rw[HE.out];have HB:=ab (B0.out.trans (hb.mono B0.out.size));clear hb
     go_wp2_with fail
     go_ret
     exact⟨by rw[hx.out]<;>rfl,by rw[hx.out];exact aU.refl HC.out.refs HB.out⟩
   · exact absurd (HE.out.symm.trans h0) e0
 | true=>
   have e0:e=0:=by simp at q0;omega
   subst e0;have q1:(((0:Nat):Int) != 0)=false:=by decide
   obtain⟨r,hr⟩:=aa (a8 up ep (a / cs.length) b us 0 (bx cs a));have hx:=ab (show eh up ep cs a b us=r by unfold eh;rw[HE.out,if_neg (by decide),hr]);have CF:=ab (λ(W1:World) (vc:Value) (hb:Below W.heap.size W W1) (hc:Row W1 lo vc (az (bx cs a)))=>by have h1:=h.below hb;have tr:∀W',Kept (a9 H) W1 W'->Kept (a9 H) W W':=λW' hk=>(Kept.an hb (F:=a9 H)).trans hk (λ_ e=> .inl e);have:=lA up (bx cs a) 0 ep (a / cs.length) b v vc vb lo (Nat.zero_le _) h1.lo_le h1.rows (λW' hk=>Row.aj hc (gm hk h1.bK h1.lo_le)) (λW' hk=>(hvb W' (tr W' hk)).more hb.size) (λj hj=>⟨(hap j hj).1,Nat.lt_of_lt_of_le (hap j hj).2 hb.size⟩) h1.refs (hok HE.out);rw[List.drop_zero,hr]at this;exact this);clear h hvb hap hok hr
   go_enter Tryz.func23,Tryz.ntmps23
   go_wp2_with fail
   refine(CP.out _ B0.out).mono ?_;rintro en w1 ⟨x,rfl,hx1,hb⟩;rcases hx1 with⟨h0,_⟩|⟨_,vc,rfl,hrow⟩
   · exact absurd HE.out h0
   have HB:=ab (B0.out.trans (hb.mono B0.out.size));have C1:=ab (CF.out w1 vc HB.out hrow);obtain⟨_,hc0,hc1,_⟩:=(P0.out.below hb P0.out.lt).facts;clear hb CF hrow
   go_wp2_with fail
   refine C1.out.mono ?_;rintro en w2 ⟨rfl,hs⟩;have HS:=ab (aU.trans (W:=W) (H:=H) (λi k e=> .inl e) (Kept.an HB.out) hs);clear hs C1 hc0 hc1
   go_wp2_with fail
   go_ret
   exact⟨by rw[hx.out]<;>rfl,by rw[hx.out];exact HS.out⟩
end
end Go.Proofs.YtiafamacjpgjoaaGreatDoor
namespace Go.Proofs.YtiafamacjpgjoaaGreatDoor
open Go Go.RowKit Tide
section
variable {W W':World} {lo:Nat} {q:Nat->Nat} {H:Nat->Nat->Prop} {us us':Nat->ah} {up:Nat->Bool} {v vp:Value} {cs:List (List Int)} {Ap:Option Addr} {cp:Nat}
theorem De (h:dZ W lo q H us up v (.slice Ap cs.length cp) cs) (ep a k:Int) (vb:Value) (b:List UInt8) (hvb:∀W',Kept (a9 H) W W'->Bytes W' W.heap.size vb b) (hap:∀j,vb.ownBlock=some j->¬a9 H j/\j < W.heap.size) (hok:∀n,aL up n=true->dp (us n.toNat)):
 Calls Tryz.prog 20 #[v,cA ep (.slice Ap cs.length cp),.int .i64 a,.int .i64 k,vb] W λe w'=>e= .returned (.int .i64 ((eJ up ep cs a k b us).2:Nat))/\aU W q H (eJ up ep cs a k b us).1 w':=by
 have B0:=ab ((Below.refl W.heap.size W).alloc (Nat.le_refl _) (.cells #[.int .i64 ep,.slice Ap cs.length cp] 34));have P0:=ab (aI.new W 34 (.int .i64 ep) (.slice Ap cs.length cp));have CP:=ab (λW1 (hb:Below W.heap.size W W1)=>mZ ep cs (.slice Ap cs.length cp) lo W1 a (h.below hb).bQ (h.below hb).lo_le);have HC:=ab h;obtain⟨e,he⟩:=aa (bA ep cs a);have HE:=ab he;clear he;cases q0:((e:Int) == 0) with
 | false=>
   have e0:e≠0:=by intro e;rw[e]at q0;exact absurd q0 (by decide)
   have hx:=ab (show eJ up ep cs a k b us=(us,e) by unfold eJ;rw[HE.out,if_pos e0]);have q1:((e:Int) != 0)=true:=by unfold bne;rw[q0];rfl
   clear h hvb hap hok
   go_enter Tryz.func20,Tryz.ntmps20
   go_wp2_with fail
   refine(CP.out _ B0.out).mono ?_;rintro en w1 ⟨x,rfl,hx1,hb⟩;rcases hx1 with⟨_,rfl⟩|⟨h0,_⟩
   · rw[HE.out];have HB:=ab (B0.out.trans (hb.mono B0.out.size));clear hb
     go_wp2_with fail
     go_ret
     exact⟨by rw[hx.out]<;>rfl,by rw[hx.out];exact aU.refl HC.out.refs HB.out⟩
   · exact absurd (HE.out.symm.trans h0) e0
 | true=>
   have e0:e=0:=by simp at q0;omega
   subst e0;have q1:(((0:Nat):Int) != 0)=false:=by decide
   obtain⟨l,hl⟩:=aa (bx cs a);have HL:=ab hl;by_cases hk:0<=k/\k < (l.length:Int)
   · obtain⟨j,rfl⟩:∃j:Nat,k=(j:Int):=⟨k.toNat,by omega⟩;have hj:j < l.length:=by omega
     obtain⟨r,hr⟩:=aa (bg up ep (a / cs.length) b us l[j] (j == 0));have hx:=ab (show eJ up ep cs a (j:Int) b us=r by unfold eJ;rw[HE.out,if_neg (by decide),HL.out,if_neg (by omega),Int.toNat_natCast,<-hr,List.getD_eq_getElem?_getD,List.getElem?_eq_getElem hj];rfl);have CF:=ab (λ(W1:World) (vc:Value) (hb:Below W.heap.size W W1) (hc:Row W1 lo vc (az (bx cs a)))=>by have h1:=h.below hb;have tr:∀W',Kept (a9 H) W1 W'->Kept (a9 H) W W':=λW' hk=>(Kept.an hb (F:=a9 H)).trans hk (λ_ e=> .inl e);rw[HL.out]at hc;have:=pw up l j ep (a / cs.length) b v vc vb lo hj h1.rows (λW' hk=>Row.aj hc (gm hk h1.bK h1.lo_le)) (λW' hk=>(hvb W' (tr W' hk)).more hb.size) (λj hj=>(hap j hj).1) h1.refs (hok _);rw[hr]at this;exact(And.intro (cF hc) this));have i0:(0:Int)<=(j:Int):=by omega
     have i1:(j:Int) < (l.length:Int):=hk.2;clear h hvb hap hok hr hl hk
     go_enter Tryz.func20,Tryz.ntmps20
     go_wp2_with fail
     refine(CP.out _ B0.out).mono ?_;rintro en w1 ⟨x,rfl,hx1,hb⟩;rcases hx1 with⟨h0,_⟩|⟨_,vc,rfl,hrow⟩
     · exact absurd HE.out h0
     have HB:=ab (B0.out.trans (hb.mono B0.out.size));obtain⟨⟨_,A1,c1,rfl,_⟩,C1⟩:=CF.out w1 vc HB.out hrow;have C1:=ab C1;obtain⟨_,hc0,hc1,_⟩:=(P0.out.below hb P0.out.lt).facts;clear hb CF hrow
     go_wp2_with fail
     refine C1.out.mono ?_;rintro en w2 ⟨rfl,hs⟩;have HS:=ab (aU.trans (W:=W) (H:=H) (λi k e=> .inl e) (Kept.an HB.out) hs);clear hs C1 hc0 hc1
     go_wp2_with fail
     go_ret
     exact⟨by rw[hx.out]<;>rfl,by rw[hx.out];exact HS.out⟩
   · have hx:=ab (show eJ up ep cs a k b us=(us,1) by unfold eJ;rw[HE.out,if_neg (by decide),HL.out,if_pos (by omega)]);have CF:=ab (λ(W1:World) (vc:Value) (hc:Row W1 lo vc (az (bx cs a)))=>cF (HL.out ▸ hc));clear h hvb hap hok hl;cases i0:decide (k < 0) with
     | true=>
       clear hk
       go_enter Tryz.func20,Tryz.ntmps20
       go_wp2_with fail
       refine(CP.out _ B0.out).mono ?_;rintro en w1 ⟨x,rfl,hx1,hb⟩;rcases hx1 with⟨h0,_⟩|⟨_,vc,rfl,hrow⟩
       · exact absurd HE.out h0
       have HB:=ab (B0.out.trans (hb.mono B0.out.size));obtain⟨_,A1,c1,rfl,_⟩:=CF.out w1 vc hrow;clear hb CF hrow
       go_wp2_with fail
       go_ret
       exact⟨by rw[hx.out]<;>rfl,by rw[hx.out];exact aU.refl HC.out.refs HB.out⟩
     | false=>
       have i1:(l.length:Int)<=k:=by simp at i0;omega
       clear hk
       go_enter Tryz.func20,Tryz.ntmps20
       go_wp2_with fail
       refine(CP.out _ B0.out).mono ?_;rintro en w1 ⟨x,rfl,hx1,hb⟩;rcases hx1 with⟨h0,_⟩|⟨_,vc,rfl,hrow⟩
       · exact absurd HE.out h0
       have HB:=ab (B0.out.trans (hb.mono B0.out.size));obtain⟨_,A1,c1,rfl,_⟩:=CF.out w1 vc hrow;clear hb CF hrow
       go_wp2_with fail
       go_ret
       exact⟨by rw[hx.out]<;>rfl,by rw[hx.out];exact aU.refl HC.out.refs HB.out⟩
end
end Go.Proofs.YtiafamacjpgjoaaGreatDoor
namespace Go.Proofs.YtiafamacjpgjoaaGreatDoor
open Go Go.RowKit Tide
theorem dP {w w':World} {B:Nat} {v:Value} {xs:List Value} {K:Nat->Prop} (h:Row w B v xs) (hk:Kept K w w') (hB:B<=w.heap.size) (hf:∀k,v.ownBlock=some k->¬K k):Row w' B v xs:=by obtain⟨h1,A,c,rfl,h2,h3,h4⟩:=h;refine⟨h1,A,c,rfl,h2,h3,λhne=> ?_⟩;obtain⟨b,o,rfl,hb,hc⟩:=h4 hne;exact⟨b,o,rfl,hb,λj u hu=>(hk.cell (p:=⟨b,o+j,none⟩) (Nat.lt_of_lt_of_le hb hB) (hf b rfl)).trans (hc j u hu)⟩
theorem sF (l:List Int) (m:Nat) (hm:l.length=m+1):l.getLastD 0=l[m]'(by omega):=by
 have h:l.getLast? =some (l[m]'(by omega)):=by
  rw[List.getLast?_eq_getElem?];have:l.length - 1=m:=by omega
  rw[this,List.getElem?_eq_getElem]
 rw[List.getLastD_eq_getLast?,h];rfl
theorem jL {ep:Int} {cs:List (List Int)} {a:Int} (h:bA ep cs a=0):1<=(bx cs a).length/\(bx cs a).length<=3:=by
 unfold bA at h;cases hr:aO ep cs with
 | false=>rw[hr]at h;exact absurd h (by simp)
 | true=>obtain⟨_,_,h1,_,h5,_⟩:=fh hr;have hk:a.toNat % cs.length < cs.length:=Nat.mod_lt _ (by omega);rw[mj hk rfl];exact h5 _ (List.getElem_mem hk)
section
variable {W W':World} {lo:Nat} {q:Nat->Nat} {H:Nat->Nat->Prop} {us us':Nat->ah} {up:Nat->Bool} {v vp:Value} {cs:List (List Int)} {Ap:Option Addr} {cp b0 o0 c0:Nat}
theorem dZ.cell (h:dZ W lo q H us up (.slice (some ⟨b0,o0,none⟩) 6 c0) vp cs) {n:Int} (hu:aL up n=true):∃i:Nat,n=i/\i < 6/\W.cell? ⟨b0,o0+i,none⟩=some (.pointer (some ⟨q i,0,none⟩)):=by
 obtain⟨hn0,hn6,hup⟩:=gC hu;obtain⟨i,rfl⟩:∃i:Nat,n=(i:Int):=⟨n.toNat,by omega⟩;have hi:i < 6:=by omega
 obtain⟨b,o,c,e,_,hc⟩:=jO (h.rows W (Kept.refl _ _));injection e with e _ _;injection e with e;injection e with e1 e2;subst e1 e2;have:=hc i hi;unfold cj at this;rw[Int.toNat_natCast]at hup;rw[if_pos hup]at this;exact⟨i,rfl,hi,this⟩
theorem dZ.read (h:dZ W lo q H us up v vp cs) {i:Nat} (hi:i < 6) (hok:dp (us i)) (ep a':Int):
 Calls Tryz.prog 53 #[.pointer (some ⟨q i,0,none⟩),.int .i64 ep,.int .i64 a'] W λe w'=>∃v,e= .returned (.tuple #[v,.int .i64 ((bt (us i) ep a').2:Nat)])/\Bytes w' w'.heap.size v (bt (us i) ep a').1/\(∀k,v.ownBlock=some k->W.heap.size<=k/\k < w'.heap.size)/\Below W.heap.size W w':=(h.refs.un i hi).read hok ep a'
def lQ (W:World) (q:Nat->Nat) (H:Nat->Nat->Prop) (r:(Nat->ah) × List UInt8 × Nat) (e:Ending) (w':World):Prop:=
 ∃v,e= .returned (.tuple #[v,.int .i64 (r.2.2:Nat)])/\Bytes w' w'.heap.size v r.2.1/\aU W q H r.1 w'
def ey (up:Nat->Bool) (ep:Int) (cs:List (List Int)) (a:Int) (us:Nat->ah):(Nat->ah) × List UInt8 × Nat:=
 if bA ep cs a≠0 then(us, [],bA ep cs a) else kD up ep (a / cs.length) us (bx cs a)
theorem Db (h:dZ W lo q H us up (.slice (some ⟨b0,o0,none⟩) 6 c0) (.slice Ap cs.length cp) cs) (ep a:Int) (hok:∀n,aL up n=true->dp (us n.toNat)) (hof:∀b,bA ep cs a=0->fo up ep (a / cs.length) b us 1 ((bx cs a).drop 1)):
 Calls Tryz.prog 24 #[.slice (some ⟨b0,o0,none⟩) 6 c0,cA ep (.slice Ap cs.length cp),.int .i64 a] W (lQ W q H (ey up ep cs a us)):=by
 have B0:=ab ((Below.refl W.heap.size W).alloc (Nat.le_refl _) (.cells #[.int .i64 ep,.slice Ap cs.length cp] 34));have P0:=ab (aI.new W 34 (.int .i64 ep) (.slice Ap cs.length cp));have CP:=ab (λW1 (hb:Below W.heap.size W W1)=>mZ ep cs (.slice Ap cs.length cp) lo W1 a (h.below hb).bQ (h.below hb).lo_le);have HC:=ab h;have HOk:=ab hok;have HOf:=ab hof;obtain⟨e,he⟩:=aa (bA ep cs a);have HE:=ab he;clear he;cases q0:((e:Int) == 0) with
 | false=>
   have e0:e≠0:=by intro e;rw[e]at q0;exact absurd q0 (by decide)
   have hx:=ab (show ey up ep cs a us=(us, [],e) by unfold ey;rw[HE.out,if_pos e0]);have q1:((e:Int) != 0)=true:=by unfold bne;rw[q0];rfl
   clear h hok hof
   go_enter Tryz.func24,Tryz.ntmps24
   go_wp2_with fail
   refine(CP.out _ B0.out).mono ?_;rintro en w1 ⟨x,rfl,hx1,hb⟩;rcases hx1 with⟨_,rfl⟩|⟨h0,_⟩
   · rw[HE.out];have HB:=ab (B0.out.trans (hb.mono B0.out.size));clear hb
     go_wp2_with fail
     go_ret2
     refine⟨_,by rw[hx.out]<;>rfl,by rw[hx.out];exact di _ _,by rw[hx.out];exact aU.refl HC.out.refs HB.out⟩
   · exact absurd (HE.out.symm.trans h0) e0
 | true=>
   have e0:e=0:=by simp at q0;omega
   subst e0;have q1:(((0:Nat):Int) != 0)=false:=by decide
   have hlen:=jL HE.out;obtain⟨R,hR⟩:=aa (kD up ep (a / cs.length) us (bx cs a));have hx:=ab (show ey up ep cs a us=R by unfold ey;rw[HE.out,if_neg (by decide),hR]);have hof:=hof;obtain⟨l,hl⟩:=aa (bx cs a);have HF:=ab (λb=>hof b HE.out);rw[hl]at hlen hR;obtain⟨m,hm⟩:∃m,l.length=m+1:=⟨l.length - 1,by omega⟩;have hm3:m<=2:=by omega
   obtain⟨at',hat⟩:∃z,a / (cs.length:Int)=z:=⟨_,rfl⟩;have CRow:=ab (λ(W1:World) (vc:Value) (hc:Row W1 lo vc (az (bx cs a)))=>cF (hl ▸ hc));have CRw:=ab (λ(W1:World) (vc:Value) (hc:Row W1 lo vc (az (bx cs a)))=>(hl ▸ hc:Row W1 lo vc (az l)));rw[hl,hat]at HF;rw[hat]at hR;have hlast:=sF l m hm;have hhead:l.headD 0=l[0]:=by rw[List.headD_eq_head?_getD,List.head?_eq_getElem?,List.getElem?_eq_getElem (by omega)];rfl
   unfold kD at hR;rw[hm,hlast,hhead]at hR;obtain⟨nl,hnl⟩:∃n,l[m]=n:=⟨_,rfl⟩;obtain⟨n0,hn0⟩:∃n,l[0]=n:=⟨_,rfl⟩;rw[hnl,hn0]at hR;have HNl:=ab (show ∀h:m < l.length,l[m]'h=nl from λ_=>hnl);have HN0:=ab (show ∀h:0 < l.length,l[0]'h=n0 from λ_=>hn0);have HM:=ab hm;have HAt:=ab hat;clear h hok hof hlast hhead hlen hl hm hat hnl hn0;have HR:=ab hR;clear hR
   go_enter Tryz.func24,Tryz.ntmps24
   go_wp2_with fail
   refine(CP.out _ B0.out).mono ?_;rintro en w1 ⟨x,rfl,hx1,hb⟩;rcases hx1 with⟨h0,_⟩|⟨_,vc,rfl,hrow⟩
   · exact absurd HE.out h0
   rw[HAt.out];have HB:=ab (B0.out.trans (hb.mono B0.out.size));obtain⟨_,A1,c1,rfl,hcu⟩:=CRow.out w1 vc hrow;obtain⟨b1,o1,rfl,hb1,hc1⟩:=hcu m (by rw[HM.out];omega);rw[HNl.out (by rw[HM.out];omega)]at hc1;obtain⟨b1',o1',e1,_,hc10⟩:=hcu 0 (by rw[HM.out];omega);injection e1 with e1;injection e1 with e11 e12;subst e11 e12;rw[HN0.out (by rw[HM.out];omega)]at hc10;clear hcu;have HRow:=ab (CRw.out w1 _ hrow);have hC1:=HC.out.below HB.out;have HC1:=ab hC1;obtain⟨hpl,hp0,hp1,_⟩:=(P0.out.below hb P0.out.lt).facts;have HPl:=ab hpl;have HV0:=ab (show b0 < w1.heap.size from by obtain⟨b,o,c,e,hlt,_⟩:=jO (hC1.rows w1 (Kept.refl _ _));injection e with e;injection e with e;injection e with e;omega);have CU:=ab (lB up q nl _ _ w1 (hC1.rows w1 (Kept.refl _ _)));rw[HM.out];clear hb hrow CRow CRw hC1 CP;have ix:((m:Int)+1) - 1=(m:Int):=by omega
   have i0:(0:Int)<=(m:Int):=by omega
   go_wp2_with fail
   refine CU.out.mono ?_;rintro en w2 ⟨rfl,rfl⟩;clear CU;cases hu:aL up nl with
   | false=>
     have hRx:=ab (show ey up ep cs a us=(us, [],12) by rw[hx.out,<-HR.out,if_pos hu]);clear hu
     go_wp2_with fail
     go_ret2
     exact⟨_,by rw[hRx.out]<;>rfl,by rw[hRx.out];exact di _ _,by rw[hRx.out];exact aU.refl HC.out.refs HB.out⟩
   | true=>
   have hr9:=HR.out;rw[if_neg (by simp[hu])]at hr9;have HR:=ab hr9;clear hr9;obtain⟨i,hni,hi,hcell⟩:=HC1.out.cell hu;subst hni;rw[Int.toNat_natCast]at HR;have CD:=ab ((HC1.out.below (Below.refl w1.heap.size w1).drew).read hi (by have:=HOk.out _ hu;rwa[Int.toNat_natCast]at this) ep at');obtain⟨rd,hrd⟩:=aa (bt (us i) ep at');rw[hrd]at CD HR;have i6:(i:Int) < 6:=by omega
   have i00:(0:Int)<=(i:Int):=by omega
   obtain⟨m1,hm1⟩:=aa rd.2;rw[hm1]at CD HR;have HM1:=ab hm1;have im:(m:Int) < (m:Int)+1:=by omega
   have wm:IntKind.i64.wrap ((m:Int)+1 - 1)=(m:Int):=by rw[ix];exact IntWalk.i64_in _ (by omega)
   have wm2:IntKind.i64.wrap (m:Int)=(m:Int):=IntWalk.i64_in _ (by omega);have K1:=ab (And.intro hc1 (And.intro hcell hp0));have T1:=ab (And.intro (Nat.lt_of_lt_of_le hb1 HC1.out.lo_le) hc10);clear hrd hm1 hu hp1 hc1 hcell hp0 hc10
   go_wp2_with fail
   go_region_held3 (λY=>Y.cell? ⟨b1,o1+m,none⟩=some (.int .i64 (i:Int))/\Y.cell? ⟨b0,o0+i,none⟩=some (.pointer (some ⟨q i,0,none⟩))/\Y.cell? ⟨W.heap.size,0,none⟩=some (.int .i64 ep))
    (first|exact K1.out|exact K2.out)
    (first
      | ((with_reducible refine CD.out.mono ?_);rintro en w2 ⟨vo,rfl,hbo,_,hb2⟩;have K2:=ab (And.intro ((hb2.cell (p:=⟨b1,o1+m,none⟩) T1.out.1).trans K1.out.1) (And.intro ((hb2.cell (p:=⟨b0,o0+i,none⟩) HV0.out).trans K1.out.2.1) ((hb2.cell (p:=⟨W.heap.size,0,none⟩) HPl.out).trans K1.out.2.2)))))
   obtain⟨Ao,co,rfl,_⟩:=hbo.form;have HBo:=ab hbo;have HB2:=ab (HB.out.trans (Below.trans ((Below.refl w1.heap.size w1).drew) (hb2.mono (Nat.le_refl _)) |>.mono HB.out.size));have B12:=ab (((Below.refl w1.heap.size w1).drew).trans hb2);have hC2:=HC1.out.below B12.out;have hc10:w2.cell? ⟨b1,o1,none⟩=some (.int .i64 n0):=(hb2.cell (p:=⟨b1,o1,none⟩) T1.out.1).trans T1.out.2;have hp0:=K2.out.2.2;have CU2:=ab (lB up q n0 _ _ w2 (hC2.rows w2 (Kept.refl _ _)));have HC2:=ab hC2;have HRow2:=ab (Row.aj HRow.out (eH (B12.out.mono HC1.out.lo_le)));have Hz2:=ab (show b1 < w2.heap.size/\b0 < w2.heap.size/\W.heap.size < w2.heap.size from⟨Nat.lt_of_lt_of_le T1.out.1 B12.out.size,Nat.lt_of_lt_of_le HV0.out B12.out.size,Nat.lt_of_lt_of_le HPl.out B12.out.size⟩);clear hbo hb2 hC2 CD HRow wm wm2 im K1 K2;cases q2:((m1:Int) == 10) with
   | false=>
     have hRx:=ab (show ey up ep cs a us=(us,rd) by rw[hx.out,<-HR.out,if_pos (.inl (by intro e;rw[e]at q2;exact absurd q2 (by decide)))]);have q2':((m1:Int) != 10)=true:=by unfold bne;rw[q2];rfl
     clear CU2 hc10 hp0
     go_wp2_with fail
     go_ret2
     exact⟨_,by rw[hRx.out,<-HM1.out]<;>rfl,by rw[hRx.out];exact HBo.out,by rw[hRx.out];exact aU.refl HC.out.refs HB2.out⟩
   | true=>
   have q2':((m1:Int) != 10)=false:=by unfold bne;rw[q2];rfl
   cases q3:((m:Int)+1 == 1) with
   | true=>
     have hRx:=ab (show ey up ep cs a us=(us,rd) by rw[hx.out,<-HR.out,if_pos (.inr (by simp at q3;omega))]);clear CU2 hc10 hp0
     go_wp2_with fail
     go_ret2
     exact⟨_,by rw[hRx.out,<-HM1.out]<;>rfl,by rw[hRx.out];exact HBo.out,by rw[hRx.out];exact aU.refl HC.out.refs HB2.out⟩
   | false=>
   have hr9:=HR.out;rw[if_neg (by rintro(h|h);exact h (by simp at q2;omega);simp at q3;omega)]at hr9;have HR:=ab hr9;clear hr9
   go_wp2_with fail
   refine CU2.out.mono ?_;rintro en w3 ⟨rfl,rfl⟩;clear CU2;cases hu:aL up n0 with
   | false=>
     have hRx:=ab (show ey up ep cs a us=(us, [],12) by rw[hx.out,<-HR.out,if_pos hu]);clear hu
     go_wp2_with fail
     go_ret2
     exact⟨_,by rw[hRx.out]<;>rfl,by rw[hRx.out];exact di _ _,by rw[hRx.out];exact aU.refl HC.out.refs HB2.out⟩
   | true=>
   have hr9:=HR.out;rw[if_neg (by simp[hu])]at hr9;have HR:=ab hr9;clear hr9;obtain⟨j,hnj,hj,hcell⟩:=HC2.out.cell hu;subst hnj;rw[Int.toNat_natCast]at HR;have CD:=ab ((HC2.out.below (Below.refl w2.heap.size w2).drew).read hj (by have:=HOk.out _ hu;rwa[Int.toNat_natCast]at this) ep at');obtain⟨rz,hrz⟩:∃rd,bt (us j) ep at'=rd:=⟨_,rfl⟩;rw[hrz]at CD HR;have j6:(j:Int) < 6:=by omega
   have j00:(0:Int)<=(j:Int):=by omega
   obtain⟨m3,hm3'⟩:∃m1,rz.2=m1:=⟨_,rfl⟩;rw[hm3']at CD HR;have K1:=ab (And.intro hc10 (And.intro hcell hp0));clear hrz hu hm3' hc10 hcell hp0;have il:(0:Int) < (m:Int)+1:=by omega
   go_wp2_with fail
   go_region_held3 (λY=>Y.cell? ⟨b1,o1,none⟩=some (.int .i64 (j:Int))/\Y.cell? ⟨b0,o0+j,none⟩=some (.pointer (some ⟨q j,0,none⟩))/\Y.cell? ⟨W.heap.size,0,none⟩=some (.int .i64 ep))
    (first|exact K1.out|exact K2.out)
    (first
      | ((with_reducible refine CD.out.mono ?_);rintro en w3 ⟨vz,rfl,hbz,hown,hb3⟩;have K2:=ab (And.intro ((hb3.cell (p:=⟨b1,o1,none⟩) Hz2.out.1).trans K1.out.1) (And.intro ((hb3.cell (p:=⟨b0,o0+j,none⟩) Hz2.out.2.1).trans K1.out.2.1) ((hb3.cell (p:=⟨W.heap.size,0,none⟩) Hz2.out.2.2).trans K1.out.2.2)))))
   obtain⟨Az,cz,rfl,_⟩:=hbz.form;have HBz:=ab hbz;have B23:=ab (((Below.refl w2.heap.size w2).drew).trans hb3);have HB3:=ab (HB2.out.trans (B23.out.mono HB2.out.size));have HC3:=ab (HC2.out.below B23.out);have HRow3:=ab (Row.aj HRow2.out (eH (B23.out.mono HC2.out.lo_le)));have hp0:=K2.out.2.2;have HOw:=ab (show ∀k,(Value.slice Az rz.1.length cz).ownBlock=some k->¬a9 H k from λk e hk=>by have h1:w2.heap.size<=k:=(hown k e).1;have:=HC2.out.refs.lt k hk;omega);have HOlt:=ab (λk e=>(hown k e).2);clear hbz hb3 hown CD K1 K2 HRow2;cases q4:((m3:Int) == 0) with
   | false=>
     have hRx:=ab (show ey up ep cs a us=(us, [],m3) by rw[hx.out,<-HR.out,if_pos (by intro e;rw[e]at q4;exact absurd q4 (by decide))]);have q4':((m3:Int) != 0)=true:=by unfold bne;rw[q4];rfl
     clear hp0
     go_wp2_with fail
     go_ret2
     exact⟨_,by rw[hRx.out]<;>rfl,by rw[hRx.out];exact di _ _,by rw[hRx.out];exact aU.refl HC.out.refs HB3.out⟩
   | true=>
   have q4':((m3:Int) != 0)=false:=by unfold bne;rw[q4];rfl
   have hr9:=HR.out;rw[if_neg (by simp at q4;omega)]at hr9;have CF:=lA up l 1 ep at' rz.1 _ _ (Value.slice Az rz.1.length cz) lo (by rw[HM.out];omega) HC3.out.lo_le HC3.out.rows (λW' hk=>Row.aj HRow3.out (gm hk HC3.out.bK HC3.out.lo_le)) (λW' hk=>dP HBz.out hk (Nat.le_refl _) HOw.out) (λk e=>⟨HOw.out k e,HOlt.out k e⟩) HC3.out.refs (HF.out rz.1);rw[HM.out]at CF;obtain⟨r,hr⟩:=aa (a8 up ep at' rz.1 us 1 (l.drop 1));rw[hr]at CF hr9;obtain⟨mm,hmm⟩:=aa r.2;rw[hmm]at CF hr9;have CF:=ab CF;have HR:=ab hr9;clear hr9 hr hmm
   go_wp2_with fail
   refine CF.out.mono ?_;rintro en w4 ⟨rfl,hs⟩;have HBz4:=ab (show Bytes w4 w4.heap.size (.slice Az rz.1.length cz) rz.1 from by obtain⟨_,_,_,g3⟩:=hs;exact Row.more (dP HBz.out g3 (Nat.le_refl _) HOw.out) g3.size);have HS:=ab (aU.trans (W:=W) (H:=H) (λi k e=> .inl e) (Kept.an HB3.out) hs);clear hs CF hp0;cases q5:((mm:Int) == 0) with
   | false=>
     have hRx:=ab (show ey up ep cs a us=(r.1, [],mm) by rw[hx.out,<-HR.out,if_pos (by intro e;rw[e]at q5;exact absurd q5 (by decide))]);have q5':((mm:Int) != 0)=true:=by unfold bne;rw[q5];rfl
     go_wp2_with fail
     go_ret2
     exact⟨_,by rw[hRx.out]<;>rfl,by rw[hRx.out];exact di _ _,by rw[hRx.out];exact HS.out⟩
   | true=>
     have hRx:=ab (show ey up ep cs a us=(r.1,rz.1,0) by rw[hx.out,<-HR.out,if_neg (by simp at q5;omega)]);have q5':((mm:Int) != 0)=false:=by unfold bne;rw[q5];rfl
     go_wp2_with fail
     go_ret2
     exact⟨_,by rw[hRx.out]<;>rfl,by rw[hRx.out];exact HBz4.out,by rw[hRx.out];exact HS.out⟩
end
end Go.Proofs.YtiafamacjpgjoaaGreatDoor
namespace Go.Proofs.YtiafamacjpgjoaaGreatDoor
open Go Go.RowKit Tide
section
variable {D:aB} {a x:Nat->Addr} {w W W':World} {lo:Nat->Prop} {m N M:Nat} {g:Nat->Nat} {H:Nat->Nat->Prop} {us us':Nat->ah} {up:Nat->Bool} {v vp:Value} {cs:List (List Int)}
theorem pM (hD:ay (three a) D) (hE:av w a) (hN:N<=90000) (h:cZ D w W lo g H m us up v vp cs N) (ep at':Int) (l:List Int) (vc:Value) (hc:aS W lo vc (az l)) (k:Nat) (hk:k < l.length) (vb:Value) (b:List UInt8) (hvb:Bytes W W.heap.size vb b) (hap:∀j,vb.ownBlock=some j->¬bX m H j):
 Calls Tryz.prog 45 #[.agg #[v,.int .i64 ep,vc,.int .i64 at'],.int .i64 (k:Int),vb] W λe w'=>∃x,e= .returned x/\bE a x (bg up ep at' b us l[k] (k == 0)).2/\aH D w W g H m 128 (N+1) (bg up ep at' b us l[k] (k == 0)).1 w':=by
 have HD:=ab hD;have HE:=ab hE;have HC:=ab h;obtain⟨b0,o0,c0,rfl,_,hrow6⟩:=fD h.dx.1 (h.rows W (Kept.refl _ _));clear hrow6;obtain⟨hcl,A1,c1,rfl,hcu⟩:=cF hc.1;obtain⟨b1,o1,rfl,hb1,hcj⟩:=hcu k hk;obtain⟨Ab,cb,rfl,_⟩:=hvb.form;have B0:=ab ((Below.refl W.heap.size W).alloc (Nat.le_refl _) (.cells #[.slice (some ⟨b0,o0,none⟩) m c0,.int .i64 ep,.slice (some ⟨b1,o1,none⟩) l.length c1,.int .i64 at'] 79));have P0:=ab (bY.new W (.slice (some ⟨b0,o0,none⟩) m c0) ep (.slice (some ⟨b1,o1,none⟩) l.length c1) at');replace hcj:=(B0.out.cell (p:=⟨b1,o1+k,none⟩) hb1).trans hcj;have hks:(k:Int) < (l.length:Int):=by omega
 have HRow:=ab hc;have HVb:=ab hvb;have HAp:=ab hap;have CS:=ab (λ(W1:World) (H1:Nat->Nat->Prop) (M:Nat) (h1:cZ D w W1 lo g H1 m us up (.slice (some ⟨b0,o0,none⟩) m c0) vp cs M) (hc1:aS W1 lo (.slice (some ⟨b1,o1,none⟩) l.length c1) (az l))=>na HD.out HE.out h1 ep at' l _ hc1 k hk);obtain⟨n,hn⟩:=aa (l[k]);rw[hn]at hcj CS ⊢;obtain⟨L,hL⟩:=aa l.length;rw[hL]at B0 P0 hcj hks CS HRow ⊢;obtain⟨p0,p1,p2,p3⟩:=P0.out.facts;have K1:=ab (And.intro p0 (And.intro p2 hcj));have HPl:=ab P0.out.lt;have Hb1:=ab (Nat.lt_of_lt_of_le hb1 B0.out.size);clear h hc hcu hcl hL hn hk hD hE p0 p1 p2 p3 hcj hvb hap;cases hu:aL up n with
 | false=>
   have hp:=ab (o8 (ep:=ep) (at':=at') (b:=b) (us:=us) (first:=k == 0) hu);rw[hp.out];have CU:=ab (up_down HE.out (HC.out.below HD.out B0.out.drew) hu);clear hu CS
   go_enter Tryz.func45,Tryz.ntmps45
   go_wp2_with fail
   go_region_held3 (λY=>Y.cell? ⟨W.heap.size,0,none⟩=some (.slice (some ⟨b0,o0,none⟩) m c0)/\Y.cell? ⟨W.heap.size,2,none⟩=some (.slice (some ⟨b1,o1,none⟩) L c1)/\Y.cell? ⟨b1,o1+k,none⟩=some (.int .i64 n))
    (first|exact K1.out|exact K2.out)
    (first
      | ((with_reducible refine CU.out.mono ?_);rintro en w2 ⟨rfl,hb2⟩;have K2:=ab (And.intro ((hb2.cell (p:=⟨W.heap.size,0,none⟩) HPl.out).trans K1.out.1) (And.intro ((hb2.cell (p:=⟨W.heap.size,2,none⟩) HPl.out).trans K1.out.2.1) ((hb2.cell (p:=⟨b1,o1+k,none⟩) Hb1.out).trans K1.out.2.2)))))
   have HB2:=ab (B0.out.trans (((Below.refl _ _).drew.trans (hb2.mono (Nat.le_refl _))).mono B0.out.size));clear K1 K2 CU hb2
   go_wp2_with fail
   go_ret
   exact⟨_,rfl,bL a 11 (by decide),(aH.refl HD.out HC.out.aX HB2.out).mono (Nat.le_succ _)⟩
 | true=>
   obtain⟨i,rfl,hi,_⟩:=lG HC.out.dx hu;have CU:=ab (nn HE.out (HC.out.below HD.out B0.out.drew) hu);have CW:=ab (λ(W1:World) (hb:Below W.heap.size W W1)=>((HC.out.below HD.out hb).aX.un i hi).write HD.out HE.out (by decide) hN ep at' _ b ((HVb.out.below hb).more hb.size));have HPut:=ab (show bg up ep at' b us (i:Int) (k == 0)=if(aT (us i) ep at' b).2≠9\/(k == 0)=true then(bZ us i (aT (us i) ep at' b).1,(aT (us i) ep at' b).2) else(us,if(bt (us i) ep at').2=0/\(bt (us i) ep at').1≠b then 17 else(bt (us i) ep at').2) from by unfold bg;rw[if_neg (by rw[hu];simp),Int.toNat_natCast]);have HSr:=ab (show dc up ep at' us (i:Int)=bt (us i) ep at' from by unfold dc;rw[if_neg (by rw[hu];simp),Int.toNat_natCast]);rw[HSr.out]at CS;obtain⟨r,hr⟩:=aa (aT (us i) ep at' b);have HWe:=ab (λh:r.2≠0=>show r.1=us i from by rw[<-hr]at h ⊢;exact qh h);rw[hr]at CW HPut;obtain⟨rd,hrd⟩:=aa (bt (us i) ep at');rw[hrd]at CS HPut;obtain⟨p,hp⟩:=aa (bg up ep at' b us (i:Int) (k == 0));rw[hp]at HPut ⊢;have HI:=ab hi;clear hu hr hrd hp hi HSr
   go_enter Tryz.func45,Tryz.ntmps45
   go_wp2_with fail
   go_region_held3 (λY=>Y.cell? ⟨W.heap.size,0,none⟩=some (.slice (some ⟨b0,o0,none⟩) m c0)/\Y.cell? ⟨W.heap.size,2,none⟩=some (.slice (some ⟨b1,o1,none⟩) L c1)/\Y.cell? ⟨b1,o1+k,none⟩=some (.int .i64 (i:Int)))
    (first|exact K1.out|exact K2.out)
    (first
      | ((with_reducible refine CU.out.mono ?_);rintro en w2 ⟨rfl,hb2⟩;have K2:=ab (And.intro ((hb2.cell (p:=⟨W.heap.size,0,none⟩) HPl.out).trans K1.out.1) (And.intro ((hb2.cell (p:=⟨W.heap.size,2,none⟩) HPl.out).trans K1.out.2.1) ((hb2.cell (p:=⟨b1,o1+k,none⟩) Hb1.out).trans K1.out.2.2)))))
   have B02:=ab ((Below.refl _ _).drew.trans hb2);have HB2:=ab (B0.out.trans (B02.out.mono B0.out.size));have P2:=ab (P0.out.below B02.out);obtain⟨p0,p1,p2,p3⟩:=P2.out.facts;have C2:=ab (CW.out w2 HB2.out);clear K1 K2 CU hb2 CW B02 p0 p2
   go_wp2_with fail
   refine C2.out.mono ?_;rintro en w3 ⟨x3,rfl,hx3,hst⟩;have HX3:=ab hx3;have hC2:=HC.out.below HD.out HB2.out;have HS3:=ab (hC2.aX.step HD.out HI.out hst);have HC2:=ab hC2;have hfr:¬bX m H W.heap.size:=λe=>by have:=(HC.out.aX.lt _ e).2;omega
   have P3:=ab (show bY w3 W.heap.size _ _ _ _ from by obtain⟨_,_,_,g3⟩:=HS3.out;exact P2.out.kept g3 hfr);have E3':=ab (HE.out.below (by obtain⟨_,g1,_,_⟩:=HS3.out;exact g1.since));have e9:w3.cell? ⟨9,0,none⟩=some (ao (a 8)):=E3'.out.var 8 (by decide);have CI:=ab (ot a x3 r.2 8 w3 E3'.out HX3.out (by decide));clear hx3 hst hC2 C2 p1 p3;cases qk:((k:Int) == 0) with
   | true=>
     have hk0:(k == 0)=true:=by simpa using qk
     have hpe:=HPut.out;rw[if_pos (.inr hk0)]at hpe;have HP:=ab hpe;clear hpe HPut CI
     go_wp2_with fail
     go_ret
     exact⟨_,rfl,by rw[HP.out];exact HX3.out,by rw[HP.out];exact aH.after HB2.out HS3.out⟩
   | false=>
     have hk0:(k == 0)=false:=by simpa using qk
     cases q9:(r.2 == 8+1) with
     | false=>
       have hpe:=HPut.out;rw[if_pos (.inl (by simpa using q9))]at hpe;have HP:=ab hpe;rw[q9]at CI;clear hpe HPut q9 hk0
       go_wp2_with fail
       refine CI.out.mono ?_;rintro en w4 ⟨rfl,rfl⟩;clear CI
       go_wp2_with fail
       go_ret
       exact⟨_,rfl,by rw[HP.out];exact HX3.out,by rw[HP.out];exact aH.after HB2.out HS3.out⟩
     | true=>
       have h9:r.2=9:=by simpa using q9
       have hpe:=HPut.out;rw[if_neg (by rw[h9,hk0];simp)]at hpe;have hs3:=HS3.out;rw[HWe.out (by rw[h9];decide),pY]at hs3;obtain⟨H3,hC3,g2,g3⟩:=HC2.out.step hs3;have HC3:=ab hC3;have HTr:=ab (λ(W4:World) (h4:aH D w w3 g H3 m 128 (N+1) us W4)=>aH.after HB2.out (aH.trans g2 g3 h4));have C3:=ab (CS.out w3 H3 _ hC3 (aS.kept (aS.below HRow.out HB2.out) g3 HC2.out.bK));have HV3:=ab (show Bytes w3 w3.heap.size _ b from Row.more (dP ((HVb.out.below HB2.out).more HB2.out.size) g3 (Nat.le_refl _) HAp.out) g3.size);rw[q9]at CI;have HPe:=ab hpe;obtain⟨p0,p1,p2,p3⟩:=P3.out.facts;clear hpe HPut q9 hk0 h9 hs3 hC3 g2 g3 CS HS3
       go_wp2_with fail
       refine CI.out.mono ?_;rintro en w4 ⟨rfl,rfl⟩;clear CI
       go_wp2_with fail
       refine C3.out.mono ?_;rintro en w4 ⟨v4,x4,rfl,hv4,_,hx4,hb4⟩;obtain⟨A4,c4,rfl,_⟩:=hv4.form;have HX4:=ab hx4;have HS4:=ab (HTr.out w4 (aH.refl HD.out HC3.out.aX hb4));have CQ:=ab (rG rd.1 b _ _ _ _ w4 hv4 (HV3.out.below hb4));have e17:w4.cell? ⟨16,0,none⟩=some (ao (a 16)):=(E3'.out.below hb4).var 16 (by decide);clear hv4 hx4 hb4 C3 p0 p1 p2 p3 e9;by_cases h0:rd.2=0
       · have hx4:=HX4.out;rw[h0]at hx4;obtain rfl:=gN hx4 rfl;cases qe:decide (rd.1=b) with
         | true=>
           have hpx:p=(us,0):=by rw[HPe.out,if_neg (by rintro⟨_,hne⟩;exact hne (of_decide_eq_true qe)),h0]
           have HP:=ab hpx;rw[qe]at CQ;clear hpx hx4 h0 qe HPe
           go_wp2_with fail
           refine CQ.out.mono ?_;rintro en w5 ⟨rfl,rfl⟩;clear CQ
           go_wp2_with fail
           go_ret
           exact⟨_,rfl,by rw[HP.out];exact fw a,by rw[HP.out];exact HS4.out⟩
         | false=>
           have hpx:p=(us,17):=by rw[HPe.out,if_pos ⟨h0,of_decide_eq_false qe⟩]
           have HP:=ab hpx;rw[qe]at CQ;clear hpx hx4 h0 qe HPe
           go_wp2_with fail
           refine CQ.out.mono ?_;rintro en w5 ⟨rfl,rfl⟩;clear CQ
           go_wp2_with fail
           go_ret
           exact⟨_,rfl,by rw[HP.out];exact bL a 16 (by decide),by rw[HP.out];exact HS4.out⟩
       · obtain⟨ad,rfl⟩:=fK HX4.out h0;have hpx:p=(us,rd.2):=by rw[HPe.out,if_neg (by rintro⟨h,_⟩;exact h0 h)]
         have HP:=ab hpx;clear hpx h0 HPe CQ
         go_wp2_with fail
         go_ret
         exact⟨_,rfl,by rw[HP.out];exact HX4.out,by rw[HP.out];exact HS4.out⟩
end
end Go.Proofs.YtiafamacjpgjoaaGreatDoor
namespace Go.Proofs.YtiafamacjpgjoaaGreatDoor
open Go Go.RowKit Tide
section
variable {D:aB} {a x:Nat->Addr} {w W W':World} {lo:Nat->Prop} {m N M:Nat} {g:Nat->Nat} {H:Nat->Nat->Prop} {us us':Nat->ah} {up:Nat->Bool} {v vp:Value} {cs:List (List Int)}
theorem pJ (hD:ay (three a) D) (hE:av w a) (h:cZ D w W lo g H m us up v vp cs N) (ep at':Int) (l:List Int) (hN:N+l.length<=90000) (vc:Value) (hc:aS W lo vc (az l)) (k:Nat) (hk:k<=l.length) (vb:Value) (b:List UInt8) (hvb:Bytes W W.heap.size vb b) (hap:∀j,vb.ownBlock=some j->¬bX m H j/\j < W.heap.size):
 Calls Tryz.prog 35 #[.agg #[v,.int .i64 ep,vc,.int .i64 at'],.int .i64 (k:Int),vb] W λe w'=>∃x,e= .returned x/\bE a x (a8 up ep at' b us k (l.drop k)).2/\aH D w W g H m 128 (N+l.length) (a8 up ep at' b us k (l.drop k)).1 w':=by
 obtain⟨b0,o0,c0,rfl,_,hrow6⟩:=fD h.dx.1 (h.rows W (Kept.refl _ _));clear hrow6;obtain⟨hcl,A1,c1,rfl,hcu⟩:=cF hc.1;clear hcu hcl;obtain⟨Ab,cb,rfl,_⟩:=hvb.form;obtain⟨W0,hW0⟩:=aa (W.alloc (.cells #[.slice (some ⟨b0,o0,none⟩) m c0,.int .i64 ep,.slice A1 l.length c1,.int .i64 at'] 79));have B0:=ab (show Below W.heap.size W W0 from by rw[<-hW0];exact(Below.refl W.heap.size W).alloc (Nat.le_refl _) _);have P0:=ab (show bY W0 W.heap.size (.slice (some ⟨b0,o0,none⟩) m c0) ep (.slice A1 l.length c1) at' from by rw[<-hW0];exact bY.new W _ _ _ _)
 have CP:=ab (λ(wr:World) (us':Nat->ah) (j:Nat) (hj:j < l.length) (hs:aH D w W0 g H m 128 (N+j) us' wr)=>
  (show Calls Tryz.prog 45 #[.agg #[.slice (some ⟨b0,o0,none⟩) m c0,.int .i64 ep,.slice A1 l.length c1,.int .i64 at'],.int .i64 (j:Int),.slice Ab b.length cb] wr λe w'=>∃x,e= .returned x/\bE a x (bg up ep at' b us' l[j] (j == 0)).2/\aH D w W0 g H m 128 (N+(j+1)) (bg up ep at' b us' l[j] (j == 0)).1 w' from by
    have h0:=h.below hD B0.out;obtain⟨H',hC,g2,g3⟩:=h0.step hs;have hv0:=(hvb.below B0.out).more B0.out.size;refine(pM hD hE (by omega) hC ep at' l _ (aS.kept (aS.below hc B0.out) g3 h0.bK) j hj _ b (Row.more (dP hv0 g3 (Nat.le_refl _) (λk e=>(hap k e).1)) g3.size) (λj' hj' ⟨i,hi,e⟩=> ?_)).mono ?_
    · rcases g2 i j' e with e|e
      · exact(hap j' hj').1 ⟨i,hi,e⟩
      · have:=(hap j' hj').2;have:=B0.out.size;omega
    · rintro e w' ⟨x,he,hx,hs⟩;exact⟨x,he,hx,aH.trans g2 g3 hs⟩))
 have HS0:=ab (show aH D w W0 g H m 128 (N+k) us W0 from(aH.refl hD (h.aX.below hD B0.out) (Below.refl _ _)).mono (by omega));have HFr:=ab (show ¬bX m H W.heap.size from λe=>by have:=(h.aX.lt _ e).2;omega);obtain⟨R,hR⟩:=aa (a8 up ep at' b us k (l.drop k));have HR:=ab hR;rw[hR];clear hc hvb hap h hR hE
 go_enter Tryz.func35,Tryz.ntmps35
 go_wp2_with fail
 clear hW0
 go_loopw [1] (λi wr=>∃ (j:Nat) (us':Nat->ah),i= .int .i64 j/\j<=l.length/\Hid (a8 up ep at' b us' j (l.drop j)=R)/\Hid (aH D w W0 g H m 128 (N+j) us' wr)) (λi _=>l.length - (intOf i).toNat)
 case atStart=>exact⟨k,us,rfl,hk,HR,HS0⟩
 case round=>
  obtain⟨j,us',rfl,hj,hf,hs⟩:=hrel;have PR:=ab (show bY wr W.heap.size _ _ _ _ from by obtain⟨_,_,_,g3⟩:=hs.out;exact P0.out.kept g3 HFr.out);obtain⟨p0,p1,p2,p3⟩:=PR.out.facts;by_cases hlj:j < l.length
  · have hd:l.drop j=l[j] :: l.drop (j+1):=List.drop_eq_getElem_cons hlj;have hf:=hf.out;rw[hd,mc]at hf;have C1:=CP.out wr us' j hlj hs.out;obtain⟨r,hr⟩:=aa (bg up ep at' b us' l[j] (j == 0));rw[hr]at C1 hf;have C1:=ab C1;have i1:(j:Int) < (l.length:Int):=by omega
    by_cases hm0:r.2=0
    · rw[if_neg (by rw[hm0];simp)]at hf;have HF:=ab hf;have HM0:=ab hm0;clear hf hd hr hm0 hs
      go_wp2_with fail
      refine C1.out.mono ?_;rintro e w1 ⟨x1,rfl,hx1,hs1⟩;obtain rfl:=gN hx1 HM0.out;have HS1:=ab hs1;clear hs1 C1 p0 p1 p2 p3 hx1
      go_wp2_with fail
      go_roundw
      case rel=>exact⟨j+1,r.1,by go_num,by omega,HF,HS1⟩
      case measure=>simp[intOf];omega
    · rw[if_pos hm0]at hf;have HF:=ab hf;have HM0:=ab hm0;clear hf hd hr hm0 hs
      go_wp2_with fail
      refine C1.out.mono ?_;rintro e w1 ⟨x1,rfl,hx1,hs1⟩;obtain⟨ad,rfl⟩:=fK hx1 HM0.out;have HX1:=ab hx1;have HS1:=ab (aH.after B0.out (hs1.mono (show N+(j+1)<=N+l.length by omega)));clear hs1 C1 p0 p1 p2 p3 hx1
      go_wp2_with fail
      go_ret
      exact⟨_,rfl,by rw[<-HF.out];exact HX1.out,by rw[<-HF.out];exact HS1.out⟩
  · have hje:j=l.length:=by omega
    have hf:=hf.out;rw[hje,List.drop_length]at hf;have HF:=ab hf;have HS:=ab (aH.after B0.out (hs.out.mono (show N+j<=N+l.length by omega)));have i1:¬(j:Int) < (l.length:Int):=by omega
    clear hf hs CP hje
    go_wp2_with fail
    go_ret
    exact⟨_,rfl,by rw[<-HF.out];exact fw a,by rw[<-HF.out];exact HS.out⟩
def fq (vb:Value) (k:Nat):Value:=if k=0 then vb else .slice none 0 0
theorem rL (hD:ay (three a) D) (hE:av w a) (h:cZ D w W lo g H m us up v vp cs N) (ep at':Int) (l:List Int) (hN:N+l.length<=90000) (vc:Value) (hc:aS W lo vc (az l)) (hl:1<=l.length) (vb:Value) (b:List UInt8) (hvb:Bytes W W.heap.size vb b) (hap:∀j,vb.ownBlock=some j->¬bX m H j/\j < W.heap.size):
 Calls Tryz.prog 38 #[.agg #[v,.int .i64 ep,vc,.int .i64 at'],vb] W λe w'=>∃x,e= .returned (.tuple #[fq vb (a8 up ep at' b us 1 (l.drop 1)).2,x])/\bE a x (a8 up ep at' b us 1 (l.drop 1)).2/\aH D w W g H m 128 (N+l.length) (a8 up ep at' b us 1 (l.drop 1)).1 w':=by
 obtain⟨b0,o0,c0,rfl,_,hrow6⟩:=fD h.dx.1 (h.rows W (Kept.refl _ _));clear hrow6;obtain⟨hcl,A1,c1,rfl,hcu⟩:=cF hc.1;clear hcu hcl;obtain⟨Ab,cb,rfl,_⟩:=hvb.form;obtain⟨W0,hW0⟩:=aa (W.alloc (.cells #[.slice (some ⟨b0,o0,none⟩) m c0,.int .i64 ep,.slice A1 l.length c1,.int .i64 at'] 79));have B0:=ab (show Below W.heap.size W W0 from by rw[<-hW0];exact(Below.refl W.heap.size W).alloc (Nat.le_refl _) _);have P0:=ab (show bY W0 W.heap.size (.slice (some ⟨b0,o0,none⟩) m c0) ep (.slice A1 l.length c1) at' from by rw[<-hW0];exact bY.new W _ _ _ _);have h0:=h.below hD B0.out;have CF:=pJ hD hE h0 ep at' l hN _ (aS.below hc B0.out) 1 hl _ b ((hvb.below B0.out).more B0.out.size) (λj hj=>⟨(hap j hj).1,Nat.lt_of_lt_of_le (hap j hj).2 B0.out.size⟩);obtain⟨R,hR⟩:=aa (a8 up ep at' b us 1 (l.drop 1));rw[hR]at CF ⊢;have CF:=ab CF;obtain⟨p0,p1,p2,p3⟩:=P0.out.facts;clear hc hvb hap h h0 hR hE;by_cases hm0:R.2=0
 · have HM0:=ab hm0;clear hm0
   go_enter Tryz.func38,Tryz.ntmps38
   go_wp2_with fail
   refine CF.out.mono ?_;rintro e w1 ⟨x1,rfl,hx1,hs1⟩;obtain rfl:=gN hx1 HM0.out;have HX1:=ab hx1;have HS1:=ab (aH.after B0.out hs1);clear hs1 CF p0 p1 p2 p3 hx1 hW0
   go_wp2_with fail
   go_ret2
   exact⟨_,by unfold fq;rw[if_pos HM0.out]<;>rfl,HX1.out,HS1.out⟩
 · have HM0:=ab hm0;clear hm0
   go_enter Tryz.func38,Tryz.ntmps38
   go_wp2_with fail
   refine CF.out.mono ?_;rintro e w1 ⟨x1,rfl,hx1,hs1⟩;obtain⟨ad,rfl⟩:=fK hx1 HM0.out;have HX1:=ab hx1;have HS1:=ab (aH.after B0.out hs1);clear hs1 CF p0 p1 p2 p3 hx1 hW0
   go_wp2_with fail
   go_ret2
   exact⟨_,by unfold fq;rw[if_neg HM0.out]<;>rfl,HX1.out,HS1.out⟩
end
end Go.Proofs.YtiafamacjpgjoaaGreatDoor
namespace Go.Proofs.YtiafamacjpgjoaaGreatDoor
open Go Go.RowKit Tide
def vA (a:Nat->Addr) (ep:Int) (cs:List (List Int)) (q:Int) (lo:Nat->Prop) (W:World) (v:Value) (y:Value):Prop:=
 (bA ep cs q≠0/\∃x,y= .tuple #[.agg #[.slice none 0 0,.int .i64 0,.slice none 0 0,.int .i64 0],x]/\bE a x (bA ep cs q))\/(bA ep cs q=0/\∃vc,y= .tuple #[.agg #[v,.int .i64 ep,vc,.int .i64 (q / cs.length)],.nilIface]/\aS W lo vc (az (bx cs q)))
theorem yj {a:Nat->Addr} {W:World} (hE:av W a):kO W a:=⟨hE.var 0 (by decide),hE.var 3 (by decide),World.block_lt_of_cell? _ _ (hE.var 0 (by decide)),World.block_lt_of_cell? _ _ (hE.var 3 (by decide))⟩
abbrev tC (W:World) (g:Nat) (p q r s:Value):World:=(((W.setCell ⟨g,0,none⟩ p).setCell ⟨g,1,none⟩ q).setCell ⟨g,2,none⟩ r).setCell ⟨g,3,none⟩ s
theorem bY.put {W:World} {s:Nat} {v:Value} {ep:Int} {vc:Value} {own:Int} (h:bY W s v ep vc own) (v':Value) (ep':Int) (vc':Value) (own':Int):bY (tC W s v' (.int .i64 ep') vc' (.int .i64 own')) s v' ep' vc' own':=
 heap_setCell_same _ _ _ _ _ _ (heap_setCell_same _ _ _ _ _ _ (heap_setCell_same _ _ _ _ _ _ (heap_setCell_same _ _ _ _ _ _ h)))
theorem bY.free {W:World} {s:Nat} {v:Value} {ep:Int} {vc:Value} {own:Int} (h:bY W s v ep vc own) (i:Nat):W.frozen? ⟨s,i,none⟩=false:=frozen_of_row _ _ i _ _ h
theorem oW {W0 W:World} {B g:Nat} (h:Below B W0 W) (hg:B<=g) (p q r s:Value):Below B W0 (tC W g p q r s):=
 (((h.setCell (p:=⟨g,0,none⟩) hg p).setCell (p:=⟨g,1,none⟩) hg q).setCell (p:=⟨g,2,none⟩) hg r).setCell (p:=⟨g,3,none⟩) hg s
section
variable {D:aB} {a x:Nat->Addr} {w W W':World} {lo:Nat->Prop} {m N M:Nat} {g:Nat->Nat} {H:Nat->Nat->Prop} {us us':Nat->ah} {up:Nat->Bool} {v vp:Value} {cs:List (List Int)}
theorem lZ (hD:ay (three a) D) (hE:av w a) (h:cZ D w W lo g H m us up v vp cs N) (ep q:Int):
 Calls Tryz.prog 34 #[v,cA ep vp,.int .i64 q] W λe w'=>∃y,e= .returned y/\vA a ep cs q lo w' v y/\Below W.heap.size W w':=by
 obtain⟨b0,o0,c0,rfl,_,hrow6⟩:=fD h.dx.1 (h.rows W (Kept.refl _ _));clear hrow6;obtain⟨A,c,rfl,hcl⟩:=h.bQ.form;obtain⟨W0,hW0⟩:=aa (W.alloc (.cells #[.int .i64 ep,.slice A cs.length c] 24));have B0:=ab (show Below W.heap.size W W0 from by rw[<-hW0];exact(Below.refl W.heap.size W).alloc (Nat.le_refl _) _);have P0:=ab (show aI W0 W.heap.size 24 (.int .i64 ep) (.slice A cs.length c) from by rw[<-hW0];exact aI.new W _ _ _);obtain⟨W1,hW1⟩:=aa (W0.alloc (.cells #[.slice none 0 0,.int .i64 0,.slice none 0 0,.int .i64 0] 79));have B1:=ab (show Below W0.heap.size W0 W1 from by rw[<-hW1];exact(Below.refl W0.heap.size W0).alloc (Nat.le_refl _) _);have S1:=ab (show bY W1 W0.heap.size (.slice none 0 0) 0 (.slice none 0 0) 0 from by rw[<-hW1];exact bY.new W0 _ _ _ _);have HC:=ab (h.below hD (B0.out.trans (B1.out.mono B0.out.size)));have CP:=ab (Bt a ep cs (.slice A cs.length c) q W1.heap.size W1 HC.out.bQ.bQ (Nat.le_refl _) (yj (HC.out.eR hE)));obtain⟨hpl,p0,p1,_⟩:=(P0.out.below B1.out P0.out.lt).facts;have HB1:=ab (B0.out.trans (B1.out.mono B0.out.size));have HGr:=ab (λ(W2:World) (hb:Below W1.heap.size W1 W2)=>(HC.out.below hD hb).bQ);have HP:=ab (λh=> @fh ep cs h);have HCL:=ab hcl;clear h hD hE hcl;have hcase:bA ep cs q=4/\aO ep cs=false\/bA ep cs q=1/\aO ep cs=true/\¬(0<=q/\q<=4095)\/bA ep cs q=0/\aO ep cs=true/\0<=q/\q<=4095:=by
  unfold bA;cases hr:aO ep cs with
  | false=>exact .inl ⟨by rw[if_pos rfl],rfl⟩
  | true=>
    rw[if_neg (by decide)];by_cases hq:q < 0\/4095 < q
    · exact .inr (.inl ⟨by rw[if_pos hq],rfl,by omega⟩)
    · exact .inr (.inr ⟨by rw[if_neg hq],rfl,by omega,by omega⟩)
 rcases hcase with⟨he,hr⟩|⟨he,hr,hq⟩|⟨he,hr,hq0,hq1⟩
 · have CP:=ab (CP.out.mono (R':=λe w'=>e= .returned (.tuple #[.int .i64 0,.int .i64 0,ao (a 3)])/\Below W1.heap.size W1 w') (λe w' ⟨x,h1,h2,h3⟩=>by
    rcases h2 with⟨_,rfl⟩|⟨h,_⟩|⟨h,_⟩
    · exact⟨h1,h3⟩
    · rw[hr]at h;cases h
    · rw[hr]at h;cases h))
   have HE:=ab he;clear he hr HP HCL
   go_enter Tryz.func34,Tryz.ntmps34
   go_wp2_with fail
   refine CP.out.mono ?_;rintro e w2 ⟨rfl,hb⟩;have S2:=ab (S1.out.below hb);obtain⟨s0,s1,s2,s3⟩:=S2.out.facts;have f0:=S2.out.free 0;have f1:=S2.out.free 1;have f2:=S2.out.free 2;have f3:=S2.out.free 3;have E4:=ab (S2.out.put (.slice none 0 0) 0 (.slice none 0 0) 0).facts;have HB2:=ab (HB1.out.trans (hb.mono HB1.out.size));clear hb CP p0 p1
   go_wp2_with fail
   obtain⟨e0,e1,e2,e3⟩:=E4.out;exact bodyPost_ret (v:= .tuple #[.agg #[.slice none 0 0,.int .i64 0,.slice none 0 0,.int .i64 0],ao (a 3)]) (by simp[results,Tryz.results34,go_sem,e0,e1,e2,e3]) rfl ⟨_,rfl,.inl ⟨by rw[HE.out];decide,_,rfl,by rw[HE.out];exact bL a 3 (by decide)⟩,oW HB2.out B0.out.size _ _ _ _⟩
 · have CP:=ab (CP.out.mono (R':=λe w'=>e= .returned (.tuple #[.int .i64 0,.int .i64 0,ao (a 0)])/\Below W1.heap.size W1 w') (λe w' ⟨x,h1,h2,h3⟩=>by
    rcases h2 with⟨h,_⟩|⟨_,_,rfl⟩|⟨_,h4,h5,_⟩
    · rw[hr]at h;cases h
    · exact⟨h1,h3⟩
    · exact absurd ⟨h4,h5⟩ hq))
   have HE:=ab he;clear he hr hq HP HCL
   go_enter Tryz.func34,Tryz.ntmps34
   go_wp2_with fail
   refine CP.out.mono ?_;rintro e w2 ⟨rfl,hb⟩;have S2:=ab (S1.out.below hb);obtain⟨s0,s1,s2,s3⟩:=S2.out.facts;have f0:=S2.out.free 0;have f1:=S2.out.free 1;have f2:=S2.out.free 2;have f3:=S2.out.free 3;have E4:=ab (S2.out.put (.slice none 0 0) 0 (.slice none 0 0) 0).facts;have HB2:=ab (HB1.out.trans (hb.mono HB1.out.size));clear hb CP p0 p1
   go_wp2_with fail
   obtain⟨e0,e1,e2,e3⟩:=E4.out;exact bodyPost_ret (v:= .tuple #[.agg #[.slice none 0 0,.int .i64 0,.slice none 0 0,.int .i64 0],ao (a 0)]) (by simp[results,Tryz.results34,go_sem,e0,e1,e2,e3]) rfl ⟨_,rfl,.inl ⟨by rw[HE.out];decide,_,rfl,by rw[HE.out];exact bL a 0 (by decide)⟩,oW HB2.out B0.out.size _ _ _ _⟩
 · have CP:=ab (CP.out.mono (R':=λe w'=>e= .returned (.tuple #[.int .i64 (q % cs.length),.int .i64 (q / cs.length),.nilIface])/\Below W1.heap.size W1 w') (λe w' ⟨x,h1,h2,h3⟩=>by
    rcases h2 with⟨h,_⟩|⟨_,h,_⟩|⟨_,_,_,rfl⟩
    · rw[hr]at h;cases h
    · exact absurd ⟨hq0,hq1⟩ h
    · exact⟨h1,h3⟩))
   have hn:=HP.out hr;have n1:=hn.2.2.1;have n3:=hn.2.2.2.1;obtain⟨k,hk⟩:∃k:Nat,q.toNat % cs.length=k:=⟨_,rfl⟩;have hkl:k < cs.length:=by rw[<-hk];exact Nat.mod_lt _ (by omega)
   have hkI:q % (cs.length:Int)=(k:Int):=by rw[<-hk,Int.natCast_emod];congr 1;omega
   obtain⟨b,o,u,rfl,hbB,hcu,hrow⟩:=HCL.out k hkl;obtain⟨_,Au,cu,rfl,_⟩:=cF hrow.1;have HX:=ab (show aS W lo (.slice Au cs[k].length cu) (az (bx cs q)) from by rw[mj hkl hk];exact hrow);rw[hkI]at CP;have HE:=ab he;have hbW:=ab hbB;have HCU:=ab hcu;have nk:(k:Int) < (cs.length:Int):=by omega
   clear he hr HP HCL hn hk hkI hcu hrow n1 n3
   go_enter Tryz.func34,Tryz.ntmps34
   go_wp2_with fail
   refine CP.out.mono ?_;rintro e w2 ⟨rfl,hb⟩;have S2:=ab (S1.out.below hb);obtain⟨s0,s1,s2,s3⟩:=S2.out.facts;have f0:=S2.out.free 0;have f1:=S2.out.free 1;have f2:=S2.out.free 2;have f3:=S2.out.free 3;have HB2:=ab (HB1.out.trans (hb.mono HB1.out.size));obtain⟨_,p0,p1,_⟩:=(P0.out.below (B1.out.trans (hb.mono B1.out.size)) P0.out.lt).facts;have hcu:=(HB2.out.cell (p:=⟨b,o+k,none⟩) hbW.out).trans HCU.out;clear hb CP
   go_wp2_with fail
   clear HCU;have E4:=ab (S2.out.put (.slice (some ⟨b0,o0,none⟩) m c0) ep (.slice Au cs[k].length cu) (q / cs.length)).facts;have HB3:=ab (oW HB2.out B0.out.size (.slice (some ⟨b0,o0,none⟩) m c0) (.int .i64 ep) (.slice Au cs[k].length cu) (.int .i64 (q / cs.length))).drew
   go_region_law (fail)
   all_goals go_wp2_with fail
   all_goals obtain⟨e0,e1,e2,e3⟩:=E4.out
   all_goals exact bodyPost_ret (v:= .tuple #[.agg #[.slice (some ⟨b0,o0,none⟩) m c0,.int .i64 ep,.slice Au cs[k].length cu,.int .i64 (q / cs.length)],.nilIface]) (by simp[results,Tryz.results34,go_sem,e0,e1,e2,e3]) rfl ⟨_,rfl,.inr ⟨HE.out,_,rfl,aS.below HX.out HB3.out⟩,HB3.out⟩
end
end Go.Proofs.YtiafamacjpgjoaaGreatDoor
namespace Go.Proofs.YtiafamacjpgjoaaGreatDoor
open Go Go.RowKit Tide
section
variable {D:aB} {a x:Nat->Addr} {w W W':World} {lo:Nat->Prop} {m N M:Nat} {g:Nat->Nat} {H:Nat->Nat->Prop} {us us':Nat->ah} {up:Nat->Bool} {v vp:Value} {cs:List (List Int)}
theorem xl (hD:ay (three a) D) (hE:av w a) (h:cZ D w W lo g H m us up v vp cs N) (ep at':Int) (l:List Int) (hN:N+l.length<=90000) (vc:Value) (hc:aS W lo vc (az l)) (hl:1<=l.length) (vb:Value) (b:List UInt8) (hvb:Bytes W W.heap.size vb b) (hap:∀j,vb.ownBlock=some j->¬bX m H j/\j < W.heap.size):
 Calls Tryz.prog 21 #[v,.int .i64 ep,vc,.int .i64 at',vb] W λe w'=>∃x,e= .returned x/\bE a x (a8 up ep at' b us 1 (l.drop 1)).2/\aH D w W g H m 128 (N+l.length) (a8 up ep at' b us 1 (l.drop 1)).1 w':=by
 obtain⟨b0,o0,c0,rfl,_,hrow6⟩:=fD h.dx.1 (h.rows W (Kept.refl _ _));obtain⟨_,A1,c1,rfl,hcu⟩:=cF hc.1;clear hrow6 hcu;have CF:=ab (pJ hD hE h ep at' l hN _ hc 1 hl vb b hvb hap);obtain⟨r,hr⟩:=aa (a8 up ep at' b us 1 (l.drop 1));rw[hr]at CF ⊢;clear h hc hvb hap hr hE hD
 go_enter Tryz.func21,Tryz.ntmps21
 go_wp2_with fail
 refine CF.out.mono ?_;rintro e w1 ⟨x1,rfl,hx,hs⟩;have HX:=ab hx;have HS:=ab hs;clear hs hx CF
 go_wp2_with fail
 go_ret
 exact⟨_,rfl,HX.out,HS.out⟩
theorem rh (hD:ay (three a) D) (hE:av w a) (h:cZ D w W lo g H m us up v vp cs N) (hN:N+3<=90000) (ep q:Int) (vb:Value) (b:List UInt8) (hvb:Bytes W W.heap.size vb b) (hap:∀j,vb.ownBlock=some j->¬bX m H j/\j < W.heap.size):
 Calls Tryz.prog 11 #[v,cA ep vp,.int .i64 q,vb] W λe w'=>∃x,e= .returned x/\bE a x (eh up ep cs q b us).2/\aH D w W g H m 128 (N+3) (eh up ep cs q b us).1 w':=by
 obtain⟨A,c,rfl,hcl⟩:=h.bQ.form;obtain⟨b0,o0,c0,rfl,_,hrow6⟩:=fD h.dx.1 (h.rows W (Kept.refl _ _));clear hrow6 hcl;obtain⟨W0,hW0⟩:=aa (W.alloc (.cells #[.int .i64 ep,.slice A cs.length c] 24));have B0:=ab (show Below W.heap.size W W0 from by rw[<-hW0];exact(Below.refl W.heap.size W).alloc (Nat.le_refl _) _);have P0:=ab (show aI W0 W.heap.size 24 (.int .i64 ep) (.slice A cs.length c) from by rw[<-hW0];exact aI.new W _ _ _);have HD:=ab hD;have HE:=ab hE;have HC:=ab (h.below hD B0.out);have CP:=ab (lZ hD hE HC.out ep q);have HVb:=ab hvb;have HAp:=ab hap;obtain⟨_,p0,p1,_⟩:=P0.out.facts;clear h hD hE hvb hap;by_cases he:bA ep cs q=0
 · have hx:=ab (show eh up ep cs q b us=a8 up ep (q / cs.length) b us 0 (bx cs q) from by unfold eh;rw[if_neg (by rw[he];decide)]);rw[hx.out];have hlen:=jL he;obtain⟨l,hl⟩:=aa (bx cs q);obtain⟨at',hat⟩:∃z,q / (cs.length:Int)=z:=⟨_,rfl⟩;rw[hl]at hlen;have HE0:=ab he;obtain⟨r,hr⟩:=aa (a8 up ep at' b us 0 l);have CF:=ab (λ(W1:World) (vc:Value) (hb:Below W0.heap.size W0 W1) (hc:aS W1 lo vc (az l))=>by have h1:=HC.out.below HD.out hb;have hbw:=B0.out.trans (hb.mono B0.out.size);have:=pJ HD.out HE.out h1 ep at' l (by omega) vc hc 0 (Nat.zero_le _) _ b ((HVb.out.below hbw).more hbw.size) (λj hj=>⟨(HAp.out j hj).1,Nat.lt_of_lt_of_le (HAp.out j hj).2 hbw.size⟩);rw[List.drop_zero,hr]at this;exact this);have HRow:=ab (λ(W1:World) (vc:Value) (hc:aS W1 lo vc (az (bx cs q)))=>show aS W1 lo vc (az l) from hl ▸ hc);rw[hl,hat,hr];have HAt:=ab hat;have HL:=ab hlen;clear he hlen hl hat hr hx
   go_enter Tryz.func11,Tryz.ntmps11
   go_wp2_with fail
   refine CP.out.mono ?_;rintro e w1 ⟨y,rfl,hy,hb⟩;rcases hy with⟨hne,_⟩|⟨_,vc,rfl,hrow⟩
   · exact absurd HE0.out hne
   have hrow:=HRow.out _ _ hrow;rw[HAt.out];obtain⟨_,A1,c1,rfl,_⟩:=cF hrow.1;obtain⟨W1,hW1⟩:=aa (w1.alloc (.cells #[.slice (some ⟨b0,o0,none⟩) m c0,.int .i64 ep,.slice A1 l.length c1,.int .i64 at'] 79));have B1:=ab (show Below W0.heap.size W0 W1 from by rw[<-hW1];exact hb.alloc hb.size _);have S1:=ab (show bY W1 w1.heap.size (.slice (some ⟨b0,o0,none⟩) m c0) ep (.slice A1 l.length c1) at' from by rw[<-hW1];exact bY.new w1 _ _ _ _);have C1:=ab (CF.out W1 _ B1.out (by rw[<-hW1];exact aS.below hrow ((Below.refl w1.heap.size w1).alloc (Nat.le_refl _) _)));obtain⟨s0,s1,s2,s3⟩:=S1.out.facts;clear hb hrow CF CP HRow
   go_wp2_with fail
   refine C1.out.mono ?_;rintro e w2 ⟨x2,rfl,hx2,hs⟩;have HX:=ab hx2;have HS:=ab (aH.after (B0.out.trans (B1.out.mono B0.out.size)) (hs.mono (show N+l.length<=N+3 by have:=HL.out;omega)));clear hs hx2 C1 s0 s1 s2 s3 hW1
   go_wp2_with fail
   go_ret
   exact⟨_,rfl,HX.out,HS.out⟩
 · have hx:=ab (show eh up ep cs q b us=(us,bA ep cs q) from by unfold eh;rw[if_pos he]);rw[hx.out];have HE0:=ab he;clear he hx
   go_enter Tryz.func11,Tryz.ntmps11
   go_wp2_with fail
   refine CP.out.mono ?_;rintro e w1 ⟨y,rfl,hy,hb⟩;rcases hy with⟨_,x1,rfl,hx1⟩|⟨hne,_⟩
   · obtain⟨ad,rfl⟩:=fK hx1 HE0.out;have HX:=ab hx1;have HS:=ab (λ(W2:World) (hb2:Below w1.heap.size w1 W2)=>(aH.after B0.out ((aH.refl HD.out HC.out.aX (hb.trans (hb2.mono hb.size))).mono (show N<=N+3 by omega))));clear hb hx1 CP
     go_wp2_with fail
     go_ret
     exact⟨_,rfl,HX.out,HS.out _ ((Below.refl _ _).alloc (Nat.le_refl _) _)⟩
   · exact absurd hne HE0.out
theorem xu (hD:ay (three a) D) (hE:av w a) (h:cZ D w W lo g H m us up v vp cs N) (hN:N+3<=90000) (ep q k:Int) (vb:Value) (b:List UInt8) (hvb:Bytes W W.heap.size vb b) (hap:∀j,vb.ownBlock=some j->¬bX m H j/\j < W.heap.size):
 Calls Tryz.prog 19 #[v,cA ep vp,.int .i64 q,.int .i64 k,vb] W λe w'=>∃x,e= .returned x/\bE a x (eJ up ep cs q k b us).2/\aH D w W g H m 128 (N+3) (eJ up ep cs q k b us).1 w':=by
 obtain⟨A,c,rfl,hcl⟩:=h.bQ.form;obtain⟨b0,o0,c0,rfl,_,hrow6⟩:=fD h.dx.1 (h.rows W (Kept.refl _ _));clear hrow6 hcl;obtain⟨W0,hW0⟩:=aa (W.alloc (.cells #[.int .i64 ep,.slice A cs.length c] 24));have B0:=ab (show Below W.heap.size W W0 from by rw[<-hW0];exact(Below.refl W.heap.size W).alloc (Nat.le_refl _) _);have P0:=ab (show aI W0 W.heap.size 24 (.int .i64 ep) (.slice A cs.length c) from by rw[<-hW0];exact aI.new W _ _ _);have HD:=ab hD;have HE:=ab hE;have HC:=ab (h.below hD B0.out);have CP:=ab (lZ hD hE HC.out ep q);have HVb:=ab hvb;have HAp:=ab hap;obtain⟨_,p0,p1,_⟩:=P0.out.facts;clear h hD hE hvb hap;by_cases he:bA ep cs q=0
 · have hlen:=jL he;obtain⟨l,hl⟩:=aa (bx cs q);obtain⟨at',hat⟩:∃z,q / (cs.length:Int)=z:=⟨_,rfl⟩;have hx0:eJ up ep cs q k b us=if k < 0\/(l.length:Int)<=k then(us,1) else bg up ep at' b us (l.getD k.toNat 0) (k.toNat == 0):=by unfold eJ;rw[if_neg (by rw[he];decide),hl,hat]
   rw[hl]at hlen;have HE0:=ab he;have HRow:=ab (λ(W1:World) (vc:Value) (hc:aS W1 lo vc (az (bx cs q)))=>show aS W1 lo vc (az l) from hl ▸ hc);have HAt:=ab hat;have HL:=ab hlen;have HS0:=ab (λ(W1:World) (hb:Below W0.heap.size W0 W1)=>show aH D w W g H m 128 (N+3) us W1 from aH.after B0.out ((aH.refl HD.out HC.out.aX hb).mono (show N<=N+3 by omega)));have HE2:=ab (λ(W1:World) (hb:Below W0.heap.size W0 W1)=>(HC.out.below HD.out hb).eR HE.out);by_cases hk:0<=k/\k < (l.length:Int)
   · obtain⟨j,rfl⟩:∃j:Nat,k=(j:Int):=⟨k.toNat,by omega⟩;have hj:j < l.length:=by omega
     rw[if_neg (by omega),Int.toNat_natCast,List.getD_eq_getElem?_getD,List.getElem?_eq_getElem hj]at hx0;obtain⟨r,hr⟩:=aa (bg up ep at' b us l[j] (j == 0));have hx1:eJ up ep cs q (j:Int) b us=r:=hx0.trans hr;have CF:=ab (λ(W1:World) (vc:Value) (hb:Below W0.heap.size W0 W1) (hc:aS W1 lo vc (az l))=>by have h1:=HC.out.below HD.out hb;have hbw:=B0.out.trans (hb.mono B0.out.size);have:=pM HD.out HE.out (by omega) h1 ep at' l vc hc j hj _ b ((HVb.out.below hbw).more hbw.size) (λj hj=>(HAp.out j hj).1);rw[hr]at this;exact this);rw[hx1];have i0:(0:Int)<=(j:Int):=by omega
     have i1:(j:Int) < (l.length:Int):=hk.2;have i2:(j:Int)<=2:=by omega
     clear he hlen hl hat hr hx0 hx1 hk HE2
     go_enter Tryz.func19,Tryz.ntmps19
     go_wp2_with fail
     refine CP.out.mono ?_;rintro e w1 ⟨y,rfl,hy,hb⟩;rcases hy with⟨hne,_⟩|⟨_,vc,rfl,hrow⟩
     · exact absurd HE0.out hne
     have hrow:=HRow.out _ _ hrow;rw[HAt.out];obtain⟨_,A1,c1,rfl,_⟩:=cF hrow.1;obtain⟨W1,hW1⟩:=aa (w1.alloc (.cells #[.slice (some ⟨b0,o0,none⟩) m c0,.int .i64 ep,.slice A1 l.length c1,.int .i64 at'] 79));have B1:=ab (show Below W0.heap.size W0 W1 from by rw[<-hW1];exact hb.alloc hb.size _);have S1:=ab (show bY W1 w1.heap.size (.slice (some ⟨b0,o0,none⟩) m c0) ep (.slice A1 l.length c1) at' from by rw[<-hW1];exact bY.new w1 _ _ _ _);have C1:=ab (CF.out W1 _ B1.out (by rw[<-hW1];exact aS.below hrow ((Below.refl w1.heap.size w1).alloc (Nat.le_refl _) _)));obtain⟨s0,s1,s2,s3⟩:=S1.out.facts;clear hb hrow CF CP HRow
     go_wp2_with fail
     refine C1.out.mono ?_;rintro e w2 ⟨x2,rfl,hx2,hs⟩;have HX:=ab hx2;have HS:=ab (aH.after (B0.out.trans (B1.out.mono B0.out.size)) (hs.mono (show N+1<=N+3 by omega)));clear hs hx2 C1 s0 s1 s2 s3 hW1
     go_wp2_with fail
     go_ret
     exact⟨_,rfl,HX.out,HS.out⟩
   · rw[if_pos (by omega)]at hx0;rw[hx0];clear he hlen hl hat hx0;cases i0:decide (k < 0) with
     | true=>
       clear hk
       go_enter Tryz.func19,Tryz.ntmps19
       go_wp2_with fail
       refine CP.out.mono ?_;rintro e w1 ⟨y,rfl,hy,hb⟩;rcases hy with⟨hne,_⟩|⟨_,vc,rfl,hrow⟩
       · exact absurd HE0.out hne
       have hrow:=HRow.out _ _ hrow;rw[HAt.out];obtain⟨_,A1,c1,rfl,_⟩:=cF hrow.1;obtain⟨W1,hW1⟩:=aa (w1.alloc (.cells #[.slice (some ⟨b0,o0,none⟩) m c0,.int .i64 ep,.slice A1 l.length c1,.int .i64 at'] 79));have B1:=ab (show Below W0.heap.size W0 W1 from by rw[<-hW1];exact hb.alloc hb.size _);have e0:W1.cell? ⟨2,0,none⟩=some (ao (a 0)):=(HE2.out W1 B1.out).var 0 (by decide);clear hb hrow CP HRow
       go_wp2_with fail
       go_ret
       exact⟨_,rfl,bL a 0 (by decide),HS0.out _ B1.out⟩
     | false=>
       have i1:(l.length:Int)<=k:=by simp at i0;omega
       clear hk
       go_enter Tryz.func19,Tryz.ntmps19
       go_wp2_with fail
       refine CP.out.mono ?_;rintro e w1 ⟨y,rfl,hy,hb⟩;rcases hy with⟨hne,_⟩|⟨_,vc,rfl,hrow⟩
       · exact absurd HE0.out hne
       have hrow:=HRow.out _ _ hrow;rw[HAt.out];obtain⟨_,A1,c1,rfl,_⟩:=cF hrow.1;obtain⟨W1,hW1⟩:=aa (w1.alloc (.cells #[.slice (some ⟨b0,o0,none⟩) m c0,.int .i64 ep,.slice A1 l.length c1,.int .i64 at'] 79));have B1:=ab (show Below W0.heap.size W0 W1 from by rw[<-hW1];exact hb.alloc hb.size _);have S1:=ab (show bY W1 w1.heap.size (.slice (some ⟨b0,o0,none⟩) m c0) ep (.slice A1 l.length c1) at' from by rw[<-hW1];exact bY.new w1 _ _ _ _);obtain⟨s0,s1,s2,s3⟩:=S1.out.facts;have e0:W1.cell? ⟨2,0,none⟩=some (ao (a 0)):=(HE2.out W1 B1.out).var 0 (by decide);clear hb hrow CP HRow
       go_wp2_with fail
       go_ret
       exact⟨_,rfl,bL a 0 (by decide),HS0.out _ B1.out⟩
 · have hx:=ab (show eJ up ep cs q k b us=(us,bA ep cs q) from by unfold eJ;rw[if_pos he]);rw[hx.out];have HE0:=ab he;clear he hx
   go_enter Tryz.func19,Tryz.ntmps19
   go_wp2_with fail
   refine CP.out.mono ?_;rintro e w1 ⟨y,rfl,hy,hb⟩;rcases hy with⟨_,x1,rfl,hx1⟩|⟨hne,_⟩
   · obtain⟨ad,rfl⟩:=fK hx1 HE0.out;have HX:=ab hx1;have HS:=ab (λ(W2:World) (hb2:Below w1.heap.size w1 W2)=>(aH.after B0.out ((aH.refl HD.out HC.out.aX (hb.trans (hb2.mono hb.size))).mono (show N<=N+3 by omega))));clear hb hx1 CP
     go_wp2_with fail
     go_ret
     exact⟨_,rfl,HX.out,HS.out _ ((Below.refl _ _).alloc (Nat.le_refl _) _)⟩
   · exact absurd hne HE0.out
end
end Go.Proofs.YtiafamacjpgjoaaGreatDoor
