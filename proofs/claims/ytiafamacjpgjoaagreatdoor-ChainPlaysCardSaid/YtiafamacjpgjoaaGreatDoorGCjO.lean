import Derived.Test.YtiafamacjpgjoaaGreatDoorGCjB
import Derived.Test.YtiafamacjpgjoaaGreatDoorGChF
import Derived.Test.YtiafamacjpgjoaaGreatDoorGChE
import Derived.Test.YtiafamacjpgjoaaGreatDoorGCjD
import Derived.Test.YtiafamacjpgjoaaGreatDoorGCjE
import Derived.Test.YtiafamacjpgjoaaGreatDoorGCiS
import Derived.Test.YtiafamacjpgjoaaGreatDoorGKeep
import Derived.Test.YtiafamacjpgjoaaGreatDoorGMem
import Derived.WalkKit
import Derived.Deep.Matrix
set_option maxRecDepth 100000
set_option maxHeartbeats 4000000
namespace Go.Proofs.YtiafamacjpgjoaaGreatDoor
open Go Go.ChangeShapes Go.WideShapes Go.ChangeAt Go.RowKit Go.Deep Tide
def lK (w:World) (B:Nat) (v:Value) (ks:List cD):Prop:=qv w B v 4 (ks.map λk=>k.cells.toList)
theorem lK.form {w:World} {B:Nat} {v:Value} {ks:List cD} (h:lK w B v ks):∃A c,v= .slice A ks.length c/\ks.length<=9223372036854775807/\∀i (hi:i < ks.length),∃b o,A=some ⟨b,o,none⟩/\b < B/\
 w.cell? ⟨b,o+i * 4,none⟩=some (.int .i64 ks[i].kind)/\w.cell? ⟨b,o+i * 4+1,none⟩=some (.int .i64 ks[i].a)/\w.cell? ⟨b,o+i * 4+2,none⟩=some (.int .i64 ks[i].k)/\w.cell? ⟨b,o+i * 4+3,none⟩=some (.string ⟨ks[i].text.toArray⟩):=by
 obtain⟨hn,A,c,rfl,hc⟩:=h;refine⟨A,c,by rw[List.length_map],by simpa using hn,λi hi=> ?_⟩;obtain⟨b,o,rfl,hb,hcell⟩:=hc (by
  intro e;have h9:(ks.map λk=>k.cells.toList).length=0:=by rw[e];rfl
  rw[List.length_map]at h9;omega)
 have he:(ks.map λk=>k.cells.toList)[i]? =some (ks[i]).cells.toList:=by simp[hi]
 have e:∀j,o+i * 4+j=o+(i * 4+j):=λj=>Nat.add_assoc _ _ _;exact⟨b,o,rfl,hb,hcell i 0 _ _ he rfl,by rw[e];exact hcell i 1 _ _ he rfl,by rw[e];exact hcell i 2 _ _ he rfl,by rw[e];exact hcell i 3 _ _ he rfl⟩
theorem tn {α β:Type} {f:α->β}:∀es:List β,(∀x ∈ es,∃d,x=f d)->∃ds:List α,es=ds.map f
 | [],_=>⟨[],rfl⟩
 | x :: es,h=>by obtain⟨d,hd⟩:=h x (by simp);obtain⟨ds,hl⟩:=tn es (λy hy=>h y (by simp[hy]));exact⟨d :: ds,by rw[hd,hl];rfl⟩
theorem yC {x:List Value} {a b c d:Value} (hl:x.length=4) (h0:x[0]? =some a) (h1:x[1]? =some b) (h2:x[2]? =some c) (h3:x[3]? =some d):x= [a,b,c,d]:=by
 match x,hl with
 | [p,q,r,s],_=>simp at h0 h1 h2 h3;subst h0 h1 h2 h3;rfl
section
variable {H:Type} {enc:TypeId × Value->H} {P:Program} {W:World}
theorem AN {t e:TypeId} {f0 f1 f2 f3:Field} {v:Value} {d:DataW H} {p:List MemPlace} (ht:P.underlying t=some (.slice e)) (he:P.underlying e=some (.struct #[f0,f1,f2,f3])) (hone:oneCellFields P #[f0,f1,f2,f3]=true) (hC:P.cellsOf e=4)
 (k0:P.underlying f0.type=some (.int .i64)) (k1:P.underlying f1.type=some (.int .i64)) (k2:P.underlying f2.type=some (.int .i64)) (k3:P.underlying f3.type=some .string)
 {base:Nat} (hok:Value.okWide P W .any base t v) (h:DataW.Trod enc P W 0 (λ_=>true) true t v d p):∃ks,lK W W.heap.size v ks:=by
 obtain⟨es,hr,hx⟩:=AT ht he hone hC (by simp) hok h;obtain⟨ks,hks⟩:=tn (f:=λk:cD=>k.cells.toList) es (λx hxm=>by obtain⟨hlen,hf⟩:=hx x hxm;obtain⟨u0,n0,y0,g0,t0⟩:=hf 0 f0 rfl;obtain⟨u1,n1,y1,g1,t1⟩:=hf 1 f1 rfl;obtain⟨u2,n2,y2,g2,t2⟩:=hf 2 f2 rfl;obtain⟨u3,n3,y3,g3,t3⟩:=hf 3 f3 rfl;obtain⟨z0,rfl,_,_⟩:=mz k0 t0;obtain⟨z1,rfl,_,_⟩:=mz k1 t1;obtain⟨z2,rfl,_,_⟩:=mz k2 t2;obtain⟨s,rfl⟩:=AU k3 t3;exact⟨⟨z0,z1,z2,s.data.toList⟩,yC hlen g0 g1 g2 (by rw[g3])⟩);subst hks;exact⟨ks,hr⟩
end
end Go.Proofs.YtiafamacjpgjoaaGreatDoor
namespace Go.Proofs.YtiafamacjpgjoaaGreatDoor
open Go Go.RowKit Tide
theorem xG {D:aB} {a:Nat->Addr} {w W:World} {K:dg} {F H:Nat->Nat->Prop} {us:Nat->ah} {up:Nat->Bool} {N:Nat} (hD:ay (three a) D) (hE:av w a) (h:aP D w W K F H us us up N) (hN:N+20<=80000) (x:cD) (hx:x.text.length<=300):
 Calls Tryz.prog 8 #[.pointer (some ⟨K.X,0,none⟩),.agg x.cells] W (gE D w K (N+20)):=by
 by_cases h0:x.kind=0
 · exact xL hD hE h hN x hx h0
 by_cases h1:x.kind=1
 · exact xP hD hE h hN x hx h1
 by_cases h2:x.kind=2
 · exact xJ hD hE h hN x h2
 by_cases h3:x.kind=3
 · exact xI hD hE h hN x h3
 by_cases h4:x.kind=4
 · exact xN hD hE h hN x h4
 by_cases h5:x.kind=5
 · exact xM hD hE h hN x h5
 by_cases h6:x.kind=6
 · exact xK hD hE h hN x h6
 by_cases h7:x.kind=7
 · exact xH hD hE h hN x h7
 · exact xO hD hE h hN x (λj j0 j7 e=>by omega)
end Go.Proofs.YtiafamacjpgjoaaGreatDoor
namespace Go.Proofs.YtiafamacjpgjoaaGreatDoor
open Go Go.RowKit Tide
theorem wR {D:aB} {a:Nat->Addr} {W:World} (hD:ay (three a) D) (hE:av W a) (ep:Int) (cs:List (List Int)) (ks:List cD) (vp vk:Value) (hg:b7 W W.heap.size vp cs) (hk:lK W W.heap.size vk ks):
 Calls Tryz.prog 3 #[cA ep vp,vk] W λe w'=>e= .returned (.bool true)/\Below W.heap.size W w':=by
 have HD:=ab hD;have HE:=ab hE;have HG:=ab hg;obtain⟨Ak,ck,rfl,hkl,hkc⟩:=hk.form;obtain⟨_,A,c,rfl,_⟩:=hg.form;have HKc:=ab hkc;obtain⟨W0,hW0⟩:=aa (W.alloc (.cells #[.int .i64 ep,.slice A cs.length c] 24));have B0:=ab (show Below W.heap.size W W0 from by rw[<-hW0];exact(Below.refl W.heap.size W).alloc (Nat.le_refl _) _);have P0:=ab (show aI W0 W.heap.size 24 (.int .i64 ep) (.slice A cs.length c) from by rw[<-hW0];exact aI.new W _ _ _);have CA:=ab (vU hD hE B0.out);obtain⟨n,hn⟩:=aa ks.length;have HN:=ab hn;rw[hn]at hkl ⊢;clear hD hE hg hk hkc hn
 go_enter Tryz.func3,Tryz.ntmps3
 go_wp2_with fail
 refine CA.out.mono ?_;rintro en w1 ⟨rfl,hb⟩;have HB1:=ab (B0.out.trans (hb.mono B0.out.size));have P1:=ab (P0.out.below hb P0.out.lt);obtain⟨_,p0,p1,_⟩:=P1.out.facts;have CL:=ab (zO ep cs (.slice A cs.length c) W.heap.size w1 (HG.out.below HB1.out) HB1.out.size);clear hb CA hW0;cases hl:ig cs with
 | true=>
   rw[hl]at CL;clear hl
   go_wp2_with fail
   refine CL.out.mono ?_;rintro en w2 ⟨rfl,hb⟩;have HB2:=ab (HB1.out.trans (hb.mono HB1.out.size));clear hb CL p0 p1
   go_wp2_with fail
   go_ret
   exact⟨rfl,HB2.out⟩
 | false=>
   rw[hl]at CL;have HL:=ab hl;clear hl;cases q60:decide ((60:Int) < (n:Int)) with
   | true=>
     go_wp2_with fail
     refine CL.out.mono ?_;rintro en w2 ⟨rfl,hb⟩;have HB2:=ab (HB1.out.trans (hb.mono HB1.out.size));clear hb CL p0 p1
     go_wp2_with fail
     go_ret
     exact⟨rfl,HB2.out⟩
   | false=>
     have hn60:n<=60:=by simp at q60;omega
     have HN60:=ab hn60;clear hn60
     go_wp2_with fail
     refine CL.out.mono ?_;rintro en w2 ⟨rfl,hb⟩;have HB2:=ab (HB1.out.trans (hb.mono HB1.out.size));have P2:=ab (P1.out.below hb P1.out.lt);have CB:=ab (wo HD.out HE.out HB2.out ep cs (.slice A cs.length c) W.heap.size (HG.out.below HB2.out) HB2.out.size HL.out);clear hb CL p0 p1;obtain⟨_,p0,p1,_⟩:=P2.out.facts
     go_wp2_with fail
     refine CB.out.mono ?_;rintro en w3 ⟨K,F,H,rfl,e1,e2,e3,hP,hb3⟩;have HP:=ab hP;obtain⟨c0,_⟩:=hP.facts;have HST:=ab (show ∃us up F H,aP D W w3 K F H us us up (20 * 0) from⟨_,_,F,H,hP⟩);clear e1 e2 e3 hP hb3 CB p0 p1
     go_wp2_with fail
     clear c0
     go_loopw [27] (λi wr=>∃k:Nat,i= .int .i64 k/\k<=n/\Hid (∃us up F H,aP D W wr K F H us us up (20 * k))) (λi _=>n - (intOf i).toNat)
     case atStart=>exact⟨0,rfl,Nat.zero_le _,HST⟩
     case round=>
      obtain⟨k,rfl,hkn,hS⟩:=hrel;by_cases hlt:k < n
      · obtain⟨us,up,F',H',hP⟩:=hS.out;obtain⟨b,o,rfl,hbW,h0,h1,h2,h3⟩:=HKc.out k (by rw[HN.out];exact hlt);have HBr:=ab hP.aX.since;have g0:=(HBr.out.cell (p:=⟨b,o+k * 4,none⟩) hbW).trans h0;have g1:=(HBr.out.cell (p:=⟨b,o+k * 4+1,none⟩) hbW).trans h1;have g2:=(HBr.out.cell (p:=⟨b,o+k * 4+2,none⟩) hbW).trans h2;have g3:=(HBr.out.cell (p:=⟨b,o+k * 4+3,none⟩) hbW).trans h3;clear h0 h1 h2 h3;generalize ks[k]'(by rw[HN.out];exact hlt)=x at g0 g1 g2 g3;obtain⟨kind,ea,ek,tx⟩:=x;dsimp only at g0 g1 g2 g3;obtain⟨W5,hW5⟩:=aa (wr.alloc (.cells (cD.cells ⟨kind,ea,ek,tx⟩) 38));have b5:Below wr.heap.size wr W5:=by rw[<-hW5];exact(Below.refl wr.heap.size wr).alloc (Nat.le_refl _) _
        have x5:W5.heap[wr.heap.size]? =some (.cells (cD.cells ⟨kind,ea,ek,tx⟩) 38 (0,0)):=by rw[<-hW5];exact heap_alloc_new wr _
        have HP5:=ab (hP.below HD.out b5);have HB5:=ab (HBr.out.trans (b5.mono HBr.out.size));obtain⟨d0,d1,d2,d3⟩:=j5 x5;dsimp only at d0 d1 d2 d3;have i1:(k:Int) < (n:Int):=by omega
        obtain⟨L,hL⟩:=aa tx.length;have hsz:(⟨tx.toArray⟩:ByteArray).size=L:=by show tx.toArray.size=L;simp[hL]
        have HLt:=ab hL;clear hP b5 x5 hL hbW hS;cases q3:decide ((300:Int) < (L:Int)) with
        | true=>
          go_wp2_with fail
          go_ret
          exact⟨rfl,HB5.out⟩
        | false=>
          have hx:tx.length<=300:=by rw[HLt.out];simp at q3;omega
          have CD:=ab (xG HD.out HE.out HP5.out (by have:=HN60.out;omega) ⟨kind,ea,ek,tx⟩ hx);clear hx
          go_wp2_with fail
          refine CD.out.mono ?_;rintro en w6 ⟨rfl,us6,up6,F6,H6,hP6⟩;have HS6:=ab (show ∃us up F H,aP D W w6 K F H us us up (20 * (k+1)) from⟨us6,up6,F6,H6,by rw[Nat.mul_add,Nat.mul_one];exact hP6⟩);clear hP6 CD d0 d1 d2 d3 g0 g1 g2 g3 hW5
          go_wp2_with fail
          go_roundw
          case rel=>exact⟨k+1,by go_num,by omega,HS6⟩
          case measure=>simp[intOf];omega
      · have hke:k=n:=by omega
        obtain⟨us,up,F',H',hP⟩:=hS.out;have HBr:=ab hP.aX.since;have i1:(n:Int)<=(k:Int):=by omega
        clear hP hS
        go_wp2_with fail
        go_ret
        exact⟨rfl,HBr.out⟩
end Go.Proofs.YtiafamacjpgjoaaGreatDoor
