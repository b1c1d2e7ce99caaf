import Derived.Test.YtiafamacjpgjoaaGreatDoorGCiS
import Derived.Test.YtiafamacjpgjoaaGreatDoorGCiT
import Derived.Test.YtiafamacjpgjoaaGreatDoorGSgT
import Derived.Lib.SlBytesConst
set_option maxRecDepth 100000
set_option maxHeartbeats 4000000
namespace Go.Proofs.YtiafamacjpgjoaaGreatDoor
open Go Go.RowKit Go.Shelf Tide
theorem kz {W:World} {base base':Nat} {T:TypeId} {s n:Nat} {v:Value} {xs:List Value} (h:W.ownsRow base T s v n xs) (hb:base'<=base):W.ownsRow base' T s v n xs:=by
 refine⟨h.1,?_⟩;rcases h.2 with h0|⟨g,cap,cur,e,hg,h2⟩
 · exact .inl h0
 · exact .inr ⟨g,cap,cur,e,Nat.le_trans hb hg,h2⟩
theorem jJ {W:World} {base:Nat} {T:TypeId} {v:Value} {n:Nat} {xs:List Value} (h:W.ownsRow base T 1 v n xs) (hn:0 < n):∃g c,v= .slice (some ⟨g,0,none⟩) n c/\base<=g/\g < W.heap.size:=by
 have hl:=h.1;rcases h.2 with⟨_,e⟩|⟨g,cap,cur,e,hg,h2,_⟩
 · rw[e]at hl;simp at hl;omega
 · refine⟨g,cap,e,hg,?_⟩;rcases Nat.lt_or_ge g W.heap.size with hlt|hge
   · exact hlt
   · rw[Array.getElem?_eq_none hge]at h2;cases h2
theorem mK {gs:List Nat} (h:gs.length=6):cP gs=fj 6 gH (λi=>gs.getD i 0):=by
 show gs.map (λg=>Value.pointer (some ⟨g,0,none⟩))=(List.range 6).map (cj gH (λi=>gs.getD i 0));refine List.ext_getElem (by simp[h]) λi h1 h2=> ?_;have hi:i < gs.length:=by simpa using h1
 simp only[List.getElem_map,List.getElem_range];unfold cj gH;rw[if_pos rfl];show _=Value.pointer (some ⟨gs.getD i 0,0,none⟩);rw[List.getD_eq_getElem?_getD,List.getElem?_eq_getElem hi];rfl
section
variable {D:aB} {x:Nat->Addr} {w W0 W5 W6 Z Y:World} {gs qs:List Nat} {F H:Nat->Nat->Prop} {v u va vo vp vr:Value} {X lo:Nat} {ep:Int} {cs:List (List Int)}
def dV (W:World) (X:Nat) (v va u vo:Value) (ep:Int) (vp vr:Value):Prop:=W.heap[X]? =some (.cells #[v,va,u,vo,.int .i64 ep,vp,.int .i64 ep,vr] 36 (0,0))
theorem dV.Dw (h:dV W6 X v va u vo ep vp vr) (y:Value):dV (W6.setCell ⟨X,0,none⟩ y) X y va u vo ep vp vr:=heap_setCell_same _ _ _ _ _ _ h
theorem dV.pE (h:dV W6 X v va u vo ep vp vr) (y:Value):dV (W6.setCell ⟨X,1,none⟩ y) X v y u vo ep vp vr:=heap_setCell_same _ _ _ _ _ _ h
theorem dV.pF (h:dV W6 X v va u vo ep vp vr) (y:Value):dV (W6.setCell ⟨X,2,none⟩ y) X v va y vo ep vp vr:=heap_setCell_same _ _ _ _ _ _ h
theorem dV.pG (h:dV W6 X v va u vo ep vp vr) (y:Value):dV (W6.setCell ⟨X,3,none⟩ y) X v va u y ep vp vr:=heap_setCell_same _ _ _ _ _ _ h
theorem dV.facts (h:dV W6 X v va u vo ep vp vr):W6.cell? ⟨X,0,none⟩=some v/\W6.cell? ⟨X,1,none⟩=some va/\W6.cell? ⟨X,2,none⟩=some u/\W6.cell? ⟨X,3,none⟩=some vo/\∀i,W6.frozen? ⟨X,i,none⟩=false:=
 ⟨cell_of_row _ _ 0 _ _ _ h,cell_of_row _ _ 1 _ _ _ h,cell_of_row _ _ 2 _ _ _ h,cell_of_row _ _ 3 _ _ _ h,λi=>frozen_of_row _ _ i _ _ h⟩
theorem Bu (hD:ay x D) (hN:iD D w W0 W5 gs qs F H v u) (h6:gs.length=6) (hw:w.heap.size<=lo) (hX:lo<=X/\X < W0.heap.size) (hgp:b7 W5 lo vp cs) (hgr:b7 W5 lo vr cs)
 (hk:Kept (λk=>k=X) W5 Y) (hc:dV Y X v va u vo ep vp vr) (ha:Y.ownsRow W5.heap.size 70 1 va 6 (cP gs)) (ho:Y.ownsRow W5.heap.size 72 1 vo 6 (cP qs)):
 ∃K F' H' us up,K.X=X/\K.lo=lo/\K.ep=ep/\K.cs=cs/\K.vp=vp/\K.vr=vr/\K.vu=v/\us=(λ_=>bI)/\up=gH/\aP D w Y K F' H' us us up 0:=by
 have hz:=hk.size;have hb0:=hN.be;have hq6:qs.length=6:=by rw[hN.len];exact h6
 have hvo:W5.ownsRow W0.heap.size 70 1 v 6 (cP gs):=by have:=hN.iW;unfold dL at this;rwa[h6]at this
 have huo:W5.ownsRow W0.heap.size 72 1 u 6 (cP qs):=by have:=hN.iT;unfold dK at this;rwa[hq6]at this
 obtain⟨bu,cu,rfl,hbu,hbu2⟩:=jJ hvo (by decide);obtain⟨bw,cw,rfl,hbw,hbw2⟩:=jJ huo (by decide);obtain⟨ba,ca,rfl,hba,hba2⟩:=jJ ha (by decide);obtain⟨bo,co,rfl,hbo,hbo2⟩:=jJ ho (by decide);have hvap:=hN.iB bu rfl;have huap:=hN.kK bw rfl;have hne:bu≠bw:=λe=>hvap.1 (by rw[e];rfl);have hFl:∀k,bX 6 F k->W0.heap.size<=k/\k < W5.heap.size:=λk ⟨i,hi,e⟩=>⟨hN.lo i (by omega) k (.inl e),((hN.un i (by omega)).2 k e).2⟩
 have hHl:∀k,a9 H k->W0.heap.size<=k/\k < W5.heap.size:=λk ⟨i,hi,e⟩=>⟨hN.lo i (by omega) k (.inr e),(hN.re i (by omega)).2 k e⟩
 have hun5:eb D w W5 (λi=>gs.getD i 0) F 6 128 0 (λ_=>bI):=
  ⟨λi hi=>by have:=hN.un i (by omega);rw[List.getD_eq_getElem?_getD,List.getElem?_eq_getElem (show i < gs.length by omega)];exact this,λi j hi hj hn=>hN.kU i j (by omega) (by omega) hn,(hN.un 0 (by omega)).since⟩
 have hre5:Refs W5 (λi=>qs.getD i 0) H (λ_=>bI):=
  ⟨λi hi=>by have:=hN.re i (by omega);rw[List.getD_eq_getElem?_getD,List.getElem?_eq_getElem (show i < qs.length by omega)];exact this,λi j hi hj hn=>hN.lU i j (by omega) (by omega) hn⟩
 have hXF:∀k,k=X->¬bX 6 F k/\¬a9 H k:=λk e=>by subst e;exact⟨λh=>by have:=(hFl _ h).1;omega,λh=>by have:=(hHl _ h).1;omega⟩
 refine⟨⟨lo,X,bu,ba,bw,bo,cu,ca,cw,co,λi=>gs.getD i 0,λi=>qs.getD i 0,vp,vr,ep,cs⟩,F,H,_,_,rfl,rfl,rfl,rfl,rfl,rfl,rfl,rfl,rfl,{ cells:=hc,aX:=hun5.kept hD hk (λk e=>⟨(hXF k e).1,by subst e;show w.heap.size<=k;omega⟩),refs:=hre5.kept hk (λk e e2=>(hXF k e2).2 e),apart:=λk ⟨i,hi,e⟩ ⟨j,hj,e2⟩=>hN.lV i j (by omega) (by omega) k e e2,ru:= ?_,ra:= ?_,rw:= ?_,ro:= ?_,ne:= ?_,free:=λk e=> ?_,bK:=λk e=> ?_,low:= ?_,gp:=hgp.aj (jl hk (λk e=>by subst e;exact hX.1) (by have:=hb0.size;omega)),gr:=hgr.aj (jl hk (λk e=>by subst e;exact hX.1) (by have:=hb0.size;omega)) }⟩
 · rw[<-mK h6];exact kz (gR hvo hk (λe=>by have e:bu=X:=e;omega)) (by show lo<=W0.heap.size;omega)
 · rw[<-mK h6];exact kz ha (by show lo<=W5.heap.size;have:=hb0.size;omega)
 · rw[show fC gH (λi=>qs.getD i 0)=fj 6 gH (λi=>qs.getD i 0) from rfl,<-mK hq6];exact kz (gR huo hk (λe=>by have e:bw=X:=e;omega)) (by show lo<=W0.heap.size;omega)
 · rw[show fC gH (λi=>qs.getD i 0)=fj 6 gH (λi=>qs.getD i 0) from rfl,<-mK hq6];exact kz ho (by show lo<=W5.heap.size;have:=hb0.size;omega)
 · have:=hb0.size;exact⟨by show bu≠ba;omega,hne,by show bu≠bo;omega,by show ba≠bw;omega,by show bw≠bo;omega,by show X≠bu;omega,by show X≠ba;omega,by show X≠bw;omega,by show X≠bo;omega⟩
 · have hs:=hb0.size;have e:k=X\/k=bu\/k=ba\/k=bw\/k=bo:=e;rcases e with rfl|rfl|rfl|rfl|rfl
   · exact⟨(hXF _ rfl).1,(hXF _ rfl).2,by omega⟩
   · exact⟨λ⟨i,hi,e⟩=>(hvap.2 i (by omega)).1 e,λ⟨i,hi,e⟩=>(hvap.2 i (by omega)).2 e,by omega⟩
   · exact⟨λh=>by have:=(hFl _ h).2;omega,λh=>by have:=(hHl _ h).2;omega,by omega⟩
   · exact⟨λ⟨i,hi,e⟩=>(huap i (by omega)).1 e,λ⟨i,hi,e⟩=>(huap i (by omega)).2 e,by omega⟩
   · exact⟨λh=>by have:=(hFl _ h).2;omega,λh=>by have:=(hHl _ h).2;omega,by omega⟩
 · show lo<=k;rcases e with e|e
   · have:=(hFl k e).1;omega
   · have:=(hHl k e).1;omega
 · show w.heap.size<=lo/\lo<=Y.heap.size;have:=hb0.size;omega
end
end Go.Proofs.YtiafamacjpgjoaaGreatDoor
namespace Go.Proofs.YtiafamacjpgjoaaGreatDoor
open Go Go.RowKit Go.Shelf Tide
def fm:Nat->Bool:=λi=>decide (i < 2)
theorem Ew:lR 2 fm:=⟨by decide,by decide,λi h _=>by unfold fm;exact decide_eq_false (by omega)⟩
theorem vV (b:List UInt8) (h1:1<=b.length) (h2:b.length<=100):(aZ ⟨2, []⟩ b).2.2=0:=by unfold aZ;rw[if_neg (by omega)];have hf:dN (aC.mk 2 []).ae b.length=false:=rfl;rw[hf];have ht:de ⟨2, []⟩=some ⟨2, [⟨0,0,0, []⟩]⟩:=rfl;rw[if_neg (by decide),ht]
theorem rE (b:UInt8):(ax ⟨1,0,0, [b]⟩).length=4:=by unfold ax;rw[if_pos rfl];show(aq 1 ++ aq 0 ++ (aq 1 ++ [b])).length=4;rw[gQ (show 1 < 128 by decide),gQ (show 0 < 128 by decide)];rfl
theorem vv (b:UInt8):(aT bI 0 0 [b]).2=0/\(aT bI 0 0 [b]).1.rows.length=1/\(∀r ∈ (aT bI 0 0 [b]).1.rows,r.af=0)/\(aT bI 0 0 [b]).1.trimmed=0/\(aT bI 0 0 [b]).1.ag=0:=by
 have hp:(aA bI ⟨1,(0:Int).toNat,0, [b]⟩).2.2=0:=vV _ (by have:=rE b;show 1<=(ax ⟨1,0,0, [b]⟩).length;omega) (by have:=rE b;show(ax ⟨1,0,0, [b]⟩).length<=100;omega);have hw:aT bI 0 0 [b]=({ bI with store:=(aA bI ⟨1,(0:Int).toNat,0, [b]⟩).1,rows:=bI.rows ++ [⟨(0:Int).toNat, [b],(aA bI ⟨1,(0:Int).toNat,0, [b]⟩).2.1.toNat⟩],top:=max bI.top ((0:Int).toNat+1) },0):=by unfold aT;rw[if_neg (by decide),if_neg (by simp),if_neg (by decide),if_neg (by decide),if_neg (by rw[hp];decide)]
 rw[hw];refine⟨rfl,rfl,λr hr=> ?_,rfl,rfl⟩;have hr:r ∈ ([]:List bk) ++ [⟨(0:Int).toNat, [b],(aA bI ⟨1,(0:Int).toNat,0, [b]⟩).2.1.toNat⟩]:=hr;rw[List.nil_append,List.mem_singleton]at hr;rw[hr];rfl
theorem EV (b c:UInt8):(aT (aT bI 0 0 [b]).1 0 0 [c]).2=9:=by
 obtain⟨_,h2,h3,h4,h5⟩:=vv b;revert h2 h3 h4 h5;generalize (aT bI 0 0 [b]).1=u;intro h2 h3 h4 h5;have hh:gJ u 0=true:=by
  unfold gJ;rw[h4]
  match hr:u.rows,h2 with
  | [r],_=>have:=h3 r (by rw[hr];exact List.mem_singleton.2 rfl);simp[this]
 unfold aT;rw[h5,h4,if_neg (by decide),if_neg (by simp),if_neg (by decide),if_pos hh]
def gl:Nat->ah:=bZ (bZ (λ_=>bI) 0 (aT bI 0 0 [0]).1) 1 (aT bI 0 0 [0]).1
theorem tt:bA 0 [[0,1]] 0=0:=by decide
theorem qU:bx [[0,1]] 0= [0,1]:=by decide
theorem ym:ec fm 0 [[0,1]] 0 (λ_=>bI)=(gl, [0],0):=by
 obtain⟨h1,_⟩:=vv 0;have hp:bg fm 0 0 [0] (λ_=>bI) 0 true=(bZ (λ_=>bI) 0 (aT bI 0 0 [0]).1,0):=by unfold bg;rw[if_neg (by decide),if_pos (.inr rfl),h1];rfl
 have hp2:bg fm 0 0 [0] (bZ (λ_=>bI) 0 (aT bI 0 0 [0]).1) 1 false=(gl,0):=by unfold bg;rw[if_neg (by decide),show(1:Int).toNat=1 from rfl,iU _ _ (show(1:Nat)≠0 by decide),h1,if_pos (.inl (by decide))];rfl
 have hf:dt fm 0 0 (λ_=>bI) [0,1]=(bZ (λ_=>bI) 0 (aT bI 0 0 [0]).1, [0],0):=by unfold dt;rw[show([0,1]:List Int).headD 0=0 from rfl,hp,if_neg (show ¬(0:Nat)=9 by decide)]
 have hr:a8 fm 0 0 [0] (bZ (λ_=>bI) 0 (aT bI 0 0 [0]).1) 1 (([0,1]:List Int).drop 1)=(gl,0):=by show a8 fm 0 0 [0] (bZ (λ_=>bI) 0 (aT bI 0 0 [0]).1) 1 [1]=_;rw[mc,show((1:Nat) == 0)=false from rfl,hp2,if_neg (show ¬(0:Nat)≠0 by decide)];rfl
 unfold ec;rw[tt,if_neg (by decide),qU,show(0:Int) / (([[0,1]]:List (List Int)).length:Int)=0 from rfl];unfold kh;rw[hf,if_neg (show ¬(0:Nat)≠0 by decide)];show(if(a8 fm 0 0 [0] (bZ (λ_=>bI) 0 (aT bI 0 0 [0]).1) 1 (([0,1]:List Int).drop 1)).2≠0 then _ else _)=_;rw[hr,if_neg (show ¬(0:Nat)≠0 by decide)]
theorem EX:(eh fm 0 [[0,1]] 0 [97] gl).2=9:=by
 have hp:bg fm 0 0 [97] gl 0 true=(bZ gl 0 (aT (aT bI 0 0 [0]).1 0 0 [97]).1,9):=by
  unfold bg;have e:gl (0:Int).toNat=(aT bI 0 0 [0]).1:=by show gl 0=_;unfold gl;rw[iU _ _ (show(0:Nat)≠1 by decide),pX]
  rw[if_neg (by decide),if_pos (.inr rfl),e,EV];rfl
 unfold eh;rw[tt,if_neg (by decide),qU,show(0:Int) / (([[0,1]]:List (List Int)).length:Int)=0 from rfl,mc,show((0:Nat) == 0)=true from rfl,hp,if_pos (show(9:Nat)≠0 by decide)]
theorem BB {gs:List Nat} (h:gs.length=2):cP gs=fj 2 fm (λi=>gs.getD i 0):=by
 match gs,h with
 | [a,b],_=>rfl
section
variable {D:aB} {a:Nat->Addr} {w W:World}
theorem vU (hD:ay (three a) D) (hE:av w a) (hb:Below w.heap.size w W):
 Calls Tryz.prog 5 #[] W λe w'=>e= .returned (.bool true)/\Below W.heap.size W w':=by
 have HD:=ab hD;have HE:=ab hE;have HB:=ab hb;have CU:=ab (uW hD hE hb 2 (by decide));clear hD hE hb;have kc:=λ(w:World) (C:Array Value) (n c:Nat)=>Lib.run_convert_bytes_const (P:=Tryz.prog) w 47 5 C n c Tryz.underlying47 Tryz.underlying5
 go_enter Tryz.func5,Tryz.ntmps5
 go_wp2_with fail
 refine CU.out.mono ?_;rintro en w1 ⟨v,u,gs,qs,F,H,rfl,hlen,hN⟩;have hvo:w1.ownsRow W.heap.size 70 1 v 2 (cP gs):=by have:=hN.iW;unfold dL at this;rwa[hlen]at this
 obtain⟨bu,cu,rfl,hbu,hbu2⟩:=jJ hvo (by decide);have HVo:=ab hvo;have hvap:=hN.iB bu rfl;obtain⟨Au,zu,hu⟩:∃A c,u= .slice A qs.length c:=by
  rcases hN.iT.2 with⟨rfl,e⟩|⟨g,cap,cur,rfl,_⟩
  · exact⟨none,0,by rw[e]⟩
  · exact⟨_,_,rfl⟩
 subst hu;obtain⟨W2,hW2⟩:=aa (((w1.alloc (.cells #[.int .i64 0,.int .i64 1] 3)).alloc (.cells #[.slice (some ⟨w1.heap.size,0,none⟩) 2 2] 41)).alloc (.cells #[.int .i64 0,.slice (some ⟨w1.heap.size+1,0,none⟩) 1 1] 24));have b2:Below w1.heap.size w1 W2:=by rw[<-hW2];exact(((Below.refl w1.heap.size w1).alloc (Nat.le_refl _) _).alloc (by simp) _).alloc (by simp;omega) _
 have k0:W2.heap[w1.heap.size]? =some (.cells #[.int .i64 0,.int .i64 1] 3 (0,0)):=by rw[<-hW2,(Below.heap_alloc _ _ _ (by simp;omega)),(Below.heap_alloc _ _ _ (by simp))];exact heap_alloc_new w1 _
 have k1:W2.heap[w1.heap.size+1]? =some (.cells #[.slice (some ⟨w1.heap.size,0,none⟩) 2 2] 41 (0,0)):=by
  rw[<-hW2,(Below.heap_alloc _ _ _ (by simp))];have:=heap_alloc_new (w1.alloc (.cells #[.int .i64 0,.int .i64 1] 3)) (.cells #[.slice (some ⟨w1.heap.size,0,none⟩) 2 2] 41)
  rwa[World.size_alloc]at this
 have z2:W2.heap.size=w1.heap.size+3:=by rw[<-hW2];simp
 have hFl:∀k,bX 2 F k->W.heap.size<=k/\k < w1.heap.size:=λk ⟨i,hi,e⟩=>⟨hN.lo i (by omega) k (.inl e),((hN.un i (by omega)).2 k e).2⟩
 have hun1:eb D w w1 (λi=>gs.getD i 0) F 2 128 0 (λ_=>bI):=
  ⟨λi hi=>by have:=hN.un i (by omega);rw[List.getD_eq_getElem?_getD,List.getElem?_eq_getElem (show i < gs.length by omega)];exact this,λi j hi hj hn=>hN.kU i j (by omega) (by omega) hn,(hN.un 0 (by omega)).since⟩
 have r0:aS W2 (λk=>k=w1.heap.size\/k=w1.heap.size+1) (.slice (some ⟨w1.heap.size,0,none⟩) 2 2) (az [0,1]):=by refine⟨⟨by simp[az],some ⟨w1.heap.size,0,none⟩,2,by simp[az],by simp[az],by decide,λ_=>⟨w1.heap.size,0,rfl,by omega,λj x hx=> ?_⟩⟩,λ_ k e=>by injection e with e;exact .inl e.symm⟩;rw[Nat.zero_add,cell_of_row _ _ j _ _ _ k0];simpa[az]using hx
 have r1:aS W2 (λk=>k=w1.heap.size\/k=w1.heap.size+1) (.slice (some ⟨w1.heap.size+1,0,none⟩) 1 1) [.slice (some ⟨w1.heap.size,0,none⟩) 2 2]:=by refine⟨⟨by simp,some ⟨w1.heap.size+1,0,none⟩,1,by simp,by simp,by decide,λ_=>⟨w1.heap.size+1,0,rfl,by omega,λj x hx=> ?_⟩⟩,λ_ k e=>by injection e with e;exact .inr e.symm⟩;rw[Nat.zero_add,cell_of_row _ _ j _ _ _ k1];simpa using hx
 have HC:=ab (show cZ D w W2 (λk=>k=w1.heap.size\/k=w1.heap.size+1) (λi=>gs.getD i 0) F 2 (λ_=>bI) fm (.slice (some ⟨bu,0,none⟩) 2 cu) (.slice (some ⟨w1.heap.size+1,0,none⟩) 1 1) [[0,1]] 0 from {
  aX:=hun1.below HD.out b2
  dx:=Ew
  rows:=λW' hk=>by rw[<-BB hlen];exact pt (gR hvo (Kept.an b2 (F:=λ_=>False)) (λe=>e)) hk (λ⟨i,hi,e⟩=>(hvap.2 i (by omega)).1 e)
  lo_le:=λk e=>by omega
  bK:=λk e e2=>by have:=(hFl k e).2;omega
  bQ:=⟨_,r1,rfl,λi x c hx hc=>by
   cases i with
   | zero=>injection hx with hx;injection hc with hc;subst hx hc;exact r0
   | succ i=>simp at hx⟩ })
 have HBW:=ab (show Below W.heap.size W W2 from hN.be.trans (b2.mono hN.be.size));have HFl:=ab hFl;have CF:=qT HD.out HE.out HC.out (by decide) 0 0;rw[ym]at CF;have CF:=ab CF;have p2:aI W2 (w1.heap.size+1+1) 24 (.int .i64 0) (.slice (some ⟨w1.heap.size+1,0,none⟩) 1 1):=by have:=aI.new ((w1.alloc (.cells #[.int .i64 0,.int .i64 1] 3)).alloc (.cells #[.slice (some ⟨w1.heap.size,0,none⟩) 2 2] 41)) 24 (.int .i64 0) (.slice (some ⟨w1.heap.size+1,0,none⟩) 1 1);rw[hW2]at this;simpa using this
 have P2:=ab p2;obtain⟨_,p0,p1,_⟩:=p2.facts;clear hvo hbu hbu2 hvap hN b2 k0 k1 r0 r1 hun1 hFl p2 CU
 go_wp2_with fail
 refine CF.out.mono ?_;rintro en w3 ⟨vb,x,rfl,hvb,_,hx,hs⟩;obtain rfl:=gN hx rfl;obtain⟨H3,hC3,g2,g3⟩:=HC.out.step hs;have HC3:=ab hC3;have HK3:=ab g3;have HG3:=ab g2;have hfr:¬bX 2 F (w1.heap.size+1+1):=λe=>by have:=(HFl.out _ e).2;omega
 have P3:=ab (P2.out.kept g3 hfr);have CJ:=ab (zy [0] vb _ w3 hvb (Nat.le_refl _));obtain⟨Ab,cb,rfl,_⟩:=hvb.form;clear hs hC3 g2 g3 hvb hx CF p0 p1 hfr
 go_wp2_with fail
 refine CJ.out.mono ?_;rintro en w4 ⟨rfl,hb4⟩;have HC4:=ab (HC3.out.below HD.out hb4);have HB4:=ab hb4;have P4:=ab (P3.out.below hb4 P3.out.lt);obtain⟨W5,hW5⟩:=aa (w4.alloc (.cells #[.int .u8 97] 5 (1,2)));have b5:Below w4.heap.size w4 W5:=by rw[<-hW5];exact(Below.refl w4.heap.size w4).alloc (Nat.le_refl _) _
 have hv5:Bytes W5 W5.heap.size (.slice (some ⟨w4.heap.size,0,none⟩) 1 1) [97]:=by rw[<-hW5,World.size_alloc];exact Bytes.new w4 _ _ _ _ 1 [97] rfl rfl rfl (by omega)
 have z5:W5.heap.size=w4.heap.size+1:=by rw[<-hW5,World.size_alloc]
 have CW:=rh HD.out HE.out (HC4.out.below HD.out b5) (by decide) 0 0 (.slice (some ⟨w4.heap.size,0,none⟩) 1 1) [97] hv5 (λj e=>by injection e with e;have e:w4.heap.size=j:=e;exact⟨λh=>by have:=(HC4.out.aX.lt j h).2;omega,by omega⟩);have hw2:(eh fm 0 [[0,1]] 0 [97] gl).2=9:=EX;obtain⟨r,hr⟩:=aa (eh fm 0 [[0,1]] 0 [97] gl);rw[hr]at hw2;have hr2:eh fm 0 [[0,1]] 0 [97] (gl,([0]:List UInt8),0).1=r:=hr;rw[hr2]at CW;have CW:=ab CW;have HW9:=ab hw2;have HB5:=ab b5;obtain⟨_,p0,p1,_⟩:=P4.out.facts;clear hb4 CJ b5 hv5 z5 hr hr2 hw2
 go_wp2_with fail
 refine CW.out.mono ?_;rintro en w6 ⟨x6,rfl,hx6,hs6⟩;rw[HW9.out]at hx6;have HX6:=ab hx6;have HS6:=ab hs6;have hB6:Below W.heap.size W w6:=by
  obtain⟨_,_,_,g6⟩:=hs6;have s2:=HBW.out.size;have k1:=HK3.out;have b35:=HB4.out.trans (HB5.out.mono HB4.out.size);refine⟨g6.os.trans (b35.os.trans (k1.os.trans HBW.out.os)),g6.tape.trans (b35.tape.trans (k1.tape.trans HBW.out.tape)),g6.output.trans (b35.output.trans (k1.output.trans HBW.out.output)),by have:=g6.size;have:=b35.size;have:=k1.size;omega,λk hk=> ?_⟩;have e1:=HBW.out.block k hk;have e2:=k1.block k (by omega) (λe=>by have:=(HFl.out k e).1;omega);have e3:=b35.block k (by have:=k1.size;omega);have e4:=g6.block k (by have:=k1.size;have:=b35.size;omega) (λ⟨i,hi,e⟩=>by
   rcases HG3.out i k e with e|e
   · have:=(HFl.out k ⟨i,hi,e⟩).1;omega
   · omega)
  exact e4.trans (e3.trans (e2.trans e1))
 have HB6:=ab hB6;have CN:=ab (iM a x6 9 w6 (by obtain⟨_,g1,_,_⟩:=hs6;exact HE.out.below g1.since) hx6);clear hx6 hs6 hB6 CW p0 p1 hW5
 go_wp2_with fail
 refine CN.out.mono ?_;rintro en w7 ⟨rfl,hb7⟩;have HB7:=ab (HB6.out.trans (hb7.mono HB6.out.size));clear hb7 CN
 go_wp2_with fail
 go_ret
 exact⟨rfl,HB7.out⟩
end
end Go.Proofs.YtiafamacjpgjoaaGreatDoor
