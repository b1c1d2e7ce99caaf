import Derived.Test.YtiafamacjpgjoaaGreatDoorGUiV
import Derived.Test.YtiafamacjpgjoaaGreatDoorGStO
import Derived.Test.YtiafamacjpgjoaaGreatDoorGUiR
import Derived.Test.YtiafamacjpgjoaaGreatDoorGPackD
import Derived.Test.YtiafamacjpgjoaaGreatDoorGMem
import Derived.Test.YtiafamacjpgjoaaGreatDoorGSsX
import Derived.Test.YtiafamacjpgjoaaGreatDoorGUrS
import Derived.Deep.RegionHeld3
set_option maxRecDepth 100000
set_option maxHeartbeats 4000000
namespace Go.Proofs.YtiafamacjpgjoaaGreatDoor
open Go Go.RowKit Go.Shelf Tide
section
variable {D:aB} {x:Nat->Addr} {w W W':World} {FX:Nat->Prop} {X:World->Prop} {g p bm dev:Nat} {us us':List ai} {d d':Dv} {s s':aV}
theorem cG.row (hX:cG FX X) (lo:Nat) (ty:TypeId) (size:Nat) (v:Value) (n:Nat) (xs:List Value):cG (λk=>FX k\/v.ownBlock=some k) (λY=>X Y/\Y.ownsRow lo ty size v n xs):=λY Y' F h hl hk hf=>⟨hX Y Y' F h.1 (λk hk=>hl k (.inl hk)) hk (λk hk=>hf k (.inl hk)),hk.own h.2 (λk e=>hf k (.inr e))⟩
theorem US.row (hD:ay x D) (hX:cG FX X) (h:US D w FX X g p bm dev us d s W) (hb:Below W.heap.size W W') {ty:TypeId} {size:Nat} {v:Value} {n:Nat} {xs:List Value} (hv:W'.ownsRow W.heap.size ty size v n xs):
 US D w (λk=>FX k\/v.ownBlock=some k) (λY=>X Y/\Y.ownsRow W.heap.size ty size v n xs) g p bm dev us d s W':=by
 have hz:=hb.size;have hx2:=(h.below hD hX hb).gY;obtain⟨Fd,Fs,vs,h1,h2,h3,h4,h5,h6,h7,h8,h9⟩:=h;refine⟨Fd,Fs,vs,hD.aj _ _ _ (λ_=>False) _ _ h1 (Kept.an hb) (λ_ _ h=>h),h2.below hb,h3.below hb,h4,h5,λk hk=>⟨λhf=> ?_,(h6 k hk).2.1,Nat.lt_of_lt_of_le (h6 k hk).2.2 hz⟩,λk hk=> ?_,h8.trans (hb.mono h8.size),hx2,hv⟩
 · rcases hf with hf|hf
   · exact(h6 k hk).1 hf
   · have:=(World.ownsRow.lt hv k hf).1;have:=(h6 k hk).2.2;omega
 · rcases hk with hk|hk
   · exact Nat.lt_of_lt_of_le (h7 k hk) hz
   · exact(World.ownsRow.lt hv k hk).2
end
section
variable {D:aB} {a:Nat->Addr} {w W:World} {FX:Nat->Prop} {X:World->Prop} {g p bm dev n P:Nat} {d:Dv} {s:aV} {x y:aF} {r:List aF}
theorem US.xR (hD:ay (three a) D) (hX:cG FX X) (hE:av w a) (hn:n<=1000) (h:US D w FX X g p bm dev (au ⟨P,x :: y :: r⟩) d s W) (hp:d.ar= []) (hL:aM n d.img ⟨P,x :: y :: r⟩):
 Calls Tryz.prog 140 #[.pointer (some ⟨p,0,none⟩),.int .i64 (x.number:Int)] W λe w'=>
  (e= .returned .nilIface/\∃d',d'.ar= []/\(d.stop=none->d'.stop=none)/\aM n d'.img ⟨P,y :: r⟩/\US D w FX X g p bm dev (au ⟨P,y :: r⟩) d' s w')\/
  (d.stop≠none/\e= .returned (ao (a 11))/\∃d',d'.img.length=64 * n/\ja n d' (λim=>aM n im ⟨P,x :: y :: r⟩\/aM n im ⟨P,y :: r⟩)/\US D w FX X g p bm dev (au ⟨P,x :: y :: r⟩) d' s w'):=by
 have hU:=h;obtain⟨Fd,Fs,vs,g1,g2,h3,g3,h5,h6,h7,h8,h9⟩:=h;have hz:=h8.size;have hng:=ni hE;obtain⟨img,ar,sp⟩:=d;simp only at hp hL;subst hp;have hil:img.length / 64=n:=by have:=hL.len;omega
 have hul:(au ⟨P,x :: y :: r⟩).length<=1000:=by rw[fN];have:=lJ hL.wf;have:=hL.places;omega
 have hus:∀u ∈ au ⟨P,x :: y :: r⟩,u.first < img.length / 64:=λu hu=>by obtain⟨g,hg,rfl⟩:=List.mem_map.1 hu;have:=hL.on hg;simp only;omega
 have h4:∀k,Fd k\/Fs k->¬FX k/\w.heap.size<=k/\k < W.heap.size:=λk hk=>h6 k (hk.imp id .inl);refine(xS hD (hE.below h8) g1 g2 g3 (λk hk=>Nat.le_trans hng (h4 k (.inl hk)).2.1) (Nat.le_trans hng hz) hul hus x.number).mono ?_;have hfind:=nS hL.wf x.number;have hf2:dM (au ⟨P,x :: y :: r⟩) (x.number:Int)=((0:Nat):Int):=by
  rcases hfind with⟨f1,_⟩|⟨i,hi,f0,f1,f2,_⟩
  · exact absurd rfl (f1 x (by simp))
  · have h1:=List.pairwise_iff_getElem.1 hL.wf.ga;have hi0:i=0:=by
     rcases Nat.eq_zero_or_pos i with h2|h2
     · exact h2
     · have:=h1 0 i (by simp) (by simpa using hi) h2;rw[List.getElem_map,List.getElem_map]at this;have e0:(⟨P,x :: y :: r⟩:aC).ae[0]=x:=rfl;rw[e0]at this;omega
    subst hi0;exact f2
 rintro e w' (⟨e1,rfl,hb⟩|⟨i,e1,e2,rfl,hb⟩|⟨i,hi,e1,hr⟩)
 · omega
 · have:i=0:=by omega
   subst this;rw[fN]at e2;simp at e2
 · have:i=0:=by omega
   subst this;have hwf:=xY hL.wf x.number;have e:fU ⟨P,x :: y :: r⟩ x.number=(⟨P,y :: r⟩,0):=by
    rcases hfind with⟨f1,_⟩|⟨i,hi,f0,f1,f2,_⟩
    · exact absurd rfl (f1 x (by simp))
    · have:i=0:=by omega
      subst this;unfold fU;rw[f1];simp
   rw[e]at hwf;have hdl:=xV (d:=⟨img, [],sp⟩) hL (i:=0) (by simp) hwf;have hon:=hL.on (show x ∈ (⟨P,x :: y :: r⟩:aC).ae by simp);have hln:=kj (n:=n) (i:=64 * x.place) (m:=1) (whole:=(ak img (64 * x.place)).set 63 2) (img:=img) (by rw[List.length_set,gd _ _ (by have:=hL.len;omega)]) (by omega) hL.len;have hus0:(au ⟨P,x :: y :: r⟩)[0]'(by omega)=⟨x.number,64 * x.place,bH x⟩:=rfl;rw[hus0]at hr;simp only at hr;have hel:(au ⟨P,x :: y :: r⟩).eraseIdx 0=au ⟨P,y :: r⟩:=rfl;rw[hel]at hr;simp only[List.getElem_cons_zero,List.eraseIdx_cons_zero]at hdl;have h5':=h5;rcases hr with⟨hpw,rfl,F',vs',r1,r2,r3,r4⟩|⟨k,e3,hs1,rfl,F',r1,r2,r3⟩
   · have hput:=tE (d:=⟨img, [],sp⟩) (i:=64 * x.place) (whole:=(ak img (64 * x.place)).set 63 2) (m:=1) hpw;rw[hput]at hdl;rcases hdl with⟨_,hl⟩|⟨hl,_⟩
     · refine .inl ⟨rfl,_,rfl,λh=> ?_,hl,US.rs hX hU h4 h5 ⟨F',Fs,vs',r1,r2,λk hk hs=> ?_,r3,λk hk=> .inl hk,r4⟩ hD⟩
       · show fX sp 2=none;simp only at h;rw[h];rfl
       · rcases r3 k hk with h|h
         · exact g3 k h hs
         · have:=(h4 k (.inr hs)).2.2;omega
     · cases hl
   · have hput:bV ⟨img, [],sp⟩ (64 * x.place) ((ak img (64 * x.place)).set 63 2) 1=(false,⟨img,(bz (64 * x.place) ((ak img (64 * x.place)).set 63 2) 1).take k,some 0⟩):=by unfold bV;simp only[e3];rw[if_pos hs1]
     rw[hput]at hdl;rcases hdl with⟨hl,_⟩|⟨_,hl⟩
     · cases hl
     · refine .inr ⟨by simp only;rw[e3];exact Option.some_ne_none _,rfl,_,hL.len,hl,US.rs hX hU h4 h5 ⟨F',Fs,vs,r1,g2.aj r3 (λk h1 h2=>g3 k h2 h1),λk hk hs=> ?_,r2,λk hk=> .inl hk,r3.mono (λk _ h=> .inl h)⟩ hD⟩;rcases r2 k hk with h|h
       · exact g3 k h hs
       · have:=(h4 k (.inr hs)).2.2;omega
end
end Go.Proofs.YtiafamacjpgjoaaGreatDoor
namespace Go.Proofs.YtiafamacjpgjoaaGreatDoor
open Go Go.RowKit Go.Shelf Tide
theorem rk {α:Type} (f:α->Bool):∀ (l:List α) (j:Nat),(∀ (i:Nat) (h:i < l.length),i < j->f l[i]=true)->(∀h:j < l.length,f l[j]=false)->j<=l.length->l.dropWhile f=l.drop j
 | [],j,_,_,h=>by simp
 | x :: l,0,_,h2,_=>by have:=h2 (by simp);simp only[List.getElem_cons_zero]at this;rw[List.dropWhile_cons_of_neg (by rw[this];decide),List.drop_zero]
 | x :: l,j+1,h1,h2,h3=>by have h0:=h1 0 (by simp) (by omega);simp only[List.getElem_cons_zero]at h0;rw[List.dropWhile_cons_of_pos h0,List.drop_succ_cons];exact rk f l j (λi h hi=>h1 (i+1) (by simpa using h) (by omega)) (λh=>h2 (by simpa using h)) (by simpa using h3)
theorem nM {m:aC} {j q:Nat} (h1:∀ (i:Nat) (h:i < m.ae.length),i < j->(m.ae[i]).number < q) (h2:∀h:j < m.ae.length,q<=(m.ae[j]).number) (h3:j<=m.ae.length):dA q m=⟨m.places,m.ae.drop j⟩:=by unfold dA;rw[rk _ m.ae j (λi h hi=>decide_eq_true (h1 i h hi)) (λh=>decide_eq_false (by have:=h2 h;omega)) h3]
theorem oG:∀ {ps:List bk},(ps.map bk.af).Nodup->∀ {p q:bk},p ∈ ps->q ∈ ps->p.af=q.af->p=q
 | [],_,p,_,hp,_,_=>by cases hp
 | x :: ps,h,p,q,hp,hq,e=>by
   rw[List.map_cons,List.nodup_cons]at h;rcases List.mem_cons.1 hp with hp|hp
   · rcases List.mem_cons.1 hq with hq|hq
     · rw[hp,hq]
     · exact absurd (List.mem_map.2 ⟨q,hq,by rw[<-e,hp]⟩) h.1
   · rcases List.mem_cons.1 hq with hq|hq
     · exact absurd (List.mem_map.2 ⟨p,hp,by rw[e,hq]⟩) h.1
     · exact oG h.2 hp hq e
section
variable {D:aB} {a:Nat->Addr} {w W:World} {FX:Nat->Prop} {X:World->Prop} {g p bm dev n:Nat} {d:Dv} {s:aV} {m:aC}
def qp (D:aB) (a:Nat->Addr) (w:World) (FX:Nat->Prop) (X:World->Prop) (g p bm dev n:Nat) (m:aC) (d:Dv) (s:aV) (N:Nat) (e:Ending) (w':World):Prop:=
 (e= .returned .nilIface/\∃d',d'.ar= []/\(d.stop=none->d'.stop=none)/\aM n d'.img (dA N m)/\US D w FX X g p bm dev (au (dA N m)) d' s w')\/
 (d.stop≠none/\e= .returned (ao (a 11))/\∃us' d',d'.img.length=64 * n/\ja n d' (λim=>∃q,q<=N/\aM n im (dA q m))/\US D w FX X g p bm dev us' d' s w')
theorem Er (hD:ay (three a) D) (hX:cG FX X) (hE:av w a) (hn:n<=1000) (h:US D w FX X g p bm dev (au m) d s W) (hp:d.ar= []) (hL:aM n d.img m) (hs:eZ s) {l:List aF} {z:aF} (hm:m.ae=l ++ [z]) (hz:z.number<=100000):
 Calls Tryz.prog 107 #[.pointer (some ⟨g,0,none⟩)] W (qp D a w FX X g p bm dev n m d s (s.aD.foldl (λn p=>min n p.aQ) z.number)):=by
 have HU:=ab h;have HD:=ab hD;have HX:=ab hX;have HA:=ab hs.ae;have hul:(au m).length<=1000:=by rw[fN];have:=lJ hL.wf;have:=hL.places;omega
 have hlast:gn (au m)=(z.number:Int):=by rw[mr,hm,iK]
 obtain⟨_,c0,c1,c2,c3,_⟩:=h.unit.facts;have CL:=ab (by obtain⟨Fd,Fs,vs,h1,h2,_⟩:=h;have:=ox h2 hul;rw[hlast]at this;exact this);have HUl:=ab hul;obtain⟨Z,hZ⟩:=aa z.number;rw[hZ]at CL hz ⊢;have HO:=ab hs.once;obtain⟨N,hN⟩:=aa (s.aD.foldl (λn p=>min n p.aQ) Z);have HN:=ab hN;rw[hN];have HNZ:=ab (show N<=Z from by have:=(mw s.aD Z).1;omega);clear hN
 go_enter Tryz.func107,Tryz.ntmps107
 go_wp2_with fail
 refine CL.out.mono ?_;rintro e w1 ⟨rfl,k,hk⟩;have hb1:Below W.heap.size W w1:=by rw[hk];exact kJ (Below.refl _ _) k
 have U1:=ab (HU.out.below HD.out HX.out hb1);clear hk hb1 c0 c1 c2 c3 h hD hX hs hul hlast CL;obtain⟨hg1,d0,d1,d2,d3,_⟩:=U1.out.unit.facts;have hM:=ab U1.out.unit.map
 go_wp2_with (at_range;refine qg _ hM.out rfl _ rfl rfl ?_;intro w0 left0 cnt0 hr0 hl0 hb0 hs0)
 go_frame
 have R0:=ab hr0;have B0:=ab hb0;have L0:=ab (show ∀n,n<=Z<->n<=Z/\∀q ∈ s.aD,left0 (bq q.af)=false->n<=q.aQ from λn=>⟨λh=>⟨h,λq hq hl=>by rw[hl0,List.any_eq_false]at hl;exact absurd (beq_self_eq_true (q.af:Int)) (hl q hq)⟩,λh=>h.1⟩);clear hr0 hb0 hl0
 go_loopw [3] (λt wr=>∃ (left:Lit->Bool) (cnt T:Nat),t= .int .i64 (T:Int)/\T<=100000/\Hid (eG wr bm w1.heap.size s.aD left cnt)/\Hid (∀n,n<=T<->n<=Z/\∀q ∈ s.aD,left (bq q.af)=false->n<=q.aQ)/\Hid (Below w1.heap.size w1 wr)) (λ_ wr=>wr.rangeLeft bm w1.heap.size)
 case atStart=>exact⟨left0,cnt0,Z,rfl,hz,R0,L0,B0⟩
 case round=>
  clear R0 L0 B0;obtain⟨left,cnt,T,rfl,hT,hRg,hLe,hBr⟩:=hrel
  go_wp2_with (at_next;refine qb _ hRg.out rfl _ rfl rfl ?_ ?_)
  · intro hl;have HE:=ab (show T=N from by
     have h2:=mw s.aD Z;rw[HN.out]at h2;have h1:∀n,n<=T<->n<=N:=λn=>by
      rw[hLe.out n];constructor
      · rintro⟨k1,k2⟩;rcases h2.2.2 with h3|⟨q,hq,h3⟩
        · omega
        · have:=k2 q hq (hl _);omega
      · exact λk1=>⟨by omega,λq hq _=>by have:=h2.2.1 q hq;omega⟩
     exact Nat.le_antisymm ((h1 _).1 (Nat.le_refl _)) ((h1 _).2 (Nat.le_refl _)))
    have U2:=ab (U1.out.below HD.out HX.out hBr.out);clear hl hLe hRg hBr HA d0 d1 d2 d3 hM HU U1;obtain⟨_,d0,d1,d2,d3,_⟩:=U2.out.unit.facts;have CS:=ab (by obtain⟨Fd,Fs,vs,h1,h2,_⟩:=U2.out;exact uk h2 HUl.out)
    go_wp2_with fail
    refine CS.out.mono ?_;rintro e w3 ⟨v,rfl,hv,hb3⟩;have U3:=ab (U2.out.row HD.out HX.out hb3 hv);have HX3:=ab (λS rb cv=>HX.out.row wr.heap.size 3 1 (.slice (some ⟨rb,0,none⟩) S cv) S ((au m).map λu=> .int .i64 (u.no:Int)));clear hb3 hv d0 d1 d2 d3 U2 CS;obtain⟨S,hS⟩:=aa m.ae.length;have hS':(au m).length=S:=by rw[fN,hS]
    have HS:=ab hS;have HSl:=ab hS';obtain⟨rb,cv,rfl⟩:∃rb cv,v= .slice (some ⟨rb,0,none⟩) S cv:=by
     rcases U3.out.gY.2.2 with⟨h1,h2⟩|⟨gg,cap,_,h1,_⟩
     · rw[hS',<-hS,hm]at h2;simp at h2
     · exact⟨gg,cap,by rw[h1,hS']⟩
    have U3:=ab (by have:=U3.out;rw[hS']at this;exact this);have HX3:=ab (HX3.out S rb cv);have HNo:=ab (show ∀ (j:Nat) (h:j < m.ae.length),((au m).map λu=>Value.int .i64 (u.no:Int))[j]? =some (.int .i64 ((m.ae[j]).number:Int)) from λj h=>by rw[List.getElem?_map];unfold au;rw[List.getElem?_map,List.getElem?_eq_getElem h];rfl);have HLess:=ab (λ(us:List ai) (d:Dv) (Y:World) (hu:US D w (λk=>FX k\/(Value.slice (some ⟨rb,0,none⟩) S cv).ownBlock=some k) (λY=>X Y/\Y.ownsRow wr.heap.size 3 1 (.slice (some ⟨rb,0,none⟩) S cv) S ((au m).map λu=> .int .i64 (u.no:Int))) g p bm dev us d s Y)=>(show US D w FX X g p bm dev us d s Y from hu.less (λ_ h=> .inl h) (λ_ h=>h.1)));have HRow:=ab (λ(us:List ai) (d:Dv) (Y:World) (hu:US D w (λk=>FX k\/(Value.slice (some ⟨rb,0,none⟩) S cv).ownBlock=some k) (λY=>X Y/\Y.ownsRow wr.heap.size 3 1 (.slice (some ⟨rb,0,none⟩) S cv) S ((au m).map λu=> .int .i64 (u.no:Int))) g p bm dev us d s Y)=>hu.gY.2);generalize hFX:(λk=>FX k\/(Value.slice (some ⟨rb,0,none⟩) S cv).ownBlock=some k)=FR at *;generalize hXR:(λY:World=>X Y/\Y.ownsRow wr.heap.size 3 1 (.slice (some ⟨rb,0,none⟩) S cv) S ((au m).map λu=> .int .i64 (u.no:Int)))=XR at *;clear hFX hXR;have HE3:=ab hE;have HL3:=ab hL;have HP3:=ab hp;have HM3:=ab hm;have HZ3:=ab hZ;have U3':=ab (show US D w FR XR g p bm dev (au ⟨m.places,m.ae.drop 0⟩) d s w3 from U3.out);have HTN:(T:Int)=(N:Int):=by rw[HE.out]
    rw[HTN];clear hE hL hp hm hZ hS' hS U3 HTN
    go_wp2_with fail
    go_loopw [33] (λi w4=>∃j:Nat,i= .int .i64 (j:Int)/\j<=S/\∃d1,Hid (d1.ar= []/\(d.stop=none->d1.stop=none)/\(d1.stop≠none->d.stop≠none))/\Hid (aM n d1.img ⟨m.places,m.ae.drop j⟩)/\Hid (∀ (i:Nat) (h:i < m.ae.length),i < j->(m.ae[i]).number < N)/\Hid (US D w FR XR g p bm dev (au ⟨m.places,m.ae.drop j⟩) d1 s w4)) (λi _=>S - (intOf i).toNat)
    case atStart=>exact⟨0,rfl,Nat.zero_le _,d,ab ⟨HP3.out,id,id⟩,HL3,ab (λi _ h=>absurd h (Nat.not_lt_zero _)),U3'⟩
    case round=>
     obtain⟨j,rfl,hj,d1,HP4,HL4,HB4,U4⟩:=hrel;by_cases hjs:j < S;rotate_left
     · exfalso;have h1:=HB4.out l.length (by rw[HM3.out];simp) (by have:=HS.out;rw[HM3.out]at this;simp at this;omega);have h2:m.ae[l.length]'(by rw[HM3.out];simp)=z:=by simp[HM3.out]
       rw[h2,HZ3.out]at h1;have:=HNZ.out;omega
     have hjl:j < m.ae.length:=by rw[HS.out];exact hjs
     have hjm:S<=1000:=by have:=HUl.out;rw[HSl.out]at this;exact this
     obtain⟨_,e0,e1,e2,e3,_⟩:=U4.out.unit.facts;have er:wr.cell? ⟨rb,j,none⟩=some (.int .i64 ((m.ae[j]).number:Int)):=by rw[(HRow.out _ _ _ U4.out).cellAt j (by omega)];exact HNo.out j hjl
     obtain⟨q,hq⟩:=aa ((m.ae[j]).number);have HQ:=ab hq;rw[hq]at er;clear hq;by_cases hNq:N<=q
     · have HD4:=ab (show dA N m=⟨m.places,m.ae.drop j⟩from nM HB4.out (λh=>by have:=HQ.out;omega) (Nat.le_of_lt hjl))
       go_wp2_with fail
       go_ret
       exact .inl ⟨rfl,d1,HP4.out.1,HP4.out.2.1,by rw[HD4.out];exact HL4.out,by rw[HD4.out];exact HLess.out _ _ _ U4.out⟩
     have hj1:j+1 < m.ae.length:=by
      rcases Nat.lt_or_ge (j+1) m.ae.length with h|h
      · exact h
      · exfalso;have h2:m.ae[j]=z:=by
         have h4:m.ae.length=l.length+1:=by rw[HM3.out];simp
         have h3:j=l.length:=by omega
         subst h3;simp[HM3.out]
        have h5:=HQ.out;rw[h2,HZ3.out]at h5;have:=HNZ.out;omega
     obtain⟨x,hx⟩:=aa (m.ae[j]);obtain⟨y,hy⟩:=aa (m.ae[j+1]);have hdr:m.ae.drop j=x :: y :: m.ae.drop (j+2):=by rw[List.drop_eq_getElem_cons hjl,hx,List.drop_eq_getElem_cons hj1,hy]
     have hdr1:m.ae.drop (j+1)=y :: m.ae.drop (j+2):=by rw[List.drop_eq_getElem_cons hj1,hy]
     have hxq:x.number=q:=by rw[<-hx];exact HQ.out
     have CD:=ab (by have h1:=U4.out;have h2:=HL4.out;rw[hdr]at h1 h2;have:=US.xR HD.out HX3.out HE3.out hn h1 HP4.out.1 h2;rw[<-hdr,<-hdr1,hxq]at this;exact this);have HRise:=ab (List.pairwise_iff_getElem.1 HL3.out.wf.ga);have HB5:=ab (show ∀ (i:Nat) (h:i < m.ae.length),i < j+1->(m.ae[i]).number < q+1 from λi h hi=>by
      by_cases e:i=j
      · subst e;have:=HQ.out;omega
      · have:=HRise.out i j (by simpa using h) (by simpa using hjl) (by omega);rw[List.getElem_map,List.getElem_map]at this;have:=HQ.out;omega)
     have HL5:=ab (show dA q m=⟨m.places,m.ae.drop j⟩from nM (λi h hi=>by have:=HRise.out i j (by simpa using h) (by simpa using hjl) hi;rw[List.getElem_map,List.getElem_map]at this;have:=HQ.out;omega) (λh=>by have:=HQ.out;omega) (Nat.le_of_lt hjl));have HL6:=ab (show dA (q+1) m=⟨m.places,m.ae.drop (j+1)⟩from nM HB5.out (λh=>by have:=HRise.out j (j+1) (by simpa using hjl) (by simpa using h) (Nat.lt_succ_self _);rw[List.getElem_map,List.getElem_map]at this;have:=HQ.out;omega) (Nat.le_of_lt hj1));clear hx hy hdr hdr1 hxq
     go_wp2_with fail
     refine CD.out.mono ?_;rintro e w5 (⟨rfl,d2,h1,h2,h3,h4⟩|⟨h0,rfl,d2,h1,h2,h3⟩)
     · have HP6:=ab (show d2.ar= []/\(d.stop=none->d2.stop=none)/\(d2.stop≠none->d.stop≠none) from⟨h1,λh=>h2 (HP4.out.2.1 h),λh hh=>h (h2 (HP4.out.2.1 hh))⟩);have H3:=ab h3;have H4:=ab h4;have HB6:=ab (show ∀ (i:Nat) (h:i < m.ae.length),i < j+1->(m.ae[i]).number < N from λi h hi=>by have:=HB5.out i h hi;omega);clear h1 h2 h3 h4 e0 e1 e2 e3 er
       go_wp2_with fail
       go_roundw
       case rel=>exact⟨j+1,by go_num,by omega,d2,HP6,H3,HB6,H4⟩
       case measure=>simp only[intOf];omega
     · have H0:=ab (HP4.out.2.2 h0);have H1:=ab h1;have H2:=ab h2;have H3:=ab h3;clear h0 h1 h2 h3 e0 e1 e2 e3 er
       go_wp2_with fail
       go_ret
       refine .inr ⟨H0.out,rfl,_,d2,H1.out,λxs hx hf=> ?_,HLess.out _ _ _ H3.out⟩;rcases H2.out xs hx hf with h|h
       · exact⟨q,by omega,by rw[HL5.out];exact h⟩
       · exact⟨q+1,by omega,by rw[HL6.out];exact h⟩
  · intro q w2 cnt1 hq hlq hr1 hlt hk1 hs1 hen;have hqa:=HA.out q hq;have hba:=(Below.refl w2.heap.size w2).alloc (Nat.le_refl _) (.cells #[.string ⟨q.bs.toArray⟩,.int .i64 (q.aQ:Int)] 171);have hr2:=hr1.kept (F:=λ_=>False) (Kept.an hba) (λh=>h) (λh=>h);have R1:=ab hr2;have hb2:=hBr.out.trans (hk1.below hBr.out.size (λi hi=>by rw[show i=w1.heap.size from hi];exact Nat.le_refl _));have B1:=ab (hb2.trans (hba.mono hb2.size));have L1:=ab (show ∀n,n<=(if q.aQ < T then q.aQ else T)<->n<=Z/\∀q' ∈ s.aD,(left (bq q'.af) && !(bq q'.af).sameKey (bq q.af))=false->n<=q'.aQ from λn=>by
     constructor
     · intro h;have h2:=(hLe.out n).1 (by split at h<;>omega);refine⟨h2.1,λq' hq' hl'=> ?_⟩;rcases kp.1 hl' with h3|h3
       · exact h2.2 q' hq' h3
       · rw[oG HO.out hq' hq (by omega)];split at h<;>omega
     · rintro⟨h1,h2⟩;have h3:=(hLe.out n).2 ⟨h1,λq' hq' hl'=>h2 q' hq' (kp.2 (.inl hl'))⟩;have h4:=h2 q hq (kp.2 (.inr rfl));split<;>omega)
    have HM:=ab (show wr.rangeLeft bm w1.heap.size=cnt from hRg.out.left_eq);have HM1:=ab hr2.left_eq;clear hr1 hk1 hq hlq hba hb2 hr2
    go_wp2_with fail
    go_roundw
    case rel=>exact⟨_,cnt1,if q.aQ < T then q.aQ else T,by split<;>rfl,by split<;>omega,R1,L1,B1⟩
    case measure=>rw[HM.out,HM1.out];exact hlt
end
end Go.Proofs.YtiafamacjpgjoaaGreatDoor
namespace Go.Proofs.YtiafamacjpgjoaaGreatDoor
open Go Go.RowKit Go.Shelf Tide
def iX (s:aV) (ep to:Int):Nat:=bG s.ag ep to 4096
def eC (s:aV) (t:Nat):bh:=⟨2,t,s.ag, []⟩
def kr (s:aV) (z:Nat):Nat:=s.aD.foldl (λn p=>min n p.aQ) z
section
variable {D:aB} {a:Nat->Addr} {w W:World} {FX:Nat->Prop} {X:World->Prop} {g p bm dev n N:Nat} {d:Dv} {s:aV} {m:aC}
theorem rU {s:aV} (h:eZ s):eZ (cE s):=⟨h.trimmed,h.ag,λq hq=>h.gF q (List.mem_filter.1 hq).1,λq hq=>h.ae q (List.mem_filter.1 hq).1,h.once.sublist (List.Sublist.map _ List.filter_sublist)⟩
theorem qX (s:aV) (t g:Nat):cH s (eC s t) g= { s with trimmed:=t }:=by unfold cH eC;rw[if_neg (show ¬(2:Nat)=1 by decide),if_pos rfl]
def nx (D:aB) (a:Nat->Addr) (w:World) (FX:Nat->Prop) (X:World->Prop) (g p bm dev n:Nat) (m:aC) (d:Dv) (s:aV) (ep to:Int) (e:Ending) (w':World):Prop:=
 (iX s ep to≠0/\(∃x,e= .returned x/\bE a x (iX s ep to))/\US D w FX X g p bm dev (au m) d s w')\/
 (iX s ep to=0/\to<=s.trimmed/\e= .returned .nilIface/\US D w FX X g p bm dev (au m) d s w')\/
 (iX s ep to=0/\s.trimmed < to/\(∃k,(bl (au m) d (ax (eC s to.toNat))).1=some k/\e= .returned (ao (a k)))/\US D w FX X g p bm dev (bl (au m) d (ax (eC s to.toNat))).2.2.1 (bl (au m) d (ax (eC s to.toNat))).2.2.2 s w')\/
 (iX s ep to=0/\s.trimmed < to/\∃no d',bl (au m) d (ax (eC s to.toNat))=(none,no,au (aZ m (ax (eC s to.toNat))).1,d')/\(aZ m (ax (eC s to.toNat))).2=((no:Int),0)/\aM n d'.img (aZ m (ax (eC s to.toNat))).1/\d'.ar= []/\(d.stop=none->d'.stop=none)/\
   qp D a w FX X g p bm dev n (aZ m (ax (eC s to.toNat))).1 d' (cE { s with trimmed:=to.toNat }) (kr (cE { s with trimmed:=to.toNat }) no) e w')
theorem oF (hL:aM n d.img m) (hn:n<=1000) (hN:cY N m) (hNl:N<=100000):jU (d.img.length / 64) (au m):=by
 have h1:=lJ hL.wf;have h2:=hL.places;have h3:=hL.len;refine⟨by rw[fN];omega,λu hu=> ?_,?_⟩
 · obtain⟨g,hg,rfl⟩:=List.mem_map.1 hu;have h4:=hL.on hg;have h5:bH g<=64 * g.place+64:=by have:=(hL.wf.aE g hg).2.1;unfold bH;omega
   simp only;refine⟨by omega,by unfold bH;omega,by omega⟩
 · rw[mr];have:=hN.last;refine⟨?_,by omega⟩;unfold cS;cases m.ae.getLast? with
   | none=>simp
   | some g=>simp only;omega
theorem ED (hD:ay (three a) D) (hX:cG FX X) (hE:av w a) (hn:n<=1000) (h:US D w FX X g p bm dev (au m) d s W) (hpe:d.ar= []) (hL:aM n d.img m) (hN:cY N m) (hNl:N<=90000) (hs:eZ s) (ep to:Int):
 Calls Tryz.prog 75 #[.pointer (some ⟨g,0,none⟩),.int .i64 ep,.int .i64 to] W (nx D a w FX X g p bm dev n m d s ep to):=by
 have hEW:=hE.below h.since;have hok:=oF hL hn hN (by omega);have CA:=ab (ny h.unit hEW ep to 4096);obtain⟨k,hk⟩:=aa (bG s.ag ep to 4096);have HK:=ab hk;rw[hk]at CA;have HW0:=ab h;obtain⟨_,c0,c1,c2,c3,_⟩:=h.unit.facts;have HLie:=ab (nB hL (by have:=hN.last;omega));have HNum:=ab (λb=>jC (b:=b) hN);have HRe:=ab (λb=>jY (m:=m) (b:=b));have HPut:=ab (λt ht=>pZ hD hX hE (ni hE) h hpe hok hs (eC s t) (.inr (.inl ⟨rfl,ht,hs.ag⟩)));have HD:=ab hD;have HX:=ab hX;have HE:=ab hE;have HS:=ab hs;clear h hEW hD hX hE hs hok hpe hk hL hN
 go_enter Tryz.func75,Tryz.ntmps75
 go_wp2_with fail
 refine CA.out.mono ?_;rintro e w1 ⟨x,rfl,hx,rfl⟩;by_cases hk0:k=0;rotate_left
 · have HR:=ab (show iX s ep to=k from HK.out);have HIx:=ab hx;obtain⟨ad,rfl⟩:=fK hx hk0;have HK0:=ab hk0;clear hx hk0
   go_wp2_with fail
   go_ret
   exact .inl ⟨by rw[HR.out];exact HK0.out,⟨_,rfl,by rw[HR.out];exact HIx.out⟩,HW0.out⟩
 obtain rfl:=gN hx hk0;subst hk0;have hc:=jD HK.out;have HR:=ab (show iX s ep to=0 from HK.out);clear hx HK CA;obtain⟨t,rfl⟩:∃t:Nat,to=t:=⟨to.toNat,by omega⟩;have ht:t<=4096:=by omega
 by_cases q1:(t:Int)<=(s.trimmed:Int)
 · have HQ:=ab q1
   go_wp2_with fail
   go_ret
   exact .inr (.inl ⟨HR.out,HQ.out,rfl,HW0.out⟩)
 have HQ:=ab (show(s.trimmed:Int) < (t:Int) from by omega);have HPut2:=ab (show Calls Tryz.prog 61 #[.pointer (some ⟨g,0,none⟩),.agg #[.int .i64 2,.int .i64 (t:Int),.int .i64 (s.ag:Int),.string ⟨#[]⟩]] W (je D a w FX X g p bm dev (au m) d s (eC s t)) from HPut.out t ht);clear HPut
 go_wp2_with fail
 refine HPut2.out.mono ?_;rintro e w2 ⟨rfl,hU⟩;have hlie:=HLie.out (ax (eC s t));obtain⟨ap,hap⟩:=aa (bl (au m) d (ax (eC s t)));have HAp:=ab hap;rw[hap]at hU hlie;rw[hap];obtain⟨er,no,us',d'⟩:=ap;simp only at hU hlie ⊢;clear hap HPut2;cases er with
 | some k=>
   rw[if_neg (by simp)]at hU;have U2:=ab hU;have hne:(eQ a (some k):Value)=ao (a k):=rfl;rw[hne];clear hU hlie
   go_wp2_with fail
   go_ret
   exact .inr (.inr (.inl ⟨HR.out,HQ.out,⟨k,by rw[Int.toNat_natCast,HAp.out],rfl⟩,by rw[Int.toNat_natCast,HAp.out];exact U2.out⟩))
 | none=>
   have hne:(eQ a none:Value)= .nilIface:=rfl;rw[hne];rw[if_pos rfl,qX]at hU;rcases hlie with⟨er,h1,_⟩|⟨no',dd,h1,h2,h3,h4,h5⟩|⟨_,_,h1,_⟩
   · cases h1
   rotate_left
   · cases h1
   injection h1 with _ h1;injection h1 with e1 h1;injection h1 with e2 e3;subst e1 e2 e3;obtain⟨mb,hmb⟩:=aa ((aZ m (ax (eC s t))).1);have hnum:=HNum.out (ax (eC s t));have hrec:=HRe.out (ax (eC s t)) (by rw[h2]);rw[hmb]at hU h3 hnum hrec;have HMb:=ab hmb;have HH2:=ab h2;have H3:=ab h3;have H4:=ab h4;have H5:=ab h5;obtain⟨no2,e4,_,l,z,hseg,hzn⟩:=hrec;rw[h2]at e4;have hzno:z.number=no:=by have:(no:Int)=(no2:Int):=e4;omega
   have hzle:z.number<=100000:=by have:=hnum z (by rw[hseg];simp);omega
   have U2:=ab hU;have CF:=ab (rS hU.unit ⟨ht,HS.out.ag,HS.out.gF,HS.out.ae,HS.out.once⟩);have HOk:=ab (rU (s:= { s with trimmed:=t }) ⟨ht,HS.out.ag,HS.out.gF,HS.out.ae,HS.out.once⟩);obtain⟨s',hs'⟩:=aa (cE { s with trimmed:=t });have HS':=ab hs';rw[hs']at CF HOk;have HSeg:=ab hseg;have HZn:=ab hzno;have HZl:=ab hzle;clear hU h2 h3 h4 h5 hmb hs' hseg hzno hzle e4 hzn hnum c0 c1 c2 c3;obtain⟨_,c0,c1,c2,c3,_⟩:=U2.out.unit.facts
   go_wp2_with fail
   refine CF.out.mono ?_;rintro e w3 ⟨rfl,hu,hk⟩;have U3:=ab (U2.out.own HD.out HX.out (hk.mono (λk _ h=> .inr h)) hu);have CD:=ab (Er HD.out HX.out HE.out hn U3.out H4.out H3.out HOk.out HSeg.out HZl.out);rw[HZn.out]at CD;clear hu hk c0 c1 c2 c3
   go_wp2_with fail
   refine CD.out.mono ?_;rintro e w4 hr;have HFin:=ab (show nx D a w FX X g p bm dev n m d s ep t e w4 from .inr (.inr (.inr ⟨HR.out,HQ.out,no,d',by rw[Int.toNat_natCast,HAp.out,HMb.out],by rw[Int.toNat_natCast];exact HH2.out,by rw[Int.toNat_natCast,HMb.out];exact H3.out,H4.out,H5.out,by rw[Int.toNat_natCast,HMb.out,HS'.out];exact hr⟩)));rcases hr with⟨rfl,_⟩|⟨_,rfl,_⟩
   · go_wp2_with fail
     go_ret
     exact HFin.out
   · go_wp2_with fail
     go_ret
     exact HFin.out
end
end Go.Proofs.YtiafamacjpgjoaaGreatDoor
namespace Go.Proofs.YtiafamacjpgjoaaGreatDoor
open Go Go.RowKit Go.Shelf Tide
def UD (D:aB) (w:World) (FX:Nat->Prop) (X:World->Prop) (dev:Nat) (d:Dv) (W:World):Prop:=
 ∃Fd,D W Fd dev d/\(∀k,Fd k->¬FX k/\w.heap.size<=k/\k < W.heap.size)/\(∀k,FX k->k < W.heap.size)/\Below w.heap.size w W/\X W
section
variable {D:aB} {x:Nat->Addr} {w W W':World} {FX:Nat->Prop} {X:World->Prop} {g p bm dev:Nat} {us:List ai} {d:Dv} {s:aV}
theorem UD.below (hD:ay x D) (hX:cG FX X) (h:UD D w FX X dev d W) (hb:Below W.heap.size W W'):UD D w FX X dev d W':=by obtain⟨Fd,h1,h2,h3,h4,h5⟩:=h;have hz:=hb.size;exact⟨Fd,hD.aj _ _ _ (λ_=>False) _ _ h1 (Kept.an hb) (λ_ _ h=>h),λk hk=>⟨(h2 k hk).1,(h2 k hk).2.1,Nat.lt_of_lt_of_le (h2 k hk).2.2 hz⟩,λk hk=>Nat.lt_of_lt_of_le (h3 k hk) hz,h4.trans (hb.mono h4.size),hX _ _ (λ_=>False) h5 h3 (Kept.an hb) (λ_ _ h=>h)⟩
theorem wO (hu:b9 W g p bm s) (hk:Kept (λk=>k=g\/k=bm) W W') {B:Nat} (hB:B<=W.heap.size) {v:Value} {l:List UInt8} (h:Bytes W B v l):Bytes W' B v l:=by
 obtain⟨hn,A,c,rfl,h1,h2,hc⟩:=h;refine⟨hn,A,c,rfl,h1,h2,λhx=> ?_⟩;obtain⟨b,o,e,hb,hcell⟩:=hc hx;refine⟨b,o,e,hb,λj u hu2=> ?_⟩;have h0:=hcell j u hu2;obtain⟨y,hy⟩:∃y:UInt8,u= .int .u8 (y.toNat:Int):=by have h3:=List.mem_of_getElem? hu2;unfold al at h3;obtain⟨y,_,rfl⟩:=List.mem_map.1 h3;exact⟨y,rfl⟩
 subst hy;rw[hk.cell (p:=⟨b,o+j,none⟩) (by show b < _;omega) (λe=> ?_)]
 · exact h0
 · rcases e with e|e
   · simp only at e;subst e;rw[cell_of_row _ _ _ _ _ _ hu.cells]at h0;have h9:=Array.mem_of_getElem? h0;simp at h9
   · simp only at e;subst e;obtain⟨D,⟨es,clock,k1,_⟩,_⟩:=hu.map;unfold World.cell? at h0;rw[show W.heap[(⟨b,o+j,none⟩:Addr).block]? =_ from k1]at h0;simp at h0
theorem Bq (hu:b9 W g p bm s) (hk:Kept (λk=>k=g\/k=bm) W W') {B:Nat} (hB:B<=W.heap.size) {v:Value} {l:List (List UInt8)} (h:dX W B v l):dX W' B v l:=by
 obtain⟨vs,⟨hn,A,c,rfl,h1,h2,hc⟩,hlen,h3⟩:=h;refine⟨vs,⟨hn,A,c,rfl,h1,h2,λhx=> ?_⟩,hlen,λi u q hu2 hq=>wO hu hk hB (h3 i u q hu2 hq)⟩;obtain⟨b,o,e,hb,hcell⟩:=hc hx;refine⟨b,o,e,hb,λj u hu2=> ?_⟩;have h0:=hcell j u hu2;have hj:j < l.length:=by rw[<-hlen];exact(List.getElem?_eq_some_iff.1 hu2).1
 obtain⟨A',c',rfl,_⟩:=(h3 j u l[j] hu2 (List.getElem?_eq_getElem hj)).form;rw[hk.cell (p:=⟨b,o+j,none⟩) (by show b < _;omega) (λe=> ?_)]
 · exact h0
 · rcases e with e|e
   · simp only at e;subst e;rw[cell_of_row _ _ _ _ _ _ hu.cells]at h0;have h9:=Array.mem_of_getElem? h0;simp at h9
   · simp only at e;subst e;obtain⟨D,⟨es,clock,k1,_⟩,_⟩:=hu.map;unfold World.cell? at h0;rw[show W.heap[(⟨b,o+j,none⟩:Addr).block]? =_ from k1]at h0;simp at h0
theorem Dc (a:Nat->Addr) (W:World) (v:Value) (B:Nat) (r:bh) (hg:fQ r) (hn:gU r) (hE:av W a) (hv:Bytes W B v (ax r)) (hB:B<=W.heap.size):
 Calls Tryz.prog 80 #[v] W λe w'=>e= .returned (.tuple #[mP r,.nilIface])/\Below W.heap.size W w':=by
 have hlen:=rC hg;obtain⟨kind,af,ep,aK⟩:=r;rcases hg with⟨h1,h2,h3,h4⟩|⟨h1,h2,h3⟩|⟨h1,h2⟩
 · simp only at h1 h2 h3 h4;subst h1;have he:ep=0:=hn.1 rfl;subst he;exact Ex a W v B af ⟨aK.toArray⟩ h2 h3 h4 hE _ (by unfold ax eB;simp;rfl) (by omega) hv hB
 · simp only at h1 h2 h3;subst h1;have hp:aK= []:=hn.2.1 (show ¬(2:Nat)=1 by decide);subst hp;exact Ey a W v B af ep h2 h3 hE _ (by unfold ax;simp) (by omega) hv hB
 · simp only at h1 h2;subst h1;have hp:aK= []:=hn.2.1 (show ¬(3:Nat)=1 by decide);have ha:af=0:=hn.2.2 rfl;subst hp ha;exact Ez a W v B ep h2 hE _ (by unfold ax;simp) (by omega) hv hB
end
def ew (b:List UInt8):bh:=(pb b).getD ⟨0,0,0, []⟩
def ee (gs:List aF):List (bh × Nat):=gs.flatMap λg=>g.aE.map λb=>(ew b,g.number)
def nw (m:aC):Prop:=∀g ∈ m.ae,∀b ∈ g.aE,fQ (ew b)/\gU (ew b)/\ax (ew b)=b
theorem ri {r:bh} (hg:fQ r) (hn:gU r):ew (ax r)=r:=by unfold ew;rw[Ce hg hn];rfl
theorem Cn (gs:List aF):ee gs=(bW gs).map λx=>(ew x.1,x.2):=by
 unfold ee bW;rw[List.map_flatMap]
 congr 1
 funext g;rw[List.map_map];rfl
theorem Cj {gs:List aF} {l:List (bh × Nat)} (h:bW gs=l.map λx=>(ax x.1,x.2)) (hg:∀x ∈ l,fQ x.1) (hn:∀x ∈ l,gU x.1):ee gs=l:=by
 rw[Cn,h,List.map_map]
 conv=>rhs;rw[<-List.map_id l]
 apply List.map_congr_left;intro x hx;show(ew (ax x.1),x.2)=x;rw[ri (hg x hx) (hn x hx)]
theorem CV {m:aC} {l:List (bh × Nat)} (h:bW m.ae=l.map λx=>(ax x.1,x.2)) (hg:∀x ∈ l,fQ x.1) (hn:∀x ∈ l,gU x.1):nw m:=λg hgm b hb=>by
 have h1:(b,g.number) ∈ bW m.ae:=by unfold bW;exact List.mem_flatMap.2 ⟨g,hgm,List.mem_map.2 ⟨b,hb,rfl⟩⟩
 rw[h]at h1;obtain⟨x,hx,he⟩:=List.mem_map.1 h1;injection he with e1 e2;rw[<-e1,ri (hg x hx) (hn x hx)];exact⟨hg x hx,hn x hx,rfl⟩
theorem Cl (gs:List aF) (g:aF):ee (gs ++ [g])=ee gs ++ g.aE.map λb=>(ew b,g.number):=by unfold ee;rw[List.flatMap_append];simp
theorem xr {s:aV} (h:eZ s) {r:bh} (hr:fQ r) {g:Nat} (hg:g<=100000):eZ (cH s r g):=by
 unfold cH;by_cases hk:r.kind=1
 · rw[if_pos hk];cases hh:dm s r.af with
   | true=>exact h
   | false=>
     rw[if_neg (by decide)];have ha:r.af<=4095:=by
      rcases hr with⟨_,h2,_⟩|⟨h1,_⟩|⟨h1,_⟩
      · exact h2
      · omega
      · omega
     refine⟨h.trimmed,h.ag,λq hq=> ?_,λq hq=> ?_,?_⟩
     · rcases List.mem_append.1 hq with hq|hq
       · exact h.gF q hq
       · simp only[List.mem_singleton]at hq;subst hq;exact ha
     · rcases List.mem_append.1 hq with hq|hq
       · exact h.ae q hq
       · simp only[List.mem_singleton]at hq;subst hq;exact hg
     · simp only[List.map_append,List.map_cons,List.map_nil];rw[List.nodup_append];refine⟨h.once,by simp,λx hx y hy e=> ?_⟩;obtain⟨q,hq,rfl⟩:=List.mem_map.1 hx;simp only[List.mem_singleton]at hy;unfold dm at hh;rw[List.any_eq_false]at hh;exact hh q hq (by simp[e,hy])
 · rw[if_neg hk];split
   · rename_i h2;have:r.af<=4096/\r.ep<=1073741824:=by
      rcases hr with⟨h1,_⟩|⟨_,h3,h4⟩|⟨h1,_⟩
      · omega
      · exact⟨h3,h4⟩
      · omega
     exact⟨this.1,this.2,h.gF,h.ae,h.once⟩
   · rename_i h2;have:r.ep<=1073741824:=by
      rcases hr with⟨h1,_⟩|⟨h1,_⟩|⟨_,h3⟩
      · omega
      · omega
      · exact h3
     exact⟨h.trimmed,this,h.gF,h.ae,h.once⟩
theorem pk:∀ (l:List (bh × Nat)),(∀x ∈ l,fQ x.1/\x.2<=100000)->eZ (dw l):=by refine uA _ (λ_=>⟨Nat.zero_le _,Nat.zero_le _,λq hq=>(by cases hq),λq hq=>(by cases hq),List.nodup_nil⟩) λl x ih h=> ?_;rw[jN];exact xr (ih λy hy=>h y (by simp[hy])) (h x (by simp)).1 (h x (by simp)).2
end Go.Proofs.YtiafamacjpgjoaaGreatDoor
namespace Go.Proofs.YtiafamacjpgjoaaGreatDoor
open Go Go.RowKit Go.Shelf Tide
section
variable {D:aB} {a:Nat->Addr} {w W:World} {FX:Nat->Prop} {X:World->Prop} {dev n N:Nat} {d:Dv} {m:aC}
theorem US.made {x:Nat->Addr} {us:List ai} {w1:World} {Fd Fs:Nat->Prop} {p:Nat} {vs:Value} (hD:ay x D) (hX:cG FX X) (hU:UD D w FX X dev d w1) (hd:D w1 Fd dev d) (h2:∀k,Fd k->¬FX k/\w.heap.size<=k/\k < W.heap.size) (h3:∀k,FX k->k < W.heap.size) (hs:a7 w1 Fs p dev us vs) (hf:∀k,Fs k->W.heap.size<=k) (hb:Below W.heap.size W w1) (hW:w.heap.size<=W.heap.size):
 US D w FX X (w1.heap.size+1) p w1.heap.size dev us d ⟨[],0,0⟩ ((w1.alloc (.map #[] 0)).alloc (.cells #[.pointer (some ⟨p,0,none⟩),.map (some w1.heap.size),.int .i64 0,.int .i64 0] 112)):=by
 have hz:=hb.size;have hlt:=hD.lt _ _ _ _ hd;have hlt2:=hs.lt;obtain⟨W2,hW2⟩:=aa (w1.alloc (.map #[] 0));have hb1:Below w1.heap.size w1 W2:=by rw[<-hW2];exact(Below.refl _ _).alloc (Nat.le_refl _) _
 have hz2:W2.heap.size=w1.heap.size+1:=by rw[<-hW2,World.size_alloc]
 have hmap:fa W2 w1.heap.size []:=by rw[<-hW2];exact⟨.map [],oN (World.ownsMap_made w1 Tryz.prog 3 gw),gD.nil⟩
 rw[hW2];clear hW2;have hb2:=(Below.refl W2.heap.size W2).alloc (Nat.le_refl _) (.cells #[.pointer (some ⟨p,0,none⟩),.map (some w1.heap.size),.int .i64 0,.int .i64 0] 112);have hnew:=heap_alloc_new W2 (.cells #[.pointer (some ⟨p,0,none⟩),.map (some w1.heap.size),.int .i64 0,.int .i64 0] 112);have hz3:(W2.alloc (.cells #[.pointer (some ⟨p,0,none⟩),.map (some w1.heap.size),.int .i64 0,.int .i64 0] 112)).heap.size=W2.heap.size+1:=World.size_alloc _ _;generalize W2.alloc (.cells #[.pointer (some ⟨p,0,none⟩),.map (some w1.heap.size),.int .i64 0,.int .i64 0] 112)=W3 at hb2 hnew hz3 ⊢;have hb3:Below w1.heap.size w1 W3:=hb1.trans (hb2.mono (by omega));have hx:=(hU.below hD hX hb3);obtain⟨_,_,_,_,hsin,hxw⟩:=hx;refine⟨Fd,Fs,vs,hD.aj _ _ _ (λ_=>False) _ _ hd (Kept.an hb3) (λ_ _ h=>h),hs.below hb3,⟨by rw[<-hz2];exact hnew,hmap.kept (F:=λ_=>False) (Kept.an hb2) (λh=>h)⟩,λk h4 h5=> ?_,⟨λh=> ?_,λh=> ?_⟩,λk hk=> ?_,λk hk=> ?_,hsin,hxw⟩
 · have:=(h2 k h4).2.2;have:=hf k h5;omega
 · rcases h with h|h
   · have:=hlt _ h;omega
   · have:=hlt2 _ h;omega
 · rcases h with h|h
   · have:=hlt _ h;omega
   · have:=hlt2 _ h;omega
 · rcases hk with hk|hk|hk|hk
   · have:=h2 k hk;exact⟨this.1,this.2.1,by omega⟩
   · have h4:=hf k hk;exact⟨λh=>by have:=h3 k h;omega,by omega,by have:=hlt2 k hk;omega⟩
   · exact⟨λh=>by have:=h3 k h;omega,by omega,by omega⟩
   · exact⟨λh=>by have:=h3 k h;omega,by omega,by omega⟩
 · have:=h3 k hk;omega
theorem Cm {gs:List aF} {i j:Nat} {g:aF} {b:List UInt8} (hj:g.aE[j]? =some b):
 dw (ee (gs.take i) ++ (g.aE.take (j+1)).map λb=>(ew b,g.number))=cH (dw (ee (gs.take i) ++ (g.aE.take j).map λb=>(ew b,g.number))) (ew b) g.number:=by
 rw[List.take_add_one,hj];simp only[Option.toList_some,List.map_append,List.map_cons,List.map_nil];rw[<-List.append_assoc,jN]
theorem Ck {gs:List aF} {i:Nat} {g:aF} (hi:gs[i]? =some g):ee (gs.take (i+1))=ee (gs.take i) ++ g.aE.map λb=>(ew b,g.number):=by rw[List.take_add_one,hi];simp only[Option.toList_some];rw[Cl]
theorem Co {n:Nat} {im:List UInt8} {m:aC} (h:aM n im m) {i:Nat} (hi:i < m.ae.length):jt im (au m) ((m.ae[i]).number:Int)=(m.ae[i]).aE:=by
 rw[Cq h];unfold pg;rcases nS h.wf ((m.ae[i]).number:Int) with⟨h1,_⟩|⟨k,hk,h0,_,_,h1,_⟩
 · exact absurd rfl (h1 _ (List.getElem_mem hi))
 · rw[h1];have h2:=List.pairwise_iff_getElem.1 h.wf.ga;have:k=i:=by
    rcases Nat.lt_trichotomy k i with h3|h3|h3
    · have:=h2 k i (by simpa using hk) (by simpa using hi) h3;rw[List.getElem_map,List.getElem_map]at this;omega
    · exact h3
    · have:=h2 i k (by simpa using hi) (by simpa using hk) h3;rw[List.getElem_map,List.getElem_map]at this;omega
   subst this;rfl
theorem Bp {N:Nat} {m:aC} (hR:nw m) (hN:cY N m) (hNl:N<=100000) {i j:Nat} {g:aF} (hi:m.ae[i]? =some g):eZ (dw (ee (m.ae.take i) ++ (g.aE.take j).map λb=>(ew b,g.number))):=by
 have hg:g ∈ m.ae:=List.mem_of_getElem? hi;refine pk _ (λx hx=> ?_);rcases List.mem_append.1 hx with hx|hx
 · unfold ee at hx;obtain⟨y,hy,hx⟩:=List.mem_flatMap.1 hx;obtain⟨b,hb,rfl⟩:=List.mem_map.1 hx;have hym:=List.mem_of_mem_take hy;exact⟨(hR y hym b hb).1,by have:=hN y hym;simp only;omega⟩
 · obtain⟨b,hb,rfl⟩:=List.mem_map.1 hx;exact⟨(hR g hg b (List.mem_of_mem_take hb)).1,by have:=hN g hg;simp only;omega⟩
theorem Ev (hD:ay (three a) D) (hX:cG FX X) (hE:av w a) (h:UD D w FX X dev d W) (hpe:d.ar= []) (hL:aM n d.img m) (hn:64<=n) (hn2:n<=1000) (hN:cY N m) (hNl:N<=100000) (hR:nw m):
 Calls Tryz.prog 42 #[.pointer (some ⟨dev,0,none⟩)] W λe w'=>∃g p bm,e= .returned (.tuple #[.pointer (some ⟨g,0,none⟩),.nilIface])/\US D w FX X g p bm dev (au m) d (cE (dw (ee m.ae))) w':=by
 have HL:=ab hL;have HN:=ab hN;have HR:=ab hR;have HD:=ab hD;have HX:=ab hX;have HE:=ab hE;have HU:=ab h;have hul:(au m).length<=1000:=by rw[fN];have:=lJ hL.wf;have:=hL.places;omega
 have HUl:=ab hul;have HPe:=ab hpe;have HF:=ab (show ∀u ∈ au m,u.first+64<=d.img.length / 64 from λu hu=>by obtain⟨y,hy,rfl⟩:=List.mem_map.1 hu;have:=hL.on hy;have:=hL.len;simp only;omega);obtain⟨Fd,h1,h2,h3,h4,h5⟩:=h;have CO:=ab (AS hD h1 hpe hL hn hn2 (λg hg=>by have:=hN g hg;omega));have H2:=ab h2;have hlt:=ab (hD.lt _ _ _ _ h1);have H3:=ab h3;have H4:=ab h4.size;have hmm:= @run_makeMap Tryz.prog;clear h1 h2 h3 h4 h5 hL hN hR hD hX hE hpe hul
 go_enter Tryz.func42,Tryz.ntmps42
 go_wp2_with fail
 refine CO.out.mono ?_;rintro e w1 ⟨p,Fs,vs,rfl,hd1,hs1,hf1,hb1⟩;have U1:=ab (HU.out.below HD.out HX.out hb1);have HD1:=ab hd1;have HS1:=ab hs1;have HF1:=ab hf1;have HB1:=ab hb1;have U2:=ab (US.made HD.out HX.out U1.out hd1 H2.out H3.out hs1 hf1 hb1 H4.out);clear hd1 hs1 hf1 hb1 CO U1 HD1 HS1 HF1 HB1 H2 hlt HU H3 H4;have hz2:((w1.alloc (.map #[] 0)).alloc (.cells #[.pointer (some ⟨p,0,none⟩),.map (some w1.heap.size),.int .i64 0,.int .i64 0] 112)).heap.size=w1.heap.size+2:=by rw[World.size_alloc,World.size_alloc]
 have CS:=ab (by obtain⟨Fd,Fs,vs,h1,h2,_⟩:=U2.out;exact uk h2 HUl.out)
 go_wp2_with fail
 refine CS.out.mono ?_;rintro e w3 ⟨v,rfl,hv,hb3⟩;have U3:=ab (U2.out.row HD.out HX.out hb3 hv);have HX3:=ab (λS rb cv=>HX.out.row ((w1.alloc (.map #[] 0)).alloc (.cells #[.pointer (some ⟨p,0,none⟩),.map (some w1.heap.size),.int .i64 0,.int .i64 0] 112)).heap.size 3 1 (.slice rb S cv) S ((au m).map λu=> .int .i64 (u.no:Int)));clear hb3 hv U2 CS;rw[hz2]at U3 HX3;generalize w1.heap.size=G at *;clear hz2;obtain⟨S,hS⟩:=aa m.ae.length;have hS':(au m).length=S:=by rw[fN,hS]
 have HS:=ab hS;have HSl:=ab hS';obtain⟨Av,cv,rfl⟩:∃Av cv,v= .slice Av S cv:=by
  rcases U3.out.gY.2.2 with⟨h1,h2⟩|⟨gg,cap,_,h1,_⟩
  · exact⟨none,0,by rw[h1,<-hS',h2]⟩
  · exact⟨_,cap,by rw[h1,hS']⟩
 have U3:=ab (by have:=U3.out;rw[hS']at this;exact this);have HX3:=ab (HX3.out S Av cv);have HNo:=ab (show ∀ (j:Nat) (h:j < m.ae.length),((au m).map λu=>Value.int .i64 (u.no:Int))[j]? =some (.int .i64 ((m.ae[j]).number:Int)) from λj h=>by rw[List.getElem?_map];unfold au;rw[List.getElem?_map,List.getElem?_eq_getElem h];rfl);have HLess:=ab (λ(us:List ai) (d:Dv) (s:aV) (Y:World) (hu:US D w (λk=>FX k\/(Value.slice Av S cv).ownBlock=some k) (λY=>X Y/\Y.ownsRow (G+2) 3 1 (.slice Av S cv) S ((au m).map λu=> .int .i64 (u.no:Int))) (G+1) p G dev us d s Y)=>(show US D w FX X (G+1) p G dev us d s Y from hu.less (λ_ h=> .inl h) (λ_ h=>h.1)));have HRow:=ab (λ(us:List ai) (d:Dv) (s:aV) (Y:World) (hu:US D w (λk=>FX k\/(Value.slice Av S cv).ownBlock=some k) (λY=>X Y/\Y.ownsRow (G+2) 3 1 (.slice Av S cv) S ((au m).map λu=> .int .i64 (u.no:Int))) (G+1) p G dev us d s Y) (j:Nat) (hj:j < S)=>(show ∃rb,Av=some ⟨rb,0,none⟩/\Y.cell? ⟨rb,j,none⟩=((au m).map λu=>Value.int .i64 (u.no:Int))[j]? from by
  have h0:=hu.gY.2;rcases h0.2 with⟨h1,h2⟩|⟨gg,cap,_,h1,_⟩
  · omega
  · injection h1 with h1;subst h1;exact⟨gg,rfl,h0.cellAt j (by omega)⟩))
 generalize hFX:(λk=>FX k\/(Value.slice Av S cv).ownBlock=some k)=FR at *;generalize hXR:(λY:World=>X Y/\Y.ownsRow (G+2) 3 1 (.slice Av S cv) S ((au m).map λu=> .int .i64 (u.no:Int)))=XR at *;clear hFX hXR;have U3':=ab (show US D w FR XR (G+1) p G dev (au m) d (dw (ee (m.ae.take 0))) w3 from U3.out);clear U3 hS hS'
 go_wp2_with fail
 go_loopw [28] (λi w4=>∃k:Nat,i= .int .i64 (k:Int)/\k<=S/\Hid (US D w FR XR (G+1) p G dev (au m) d (dw (ee (m.ae.take k))) w4)) (λi _=>S - (intOf i).toNat)
 case atStart=>exact⟨0,rfl,Nat.zero_le _,U3'⟩
 case round=>
  clear U3';obtain⟨i,rfl,hi,U4⟩:=hrel;have hSm:S<=1000:=by have:=HUl.out;rw[HSl.out]at this;exact this
  by_cases his:i < S;rotate_left
  · have HEnd:=ab (show m.ae.take i=m.ae from List.take_of_length_le (by have:=HS.out;omega));rw[HEnd.out]at U4;have CF:=ab (rS U4.out.unit (pk _ (λx hx=>by unfold ee at hx;obtain⟨y,hy,hx⟩:=List.mem_flatMap.1 hx;obtain⟨b,hb,rfl⟩:=List.mem_map.1 hx;exact⟨(HR.out y hy b hb).1,by have:=HN.out y hy;simp only;omega⟩)))
    go_wp2_with fail
    refine CF.out.mono ?_;rintro e w5 ⟨rfl,hu,hk⟩;have U5:=ab (HLess.out _ _ _ _ (U4.out.own HD.out HX3.out (hk.mono (λk _ h=> .inr h)) hu));clear hu hk
    go_wp2_with fail
    go_ret2
    exact⟨G+1,p,G,rfl,U5.out⟩
  have hil:i < m.ae.length:=by rw[HS.out];exact his
  obtain⟨rb,rfl,er⟩:=HRow.out _ _ _ _ U4.out i his;rw[HNo.out i hil]at er;obtain⟨gs,hgs⟩:=aa (m.ae[i]);have HGi:=ab (show m.ae[i]? =some gs from by rw[List.getElem?_eq_getElem hil,hgs]);have HGm:=ab (show gs ∈ m.ae from by rw[<-hgs];exact List.getElem_mem hil);have CR:=ab (by obtain⟨Fd,Fs,vs,h1,h2,_⟩:=U4.out;have:=Ci HD.out h1 h2 HUl.out HF.out (gs.number:Int);rw[show aR d.img d.ar=d.img from by rw[HPe.out];rfl,<-hgs,Co HL.out hil,hgs]at this;exact this);rw[hgs]at er;clear hgs hil
  go_wp2_with fail
  refine CR.out.mono ?_;rintro e w5 ⟨vr,rfl,hpar,hb5⟩;have U5:=ab (U4.out.below HD.out HX3.out hb5);obtain⟨B,hB⟩:=aa w5.heap.size;rw[hB]at hpar;have HP5:=ab hpar;have HB5:=ab (Nat.le_of_eq hB.symm);obtain⟨hRl,A,cr,rfl,_⟩:=hpar.form;obtain⟨R,hR⟩:=aa gs.aE.length;have HRl:=ab hR;rw[hR]at hRl HP5;rw[hR];have U5':=ab (show US D w FR XR (G+1) p G dev (au m) d (dw (ee (m.ae.take i) ++ (gs.aE.take 0).map λb=>(ew b,gs.number))) w5 from by rw[List.take_zero,List.map_nil,List.append_nil];exact U5.out);clear hpar hb5 hB hR U5 U4 CR er
  go_wp2_with fail
  go_loopw [36] (λt w6=>∃k:Nat,t= .int .i64 (k:Int)/\k<=R/\Hid (US D w FR XR (G+1) p G dev (au m) d (dw (ee (m.ae.take i) ++ (gs.aE.take k).map λb=>(ew b,gs.number))) w6)/\Hid (dX w6 B (.slice A R cr) gs.aE)/\Hid (B<=w6.heap.size)) (λt _=>R - (intOf t).toNat)
  case atStart=>exact⟨0,rfl,Nat.zero_le _,U5',HP5,HB5⟩
  case round=>
   clear U5' HP5 HB5;obtain⟨j,rfl,hj,U6,HP6,HB6⟩:=hrel;by_cases hjr:j < R;rotate_left
   · have hjR:j=R:=by omega
     subst hjR;have U7:=ab (show US D w FR XR (G+1) p G dev (au m) d (dw (ee (m.ae.take (i+1)))) wr from by have:=U6.out;rw[show gs.aE.take j=gs.aE from List.take_of_length_le (by have:=HRl.out;omega)]at this;rw[Ck HGi.out];exact this);clear U6 HP6 HB6
     go_wp2_with fail
     go_roundw
     case rel=>exact⟨i+1,by go_num,by omega,U7⟩
     case measure=>simp only[intOf];omega
   have hjl:j < gs.aE.length:=by rw[HRl.out];exact hjr
   obtain⟨_,A',c',he,hfm⟩:=HP6.out.form;injection he with e1 e2 e3;obtain⟨bb,oo,u,hA,hc6,hby⟩:=hfm j hjl;rw[<-e1]at hA;subst hA;clear e1 e2 e3 hfm;obtain⟨b,hbe⟩:=aa (gs.aE[j]);have HJ:=ab (show gs.aE[j]? =some b from by rw[List.getElem?_eq_getElem hjl,hbe]);have hbm:b ∈ gs.aE:=by rw[<-hbe];exact List.getElem_mem hjl
   rw[hbe]at hby;have hri:=HR.out gs HGm.out b hbm;have CB:=ab (by have:=hby;rw[<-hri.2.2]at this;exact Dc a wr u B (ew b) hri.1 hri.2.1 (HE.out.below U6.out.since) this HB6.out);have HGo:=ab hri.1;clear hby hri hbe hbm
   go_wp2_with fail
   refine CB.out.mono ?_;rintro e w7 ⟨rfl,hb7⟩;have U7:=ab (U6.out.below HD.out HX3.out hb7);have HP7:=ab (HP6.out.below (hb7.mono HB6.out));have HB7:=ab (Nat.le_trans HB6.out hb7.size);clear hb7 CB U6 HP6 HB6 hc6;obtain⟨r,hr⟩:=aa (ew b);have HRr:=ab hr;rw[hr]at HGo;rw[hr];have hba:=(Below.refl w7.heap.size w7).alloc (Nat.le_refl _) (.cells #[.int .i64 (r.kind:Int),.int .i64 (r.af:Int),.int .i64 (r.ep:Int),.string ⟨r.aK.toArray⟩] 115);obtain⟨_,c0,c1,c2,c3⟩:=cW (heap_alloc_new w7 (.cells #[.int .i64 (r.kind:Int),.int .i64 (r.af:Int),.int .i64 (r.ep:Int),.string ⟨r.aK.toArray⟩] 115));have U8:=ab (U7.out.below HD.out HX3.out hba);have HP8:=ab (HP7.out.below (hba.mono HB7.out));have HB8:=ab (Nat.le_trans HB7.out hba.size);clear hba hr;have CC:=ab (qW U8.out.unit (Bp HR.out HN.out hNl HGi.out) r HGo.out gs.number);have HW:=ab (show(w7.alloc (.cells #[.int .i64 (r.kind:Int),.int .i64 (r.af:Int),.int .i64 (r.ep:Int),.string ⟨r.aK.toArray⟩] 115)).heap.size=w7.heap.size+1 from World.size_alloc _ _)
   go_wp2_with fail
   refine CC.out.mono ?_;rintro e w9 ⟨rfl,hu,hk⟩;have U9:=ab (show US D w FR XR (G+1) p G dev (au m) d (dw (ee (m.ae.take i) ++ (gs.aE.take (j+1)).map λb=>(ew b,gs.number))) w9 from by have:=U8.out.own HD.out HX3.out hk hu;rw[Cm HJ.out,HRr.out];exact this);have HP9:=ab (Bq U8.out.unit hk HB8.out HP8.out);have HB9:=ab (Nat.le_trans HB8.out hk.size);clear hu hk U7 HP7 HB7 U8 HP8 HB8 HW c0 c1 c2 c3 CC;have hRm:R<=1000:=by have h1:=(HL.out.wf.aE gs HGm.out);have:=uI gs.aE;have:=HRl.out;have:=h1.2.1;omega
   go_wp2_with fail
   go_roundw
   case rel=>exact⟨j+1,by go_num,by omega,U9,HP9,HB9⟩
   case measure=>simp only[intOf];omega
end
end Go.Proofs.YtiafamacjpgjoaaGreatDoor
namespace Go.Proofs.YtiafamacjpgjoaaGreatDoor
open Go Go.RowKit Go.Shelf Tide
def fR (l:List (bh × Nat)):Prop:=∀x ∈ l,gU x.1
def lN (u:ah) (m:aC):Prop:=∃s l,Holds { u with store:=m } s l/\fR l
theorem od {u:ah} {s:aV} {l:List (bh × Nat)} (h:Holds u s l) (hn:fR l):lN u u.store:=⟨s,l,h,hn⟩
theorem fR.snoc {l:List (bh × Nat)} (h:fR l) {r:bh} (hr:gU r) (g:Nat):fR (l ++ [(r,g)]):=λx hx=>by
 rcases List.mem_append.1 hx with hx|hx
 · exact h x hx
 · simp only[List.mem_singleton]at hx;subst hx;exact hr
theorem sn {u:ah} {s:aV} {l:List (bh × Nat)} (h:Holds u s l) {t:aC} (ht:de u.store=some t):Holds { u with store:=t } s l where
 wf:=pR h.wf ht
 aE:=by
  have hts:∃P N,t.ae=u.store.ae ++ [⟨P,N,0, []⟩]:=by
   unfold de at ht;split at ht
   · cases ht
   · injection ht with ht;exact⟨_,_,by rw[<-ht]⟩
  obtain⟨P,N,hts⟩:=hts;show bW t.ae=_;rw[hts,tL];exact h.aE
 fu:=h.fu
 apart:=h.apart
 state:=h.state
 trimmed:=h.trimmed
 ag:=h.ag
 aD:=h.aD
 once:=h.once
 low:=h.low
 top:=h.top
theorem lg {u:ah} {s:aV} {l:List (bh × Nat)} (h:Holds u s l) {N:Nat} (hN:cY N u.store) (hNl:N<=100000):eZ s:=by
 rw[<-h.state];refine rU (pk l (λx hx=>⟨h.fu x hx,?_⟩));have h1:(ax x.1,x.2) ∈ bW u.store.ae:=by rw[h.aE];exact List.mem_map.2 ⟨x,hx,rfl⟩
 unfold bW at h1;obtain⟨g,hg,h2⟩:=List.mem_flatMap.1 h1;obtain⟨b,_,h3⟩:=List.mem_map.1 h2;injection h3 with _ h3;have:=hN g hg;omega
def iH (D:aB) (a:Nat->Addr) (w:World) (FX:Nat->Prop) (X:World->Prop) (g p bm dev n N:Nat) (u ub:ah) (r:Nat) (d:Dv) (x:Value) (w':World):Prop:=
 (bE a x r/\∃d' s' l',d'.ar= []/\(d.stop=none->d'.stop=none)/\aM n d'.img ub.store/\Holds ub s' l'/\fR l'/\cY (N+1) ub.store/\US D w FX X g p bm dev (au ub.store) d' s' w')\/
 (d.stop≠none/\bE a x 12/\∃us' s' d',d'.img.length=64 * n/\ja n d' (λim=>∃m',aM n im m'/\cY (N+1) m'/\(lN u m'\/lN ub m'))/\US D w FX X g p bm dev us' d' s' w')
section
variable {u:ah} {s:aV} {l:List (bh × Nat)}
theorem EH (h:Holds u s l) {ep a:Int} {b:List UInt8} (hw:ef s ep a b≠0):aT u ep a b=(u,ef s ep a b):=by
 unfold ef at hw ⊢;unfold aT;rw[h.ag,h.trimmed]at hw;rw[h.ag,h.trimmed];by_cases h1:bG u.ag ep a 4095≠0
 · rw[if_pos h1,if_pos h1]
 rw[if_neg h1]at hw ⊢;rw[if_neg h1];by_cases h2:b.length < 1\/2048 < b.length
 · rw[if_pos h2,if_pos h2]
 rw[if_neg h2]at hw ⊢;rw[if_neg h2];by_cases h3:a < (u.trimmed:Int)
 · rw[if_pos h3,if_pos h3]
 rw[if_neg h3]at hw ⊢;rw[if_neg h3];have hc:=jD (show bG u.ag ep a 4095=0 by omega);have hh:=h.rZ a.toNat;rw[Int.toNat_of_nonneg hc.2.2.1]at hh;rw[hh]at hw ⊢;cases hd:gJ u a with
 | true=>rw[if_pos rfl,if_pos rfl]
 | false=>rw[hd]at hw;exact absurd rfl hw
theorem EI (h:Holds u s l) {ep a:Int} {b:List UInt8} (hw:ef s ep a b=0):(0<=a/\a<=4095/\u.trimmed<=a.toNat/\dm s a.toNat=false/\1<=b.length/\b.length<=2048)/\
 aT u ep a b=if(aA u ⟨1,a.toNat,0,b⟩).2.2≠0 then({ u with store:=(aA u ⟨1,a.toNat,0,b⟩).1 },(aA u ⟨1,a.toNat,0,b⟩).2.2.toNat)
  else({ u with store:=(aA u ⟨1,a.toNat,0,b⟩).1,rows:=u.rows ++ [⟨a.toNat,b,(aA u ⟨1,a.toNat,0,b⟩).2.1.toNat⟩],top:=max u.top (a.toNat+1) },0):=by
 unfold ef at hw;unfold aT;rw[h.ag,h.trimmed]at hw;by_cases h1:bG u.ag ep a 4095≠0
 · rw[if_pos h1]at hw;exact absurd hw h1
 rw[if_neg h1]at hw ⊢;by_cases h2:b.length < 1\/2048 < b.length
 · rw[if_pos h2]at hw;cases hw
 rw[if_neg h2]at hw ⊢;by_cases h3:a < (u.trimmed:Int)
 · rw[if_pos h3]at hw;cases hw
 rw[if_neg h3]at hw ⊢;have hc:=jD (show bG u.ag ep a 4095=0 by omega);have hh:=h.rZ a.toNat;rw[Int.toNat_of_nonneg hc.2.2.1]at hh;cases hd:gJ u a with
 | true=>rw[hh,hd]at hw;cases hw
 | false=>rw[hd]at hh;refine⟨⟨hc.2.2.1,hc.2.2.2,by omega,hh,by omega,by omega⟩,?_⟩;rw[if_neg (by decide)]
def cB (u:ah) (ep:Int):ah × Int × Nat:=
 if ep < 0\/1073741824 < ep then(u,0,14) else if ep < u.ag then(u,0,8)
 else if(u.ag:Int) < ep then
  if(aA u ⟨3,0,ep.toNat, []⟩).2.2≠0 then({ u with store:=(aA u ⟨3,0,ep.toNat, []⟩).1 },0,(aA u ⟨3,0,ep.toNat, []⟩).2.2.toNat)
  else({ u with store:=(aA u ⟨3,0,ep.toNat, []⟩).1,ag:=ep.toNat },(max u.top u.trimmed:Nat),0)
 else(u,(max u.top u.trimmed:Nat),0)
def bS (u:ah) (ep to:Int):ah × Nat:=
 if bG u.ag ep to 4096≠0 then(u,bG u.ag ep to 4096)
 else if to<=u.trimmed then(u,0)
 else if(aA u ⟨2,to.toNat,u.ag, []⟩).2.2≠0 then({ u with store:=(aA u ⟨2,to.toNat,u.ag, []⟩).1 },(aA u ⟨2,to.toNat,u.ag, []⟩).2.2.toNat)
 else({ u with store:=dA (fx u.rows to.toNat (aA u ⟨2,to.toNat,u.ag, []⟩).2.1.toNat) (aA u ⟨2,to.toNat,u.ag, []⟩).1,trimmed:=to.toNat },0)
theorem mN (r:bh) (h:(aA u r).2.2≠0):({ u with store:=(aA u r).1 }:ah)=u:=by have:=wb (m:=u.store) (b:=ax r) h;show({ u with store:=(aZ u.store (ax r)).1 }:ah)=u;rw[this]
theorem BI (r:bh):0<=(aA u r).2.2:=by
 show 0<=(aZ u.store (ax r)).2.2;unfold aZ;split
 · simp
 · split
   · simp
   · cases de u.store with
     | none=>simp
     | some t=>simp
end
section
variable {D:aB} {a:Nat->Addr} {w W:World} {FX:Nat->Prop} {X:World->Prop} {g p bm dev n N:Nat} {d:Dv} {s:aV} {u:ah} {l:List (bh × Nat)}
theorem qH {m:aC} (h:aM n d.img m) (b:List UInt8) (h11:(bl (au m) d b).1=some 11):(aZ m b).2.2=0:=by
 have hpl:d.img.length / 64 / 64=m.places:=by have:=h.len;have:=h.places;omega
 unfold bl at h11;unfold aZ;by_cases hb:b.length < 1\/3968 < b.length
 · rw[if_pos hb]at h11;cases h11
 rw[if_neg hb]at h11 ⊢;rw[rP,hpl]at h11;cases hf:dN m.ae b.length with
 | true=>rfl
 | false=>
   rw[hf,if_neg (by decide)]at h11;rcases uM m with⟨h1,h2⟩|⟨k,r,h1,h2,_⟩
   · rw[h1]at h11;cases h11
   · rw[h2];rfl
theorem tJ (hL:aM n d.img u.store) (hN:cY N u.store) (hNl:N<=90000) (hpe:d.ar= []) (h:Holds u s l) (hnl:fR l) (r:bh) (hnr:gU r) (ub:ah)
 (hub:(aA u r).2.2=0->∃no:Nat,(aA u r).2.1=(no:Int)/\ub.store=(aA u r).1/\Holds ub (cH s r no) (l ++ [(r,no)])) {e:Ending} {w':World} (hr:je D a w FX X g p bm dev (au u.store) d s r e w'):
 ∃x,e= .returned x/\(((aA u r).2.2≠0/\iH D a w FX X g p bm dev n N u u (aA u r).2.2.toNat d x w'/\∃ad,x=ao ad)\/((aA u r).2.2=0/\iH D a w FX X g p bm dev n N u ub 0 d x w')):=by
 obtain⟨he,hU⟩:=hr;refine⟨_,he,?_⟩;rcases nB hL (by have:=hN.last;omega) (ax r) with⟨er,e1,e2,e3⟩|⟨no,d',e1,e2,e3,e4,e5⟩|⟨us',d',e1,e2,e3,e4⟩
 · left;have e2':aA u r=(u.store,0,((er+1:Nat):Int)):=e2;rw[e1]at hU ⊢;rw[e2'];refine⟨by simp only;omega,.inl ⟨?_,d,s,l,hpe,id,hL,h,hnl,hN.mono (Nat.le_succ _),?_⟩,a er,rfl⟩
   · show bE a (ao (a er)) _;simp only[Int.toNat_natCast];exact bL a er (by omega)
   · simpa using hU
 · right;have e2':(aA u r).2=((no:Int),0):=e2;rw[e1]at hU ⊢;obtain⟨no',h1,h2,h3⟩:=hub (by rw[e2']);have hno:no'=no:=by rw[e2']at h1;simp only at h1;omega
   subst hno;have hst:(aZ u.store (ax r)).1=ub.store:=h2.symm;rw[hst]at hU e3;refine⟨by rw[e2'],.inl ⟨fw a,d',_,_,e4,e5,e3,h3,hnl.snoc hnr _,?_,by simpa using hU⟩⟩;rw[h2];exact jC hN
 · rw[e1]at hU ⊢;have hU':US D w FX X g p bm dev us' d' s w':=by simpa using hU
   by_cases h0:(aA u r).2.2=0
   · right;obtain⟨no',h1,h2,h3⟩:=hub h0;refine⟨h0,.inr ⟨e2,bL a 11 (by omega),us',s,d',e3,λxs hx hf=> ?_,hU'⟩⟩;rcases e4 xs hx hf with h4|h4|⟨h4,t,h5,h6⟩
     · exact⟨_,h4,hN.mono (Nat.le_succ _),.inl (od h hnl)⟩
     · exact⟨_,h4,jC hN,.inr (by have h7:=od h3 (hnl.snoc hnr _);rw[h2]at h7;exact h7)⟩
     · exact⟨_,h6,pO hN h5,.inl ⟨s,l,sn h h5,hnl⟩⟩
   · exact absurd (qH hL (ax r) (by rw[e1])) h0
end
end Go.Proofs.YtiafamacjpgjoaaGreatDoor
namespace Go.Proofs.YtiafamacjpgjoaaGreatDoor
open Go Go.RowKit Go.Shelf Tide
section
variable {D:aB} {a:Nat->Addr} {w W:World} {FX:Nat->Prop} {X:World->Prop} {g p bm dev n N:Nat} {d:Dv} {s:aV} {u:ah} {l:List (bh × Nat)}
theorem kG (hL:aM n d.img u.store) (hN:cY N u.store) (hpe:d.ar= []) (h:Holds u s l) (hnl:fR l) {x:Value} {r:Nat} (hx:bE a x r) {w':World} (hU:US D w FX X g p bm dev (au u.store) d s w'):iH D a w FX X g p bm dev n N u u r d x w':=
 .inl ⟨hx,d,s,l,hpe,id,hL,h,hnl,hN.mono (Nat.le_succ _),hU⟩
theorem EW (hD:ay (three a) D) (hX:cG FX X) (hE:av w a) (hn:n<=1000) (hU:US D w FX X g p bm dev (au u.store) d s W) (hpe:d.ar= []) (hL:aM n d.img u.store) (hN:cY N u.store) (hNl:N<=90000) (h:Holds u s l) (hnl:fR l) (ep a':Int) (vb:Value) (b:List UInt8) (hv:Bytes W W.heap.size vb b):
 Calls Tryz.prog 83 #[.pointer (some ⟨g,0,none⟩),.int .i64 ep,.int .i64 a',vb] W λe w'=>∃x,e= .returned x/\iH D a w FX X g p bm dev n N u (aT u ep a' b).1 (aT u ep a' b).2 d x w':=by
 refine(EE hD hX hE hU hpe (oF hL hn hN (by omega)) (lg h hN (by omega)) ep a' vb b hv).mono ?_;rintro e w' (⟨h0,⟨x,rfl,hx⟩,hU'⟩|⟨h0,hr⟩)
 · rw[EH h h0];exact⟨x,rfl,kG hL hN hpe h hnl hx hU'⟩
 · obtain⟨⟨h1,h2,h3,h4,h5,h6⟩,hwr⟩:=EI h h0;rw[hwr];obtain⟨x,rfl,hc⟩:=tJ (N:=N) hL hN hNl hpe h hnl ⟨1,a'.toNat,0,b⟩ ⟨λ_=>rfl,λh=>absurd rfl h,λh=>absurd h (show ¬(1:Nat)=3 by decide)⟩ ({ u with store:=(aA u ⟨1,a'.toNat,0,b⟩).1,rows:=u.rows ++ [⟨a'.toNat,b,(aA u ⟨1,a'.toNat,0,b⟩).2.1.toNat⟩],top:=max u.top (a'.toNat+1) }) (λh7=>by obtain⟨no,k1,k2⟩:=h.write h4 h3 (by omega) ⟨h5,h6⟩ h7;refine⟨no,k1,rfl,?_⟩;rw[k1,Int.toNat_natCast];exact k2) hr;refine⟨x,rfl,?_⟩;rcases hc with⟨h7,h8,_⟩|⟨h7,h8⟩
   · rw[if_pos h7,mN _ h7];exact h8
   · rw[if_neg (by rw[h7];simp)];exact h8
theorem Dq (hD:ay (three a) D) (hX:cG FX X) (hE:av w a) (hn:n<=1000) (hU:US D w FX X g p bm dev (au u.store) d s W) (hpe:d.ar= []) (hL:aM n d.img u.store) (hN:cY N u.store) (hNl:N<=90000) (h:Holds u s l) (hnl:fR l) (ep:Int):
 Calls Tryz.prog 29 #[.pointer (some ⟨g,0,none⟩),.int .i64 ep] W λe w'=>∃ (k:Int) (x:Value),e= .returned (.tuple #[.int .i64 k,x])/\(d.stop=none->k=(cB u ep).2.1)/\iH D a w FX X g p bm dev n N u (cB u ep).1 (cB u ep).2.2 d x w':=by
 refine(EC hD hX hE hU hpe (oF hL hn hN (by omega)) (lg h hN (by omega)) ep).mono ?_;have hw0:eE s ep≠0->cB u ep=(u,0,eE s ep):=λhw=>by
  unfold eE at hw ⊢;unfold cB;rw[h.ag]at hw ⊢;by_cases h1:ep < 0\/1073741824 < ep
  · rw[if_pos h1,if_pos h1]
  rw[if_neg h1]at hw ⊢;rw[if_neg h1];by_cases h2:ep < (u.ag:Int)
  · rw[if_pos h2,if_pos h2]
  · rw[if_neg h2]at hw;exact absurd rfl hw
 have hw1:eE s ep=0->¬(ep < 0\/1073741824 < ep)/\¬ep < (u.ag:Int):=λhw=>by
  unfold eE at hw;rw[h.ag]at hw;by_cases h1:ep < 0\/1073741824 < ep
  · rw[if_pos h1]at hw;cases hw
  rw[if_neg h1]at hw;by_cases h2:ep < (u.ag:Int)
  · rw[if_pos h2]at hw;cases hw
  · exact⟨h1,h2⟩
 have hput:∀ {w':World},eE s ep=0->(s.ag:Int) < ep->je D a w FX X g p bm dev (au u.store) d s ⟨3,0,ep.toNat, []⟩ (.returned (eQ a (bl (au u.store) d (ax ⟨3,0,ep.toNat, []⟩)).1)) w'->
  (((aA u ⟨3,0,ep.toNat, []⟩).2.2≠0/\cB u ep=(u,0,(aA u ⟨3,0,ep.toNat, []⟩).2.2.toNat)/\iH D a w FX X g p bm dev n N u u (aA u ⟨3,0,ep.toNat, []⟩).2.2.toNat d (eQ a (bl (au u.store) d (ax ⟨3,0,ep.toNat, []⟩)).1) w')\/
   ((aA u ⟨3,0,ep.toNat, []⟩).2.2=0/\cB u ep=({ u with store:=(aA u ⟨3,0,ep.toNat, []⟩).1,ag:=ep.toNat },((max u.top u.trimmed:Nat):Int),0)/\iH D a w FX X g p bm dev n N u { u with store:=(aA u ⟨3,0,ep.toNat, []⟩).1,ag:=ep.toNat } 0 d (eQ a (bl (au u.store) d (ax ⟨3,0,ep.toNat, []⟩)).1) w')):=λh0 hlt hr=>by
  obtain⟨h1,h2⟩:=hw1 h0;rw[h.ag]at hlt
  have hs:cB u ep=if(aA u ⟨3,0,ep.toNat, []⟩).2.2≠0 then({ u with store:=(aA u ⟨3,0,ep.toNat, []⟩).1 },0,(aA u ⟨3,0,ep.toNat, []⟩).2.2.toNat)
   else({ u with store:=(aA u ⟨3,0,ep.toNat, []⟩).1,ag:=ep.toNat },((max u.top u.trimmed:Nat):Int),0):=by
   unfold cB;rw[if_neg h1,if_neg h2,if_pos hlt]
  obtain⟨x,hx,hc⟩:=tJ (N:=N) hL hN hNl hpe h hnl ⟨3,0,ep.toNat, []⟩ ⟨λh=>absurd h (show ¬(3:Nat)=1 by decide),λ_=>rfl,λ_=>rfl⟩ ({ u with store:=(aA u ⟨3,0,ep.toNat, []⟩).1,ag:=ep.toNat }) (λh7=>by obtain⟨no,k1,k2⟩:=h.seal (e:=ep.toNat) (by omega) h7;exact⟨no,k1,rfl,k2⟩) hr;injection hx with hx;subst hx;rcases hc with⟨h7,h8,_⟩|⟨h7,h8⟩
  · left;refine⟨h7,?_,h8⟩;rw[hs,if_pos h7,mN _ h7]
  · right;refine⟨h7,?_,h8⟩;rw[hs,if_neg (by rw[h7];simp)]
 rintro e w' (⟨h0,⟨x,rfl,hx⟩,hU'⟩|⟨h0,h1,rfl,hU'⟩|⟨h0,h1,⟨m,h2,rfl⟩,hU'⟩|⟨h0,h1,h2,rfl,hU'⟩)
 · rw[hw0 h0];exact⟨0,x,rfl,λ_=>rfl,kG hL hN hpe h hnl hx hU'⟩
 · obtain⟨h2,h3⟩:=hw1 h0;have hs:cB u ep=(u,((max u.top u.trimmed:Nat):Int),0):=by unfold cB;rw[if_neg h2,if_neg h3,if_neg (by rw[h.ag]at h1;omega)]
   rw[hs,h.tail];exact⟨_,.nilIface,rfl,λ_=>rfl,kG hL hN hpe h hnl (fw a) hU'⟩
 · have hr:je D a w FX X g p bm dev (au u.store) d s ⟨3,0,ep.toNat, []⟩ (.returned (eQ a (bl (au u.store) d (ax ⟨3,0,ep.toNat, []⟩)).1)) w':=⟨rfl,by rw[h2,if_neg (by simp)];exact hU'⟩;have hne:(eQ a (bl (au u.store) d (ax ⟨3,0,ep.toNat, []⟩)).1)=ao (a m):=by rw[h2];rfl
   refine⟨0,ao (a m),rfl,?_⟩;rcases hput h0 h1 hr with⟨h7,h8,h9⟩|⟨h7,h8,h9⟩
   · rw[hne]at h9;rw[h8];exact⟨λ_=>rfl,h9⟩
   · rw[hne]at h9;rw[h8];refine⟨λhs=> ?_,h9⟩;rcases h9 with⟨h10,_⟩|⟨h10,_⟩
     · rcases h10 with⟨_,h11⟩|⟨_,_,h11,_⟩
       · cases h11
       · cases h11
     · exact absurd hs h10
 · have hcu:cH s ⟨3,0,ep.toNat, []⟩ (bl (au u.store) d (ax ⟨3,0,ep.toNat, []⟩)).2.1= { s with ag:=ep.toNat }:=by unfold cH;rw[if_neg (show ¬(3:Nat)=1 by decide),if_neg (show ¬(3:Nat)=2 by decide)]
   have hr:je D a w FX X g p bm dev (au u.store) d s ⟨3,0,ep.toNat, []⟩ (.returned (eQ a (bl (au u.store) d (ax ⟨3,0,ep.toNat, []⟩)).1)) w':=⟨rfl,by rw[if_pos h2,hcu];exact hU'⟩;have hne:(eQ a (bl (au u.store) d (ax ⟨3,0,ep.toNat, []⟩)).1)= .nilIface:=by rw[h2];rfl
   have htl:gA { s with ag:=ep.toNat }=max u.top u.trimmed:=by have:=h.tail;unfold gA at this ⊢;exact this
   rw[htl];refine⟨_,.nilIface,rfl,?_⟩;rcases hput h0 h1 hr with⟨h7,h8,h9⟩|⟨h7,h8,h9⟩
   · exfalso;rw[hne]at h9;rcases h9 with⟨h10,_⟩|⟨_,h10,_⟩
     · rcases h10 with⟨h11,_⟩|⟨_,_,_,h11⟩
       · have:=BI (u:=u) ⟨3,0,ep.toNat, []⟩;omega
       · cases h11
     · rcases h10 with⟨h11,_⟩|⟨_,_,_,h11⟩
       · cases h11
       · cases h11
   · rw[hne]at h9;rw[h8];exact⟨λ_=>rfl,h9⟩
theorem rm {m:aC} (hN:cY N m) (q:Nat):cY N (dA q m):=λg hg=>hN g ((List.dropWhile_sublist _).subset hg)
theorem Eh (hD:ay (three a) D) (hX:cG FX X) (hE:av w a) (hn:n<=1000) (hU:US D w FX X g p bm dev (au u.store) d s W) (hpe:d.ar= []) (hL:aM n d.img u.store) (hN:cY N u.store) (hNl:N<=90000) (h:Holds u s l) (hnl:fR l) (ep to:Int):
 Calls Tryz.prog 75 #[.pointer (some ⟨g,0,none⟩),.int .i64 ep,.int .i64 to] W λe w'=>∃x,e= .returned x/\iH D a w FX X g p bm dev n N u (bS u ep to).1 (bS u ep to).2 d x w':=by
 have hok:=lg h hN (by omega);refine(ED hD hX hE hn hU hpe hL hN hNl hok ep to).mono ?_;have hrc:eC s to.toNat=⟨2,to.toNat,u.ag, []⟩:=by unfold eC;rw[h.ag]
 have hwt:iX s ep to=bG u.ag ep to 4096:=by unfold iX;rw[h.ag]
 have hnr:gU ⟨2,to.toNat,u.ag, []⟩:=⟨λh=>absurd h (show ¬(2:Nat)=1 by decide),λ_=>rfl,λh=>absurd h (show ¬(2:Nat)=3 by decide)⟩;unfold nx;rw[hrc,hwt,h.trimmed];rintro e w' (⟨h0,⟨x,rfl,hx⟩,hU'⟩|⟨h0,h1,rfl,hU'⟩|⟨h0,h1,⟨m,h2,rfl⟩,hU'⟩|⟨h0,h1,no,d1,h2,h3,h4,h5,h6,hr⟩)
 · have:bS u ep to=(u,bG u.ag ep to 4096):=by unfold bS;rw[if_pos h0]
   rw[this];exact⟨x,rfl,kG hL hN hpe h hnl hx hU'⟩
 · have:bS u ep to=(u,0):=by unfold bS;rw[if_neg (by omega),if_pos h1]
   rw[this];exact⟨_,rfl,kG hL hN hpe h hnl (fw a) hU'⟩
 · have ht:bS u ep to=if(aA u ⟨2,to.toNat,u.ag, []⟩).2.2≠0 then({ u with store:=(aA u ⟨2,to.toNat,u.ag, []⟩).1 },(aA u ⟨2,to.toNat,u.ag, []⟩).2.2.toNat)
    else({ u with store:=dA (fx u.rows to.toNat (aA u ⟨2,to.toNat,u.ag, []⟩).2.1.toNat) (aA u ⟨2,to.toNat,u.ag, []⟩).1,trimmed:=to.toNat },0):=by
    unfold bS;rw[if_neg (by omega),if_neg (by omega)]
   have hc:=jD h0;rcases nB hL (by have:=hN.last;omega) (ax ⟨2,to.toNat,u.ag, []⟩) with⟨er,e1,e2,e3⟩|⟨no,d',e1,_⟩|⟨us',d',e1,e2,e3,e4⟩
   · rw[e1]at hU' h2;have hm:er=m:=by simpa using h2
     subst hm;have e2':aA u ⟨2,to.toNat,u.ag, []⟩=(u.store,0,((er+1:Nat):Int)):=e2;have hne:(aA u ⟨2,to.toNat,u.ag, []⟩).2.2≠0:=by rw[e2'];simp only;omega
     rw[ht,if_pos hne,mN _ hne,e2'];exact⟨_,rfl,kG hL hN hpe h hnl (by simp only[Int.toNat_natCast];exact bL a er (by omega)) hU'⟩
   · rw[e1]at h2;cases h2
   · rw[e1]at hU' h2;have hm:11=m:=by simpa using h2
     subst hm;have h00:(aA u ⟨2,to.toNat,u.ag, []⟩).2.2=0:=qH hL _ (by rw[e1]);rw[ht,if_neg (by rw[h00];simp)];refine⟨_,rfl,.inr ⟨e2,bL a 11 (by omega),us',s,d',e3,λxs hx hf=> ?_,hU'⟩⟩;obtain⟨no,k1,k2⟩:=h.trim (t:=to.toNat) (by omega) (by omega) (by have:=hok.ag;rw[h.ag]at this;exact this) h00;rcases e4 xs hx hf with h4|h4|⟨h4,t,h5,h6⟩
     · exact⟨_,h4,hN.mono (Nat.le_succ _),.inl (od h hnl)⟩
     · exact⟨_,h4,jC hN,.inr ⟨_,_,k2,hnl.snoc hnr _⟩⟩
     · exact⟨_,h6,pO hN h5,.inl ⟨s,l,sn h h5,hnl⟩⟩
 · have hc:=jD h0;have h00:(aA u ⟨2,to.toNat,u.ag, []⟩).2.2=0:=by show(aZ u.store (ax ⟨2,to.toNat,u.ag, []⟩)).2.2=0;rw[h3]
   have h01:(aA u ⟨2,to.toNat,u.ag, []⟩).2.1=(no:Int):=by show(aZ u.store (ax ⟨2,to.toNat,u.ag, []⟩)).2.1=no;rw[h3]
   have ht:bS u ep to=({ u with store:=dA (fx u.rows to.toNat no) (aA u ⟨2,to.toNat,u.ag, []⟩).1,trimmed:=to.toNat },0):=by unfold bS;rw[if_neg (by omega),if_neg (by omega),if_neg (by rw[h00];simp),h01,Int.toNat_natCast]
   obtain⟨no',k1,k2⟩:=h.trim (t:=to.toNat) (by omega) (by omega) (by have:=hok.ag;rw[h.ag]at this;exact this) h00;have hno:no'=no:=by rw[h01]at k1;omega
   subst hno;have hcu:cH s ⟨2,to.toNat,u.ag, []⟩ no'= { s with trimmed:=to.toNat }:=by have:=qX s to.toNat no';rw[hrc]at this;exact this
   rw[hcu]at k2;obtain⟨s',hs'⟩:=aa (cE { s with trimmed:=to.toNat });rw[hs']at k2 hr;have hneed:kr s' no'=fx u.rows to.toNat no':=by unfold kr fx;rw[k2.aD]
   have hle:=mw s'.aD no';have hle1:kr s' no'<=no':=hle.1;have hle2:∀p ∈ s'.aD,kr s' no'<=p.aQ:=hle.2.1;rw[ht,<-hneed]
   have hdr:∀q,q<=kr s' no'->∃l',Holds { u with store:=dA q (aA u ⟨2,to.toNat,u.ag, []⟩).1,trimmed:=to.toNat } s' l'/\fR l':=λq hq=>
    ⟨_,k2.xZ rfl (show q<=no' by omega) (λp hp=>by have:=hle2 p hp;omega),λx hx=>by
      rcases List.mem_append.1 hx with hx|hx
      · exact hnl x (List.mem_filter.1 hx).1
      · simp only[List.mem_singleton]at hx;subst hx;exact hnr⟩
   rcases hr with⟨rfl,d',r1,r2,r3,r4⟩|⟨r0,rfl,us',d',r1,r2,r3⟩
   · obtain⟨l',g1,g2⟩:=hdr _ (Nat.le_refl _);exact⟨_,rfl,.inl ⟨fw a,d',s',l',r1,λhs=>r2 (h6 hs),r3,g1,g2,rm (jC hN) _,r4⟩⟩
   · refine⟨_,rfl,.inr ⟨λhs=>r0 (h6 hs),bL a 11 (by omega),us',s',d',r1,λxs hx hf=> ?_,r3⟩⟩;obtain⟨q,hq,r4⟩:=r2 xs hx hf;obtain⟨l',g1,g2⟩:=hdr q hq;exact⟨_,r4,rm (jC hN) _,.inr ⟨s',l',g1,g2⟩⟩
end
end Go.Proofs.YtiafamacjpgjoaaGreatDoor
namespace Go.Proofs.YtiafamacjpgjoaaGreatDoor
open Go Go.RowKit Go.Shelf Tide
def UL (D:aB) (w:World) (FX:Nat->Prop) (X:World->Prop) (g p bm dev n N:Nat) (u:ah) (W:World):Prop:=
 ∃d s l,US D w FX X g p bm dev (au u.store) d s W/\d.ar= []/\d.stop=none/\aM n d.img u.store/\Holds u s l/\fR l/\cY N u.store
def UO (D:aB) (w:World) (FX:Nat->Prop) (X:World->Prop) (dev n N:Nat) (u:ah) (W:World):Prop:=
 ∃d,UD D w FX X dev d W/\d.ar= []/\d.stop=none/\aM n d.img u.store/\lN u u.store/\cY N u.store
section
variable {D:aB} {a:Nat->Addr} {w W W':World} {FX:Nat->Prop} {X:World->Prop} {g p bm dev n N M:Nat} {u:ah}
theorem UL.mono (h:UL D w FX X g p bm dev n N u W) (hNM:N<=M):UL D w FX X g p bm dev n M u W:=by obtain⟨d,s,l,h1,h2,h3,h4,h5,h6,h7⟩:=h;exact⟨d,s,l,h1,h2,h3,h4,h5,h6,h7.mono hNM⟩
theorem UL.since (h:UL D w FX X g p bm dev n N u W):Below w.heap.size w W:=by obtain⟨d,s,l,h1,_⟩:=h;exact h1.since
theorem UL.gY (h:UL D w FX X g p bm dev n N u W):X W:=by obtain⟨d,s,l,h1,_⟩:=h;exact h1.gY
theorem UL.below {x:Nat->Addr} (hD:ay x D) (hX:cG FX X) (h:UL D w FX X g p bm dev n N u W) (hb:Below W.heap.size W W'):UL D w FX X g p bm dev n N u W':=by obtain⟨d,s,l,h1,h2⟩:=h;exact⟨d,s,l,h1.below hD hX hb,h2⟩
theorem step_done {d:Dv} {ub:ah} {r:Nat} {x:Value} (h:iH D a w FX X g p bm dev n N u ub r d x W') (hs:d.stop=none):bE a x r/\UL D w FX X g p bm dev n (N+1) ub W':=by
 rcases h with⟨h1,d',s',l',h2,h3,h4,h5,h6,h7,h8⟩|⟨h1,_⟩
 · exact⟨h1,d',s',l',h8,h2,h3 hs,h4,h5,h6,h7⟩
 · exact absurd hs h1
theorem UL.write (hD:ay (three a) D) (hX:cG FX X) (hE:av w a) (hn:n<=1000) (hNl:N<=90000) (h:UL D w FX X g p bm dev n N u W) (ep a':Int) (vb:Value) (b:List UInt8) (hv:Bytes W W.heap.size vb b):
 Calls Tryz.prog 83 #[.pointer (some ⟨g,0,none⟩),.int .i64 ep,.int .i64 a',vb] W λe w'=>∃x,e= .returned x/\bE a x (aT u ep a' b).2/\UL D w FX X g p bm dev n (N+1) (aT u ep a' b).1 w':=by
 obtain⟨d,s,l,h1,h2,h3,h4,h5,h6,h7⟩:=h;refine(EW hD hX hE hn h1 h2 h4 h7 hNl h5 h6 ep a' vb b hv).mono ?_;rintro e w' ⟨x,rfl,hr⟩;exact⟨x,rfl,step_done hr h3⟩
theorem UL.seal (hD:ay (three a) D) (hX:cG FX X) (hE:av w a) (hn:n<=1000) (hNl:N<=90000) (h:UL D w FX X g p bm dev n N u W) (ep:Int):
 Calls Tryz.prog 29 #[.pointer (some ⟨g,0,none⟩),.int .i64 ep] W λe w'=>∃x,e= .returned (.tuple #[.int .i64 (cB u ep).2.1,x])/\bE a x (cB u ep).2.2/\UL D w FX X g p bm dev n (N+1) (cB u ep).1 w':=by
 obtain⟨d,s,l,h1,h2,h3,h4,h5,h6,h7⟩:=h;refine(Dq hD hX hE hn h1 h2 h4 h7 hNl h5 h6 ep).mono ?_;rintro e w' ⟨k,x,rfl,hk,hr⟩;exact⟨x,by rw[hk h3],step_done hr h3⟩
theorem UL.trim (hD:ay (three a) D) (hX:cG FX X) (hE:av w a) (hn:n<=1000) (hNl:N<=90000) (h:UL D w FX X g p bm dev n N u W) (ep to:Int):
 Calls Tryz.prog 75 #[.pointer (some ⟨g,0,none⟩),.int .i64 ep,.int .i64 to] W λe w'=>∃x,e= .returned x/\bE a x (bS u ep to).2/\UL D w FX X g p bm dev n (N+1) (bS u ep to).1 w':=by
 obtain⟨d,s,l,h1,h2,h3,h4,h5,h6,h7⟩:=h;refine(Eh hD hX hE hn h1 h2 h4 h7 hNl h5 h6 ep to).mono ?_;rintro e w' ⟨x,rfl,hr⟩;exact⟨x,rfl,step_done hr h3⟩
theorem Cf {s:aV} {l:List (bh × Nat)} (h:Holds u s l) (ep a':Int):gy s ep a'=bt u ep a':=by
 unfold gy bt;rw[h.ag,h.trimmed];by_cases h1:bG u.ag ep a' 4095≠0
 · rw[if_pos h1,if_pos h1]
 rw[if_neg h1,if_neg h1];by_cases h2:a' < (u.trimmed:Int)
 · rw[if_pos h2,if_pos h2]
 rw[if_neg h2,if_neg h2];have:(s.aD.find? λq=>(q.af:Int) == a')=u.rows.find? λq=>(q.af:Int) == a':=by
  rw[h.aD,List.find?_filter]
  congr 1
  funext q;by_cases e:(q.af:Int)=a'
  · have:u.trimmed<=q.af:=by omega
    simp[e,this]
  · simp[e]
 rw[this];cases u.rows.find? λq=>(q.af:Int) == a'<;>rfl
theorem tj {s:aV} {l:List (bh × Nat)} (h:Holds u s l):∀q ∈ s.aD,1<=q.bs.length/\q.bs.length<=2048:=λq hq=>by
 rw[<-h.state]at hq;unfold cE at hq;have hq2:=(List.mem_filter.1 hq).1;rw[kE l h.apart]at hq2;unfold cJ at hq2;obtain⟨x,hx,he⟩:=List.mem_filterMap.1 hq2;by_cases hk:x.1.kind=1
 · rw[if_pos hk]at he;injection he with he;subst he;rcases h.fu x hx with⟨_,_,h3,h4⟩|⟨h1,_⟩|⟨h1,_⟩
   · exact⟨h3,h4⟩
   · omega
   · omega
 · rw[if_neg hk]at he;cases he
theorem UL.Ca {x:Nat->Addr} (hD:ay x D) (hX:cG FX X) (hE:av w a) (h:UL D w FX X g p bm dev n N u W) (ep a':Int):
 Calls Tryz.prog 69 #[.pointer (some ⟨g,0,none⟩),.int .i64 ep,.int .i64 a'] W λe w'=>∃v x,e= .returned (.tuple #[v,x])/\Bytes w' w'.heap.size v (bt u ep a').1/\(∀k,v.ownBlock=some k->W.heap.size<=k/\k < w'.heap.size)/\bE a x (bt u ep a').2/\Below W.heap.size W w'/\UL D w FX X g p bm dev n N u w':=by
 have h0:=h;obtain⟨d,s,l,h1,h2,h3,h4,h5,h6,h7⟩:=h;refine(EA h1.unit (hE.below h1.since) (λq hq=>(tj h5 q hq).2) ep a').mono ?_;rintro e w' ⟨v,y,rfl,h8,ho,h9,h10⟩;rw[Cf h5]at h8 h9;exact⟨v,y,rfl,h8,ho,h9,h10,h0.below hD hX h10⟩
theorem UL.tail {x:Nat->Addr} (hD:ay x D) (hX:cG FX X) (hNl:N<=90000) (h:UL D w FX X g p bm dev n N u W):
 Calls Tryz.prog 57 #[.pointer (some ⟨g,0,none⟩)] W λe w'=>e= .returned (.int .i64 ((max u.top u.trimmed:Nat):Int))/\Below W.heap.size W w'/\UL D w FX X g p bm dev n N u w':=by
 have h0:=h;obtain⟨d,s,l,h1,h2,h3,h4,h5,h6,h7⟩:=h;refine(pN h1.unit (lg h5 h7 (by omega))).mono ?_;rintro e w' ⟨rfl,hb⟩;exact⟨by rw[h5.tail],hb,h0.below hD hX hb⟩
theorem UO.open (hD:ay (three a) D) (hX:cG FX X) (hE:av w a) (hn:64<=n) (hn2:n<=1000) (hNl:N<=90000) (h:UO D w FX X dev n N u W):
 Calls Tryz.prog 42 #[.pointer (some ⟨dev,0,none⟩)] W λe w'=>∃g p bm,e= .returned (.tuple #[.pointer (some ⟨g,0,none⟩),.nilIface])/\UL D w FX X g p bm dev n N u w':=by
 obtain⟨d,h1,h2,h3,h4,⟨s,l,h5,h6⟩,h7⟩:=h;refine(Ev hD hX hE h1 h2 h4 hn hn2 h7 (by omega) (CV h5.aE h5.fu h6)).mono ?_;rintro e w' ⟨g,p,bm,rfl,hU⟩;rw[Cj h5.aE h5.fu h6,h5.state]at hU;exact⟨g,p,bm,rfl,d,s,l,hU,h2,h3,h4,h5,h6,h7⟩
theorem UO.new {x:Nat->Addr} (hD:ay x D) (hX:cG FX X) (hXw:X W) (hFX:∀k,FX k->k < W.heap.size) (hb:Below w.heap.size w W) (k:Nat) (hk:1<=k) (hk2:k<=5):
 Calls Tryz.prog 41 #[.int .i64 ((64 * k:Nat):Int)] W λe w'=>∃dev,e= .returned (.tuple #[.pointer (some ⟨dev,0,none⟩),.nilIface])/\UO D w FX X dev (64 * k) 0 ⟨⟨k, []⟩, [],0,0,0⟩ w':=by
 refine(hD.new W (64 * k) (by omega) (by omega)).mono ?_;rintro e w' ⟨dev,F,rfl,g1,g2,g3⟩;have hlt:=hD.lt _ _ _ _ g1;have hz:=g3.size;have hz0:=hb.size;have hl:=wv (64 * k);rw[show 64 * k / 64=k by omega]at hl;refine⟨dev,rfl,_,⟨F,g1,λi hi=>⟨λhf=>by have:=hFX i hf;have:=g2 i hi;omega,by have:=g2 i hi;omega,hlt i hi⟩,λi hi=>by have:=hFX i hi;omega,hb.trans (g3.mono hz0),hX _ _ (λ_=>False) hXw hFX (Kept.an g3) (λ_ _ h=>h)⟩,rfl,rfl,hl,⟨_, [],Holds.new k,λx hx=>(by cases hx)⟩,λg hg=>(by cases hg)⟩
end
end Go.Proofs.YtiafamacjpgjoaaGreatDoor
namespace Go.Proofs.YtiafamacjpgjoaaGreatDoor
open Go Go.RowKit Go.Shelf Tide
def gz (W:World) (k:Nat):World:=(W.alloc (.cells #[.int .i64 (k:Int),.slice none 0 0] 145)).alloc (.cells #[.pointer (some ⟨W.heap.size,0,none⟩),.slice none 0 0,.slice none 0 0,.slice none 0 0,.int .i64 0,.int .i64 0,.int .i64 0] 119)
theorem Eu (k:Nat) (W:World):Calls Tryz.prog 43 #[.int .i64 (k:Int)] W λe w'=>e= .returned (.pointer (some ⟨W.heap.size+1,0,none⟩))/\w'=gz W k:=by
 go_enter Tryz.func43,Tryz.ntmps43
 go_wp2_with fail
 go_ret
 exact⟨rfl,rfl⟩
end Go.Proofs.YtiafamacjpgjoaaGreatDoor
namespace Go.Proofs.YtiafamacjpgjoaaGreatDoor
open Go Go.RowKit Tide
section
variable {W:World} {F S G:Nat->Prop} {q p:Nat} {va vp vi:Value} {rs:List Value} {u:ah}
theorem Dd (h:bT W F S q p va vp vi rs u) (hs:Small u.store) (ep:Int):Calls Tryz.prog 30 #[.pointer (some ⟨q,0,none⟩),.int .i64 ep] W λe w'=>∃k:Int,e= .returned (.tuple #[.int .i64 k,.int .i64 ((cB u ep).2.2:Nat)])/\k=(cB u ep).2.1/\jB W (λk=>F k\/dW q va vp vi k) S q ((cB u ep).1,0) (.returned (.int .i64 0)) w':=by
 obtain⟨hq,c0,c1,c2,c3,c4,c5,c6,_⟩:=h.facts;have H:=ab h;by_cases h1:ep < 0
 · have HR:=ab (show cB u ep=(u,0,14) from by unfold cB;rw[if_pos (.inl h1)]);have q1:decide (ep < (0:Int))=true:=decide_eq_true h1;clear h h1
   go_enter Tryz.func30,Tryz.ntmps30
   go_wp2_with fail
   go_ret2
   rw[HR.out];exact⟨0,rfl,rfl,gT H.out (Below.refl _ _)⟩
 have q1:decide (ep < (0:Int))=false:=decide_eq_false h1;by_cases h2:1073741824 < ep
 · have HR:=ab (show cB u ep=(u,0,14) from by unfold cB;rw[if_pos (.inr h2)]);have q2:decide ((1073741824:Int) < ep)=true:=decide_eq_true h2;clear h h1 h2
   go_enter Tryz.func30,Tryz.ntmps30
   go_wp2_with fail
   go_ret2
   rw[HR.out];exact⟨0,rfl,rfl,gT H.out (Below.refl _ _)⟩
 have q2:decide ((1073741824:Int) < ep)=false:=decide_eq_false h2;have HN:=ab (show ¬(ep < 0\/1073741824 < ep) from λh=>h.elim h1 h2);obtain⟨n,rfl⟩:∃n:Nat,ep=n:=⟨ep.toNat,by omega⟩;have hn:n<=1073741824:=by omega
 have CT:=ab (λ(W':World) {F' S':Nat->Prop} {u':ah} (h':bT W' F' S' q p va vp vi rs u')=>py h');have HT:=ab (py h);by_cases h3:(n:Int) < (u.ag:Int)
 · have HR:=ab (show cB u n=(u,0,8) from by unfold cB;rw[if_neg HN.out,if_pos h3]);have q3:decide ((n:Int) < (u.ag:Int))=true:=decide_eq_true h3;have n3:n < u.ag:=by omega
   clear h h1 h2 h3 HT CT
   go_enter Tryz.func30,Tryz.ntmps30
   go_wp2_with fail
   go_ret2
   rw[HR.out];exact⟨0,rfl,rfl,gT H.out (Below.refl _ _)⟩
 have q3:decide ((n:Int) < (u.ag:Int))=false:=decide_eq_false h3;have n3:¬n < u.ag:=by omega
 obtain⟨M,hM⟩:=aa (max u.top u.trimmed);rw[hM]at HT;by_cases h4:(u.ag:Int) < (n:Int);rotate_left
 · have HR:=ab (show cB u n=(u,((M:Nat):Int),0) from by unfold cB;rw[if_neg HN.out,if_neg h3,if_neg h4,hM]);have q4:decide ((u.ag:Int) < (n:Int))=false:=decide_eq_false h4;have n4:¬u.ag < n:=by omega
   clear h h1 h2 h3 h4 CT hM
   go_enter Tryz.func30,Tryz.ntmps30
   go_wp2_with fail
   refine HT.out.mono ?_;rintro e w1 ⟨rfl,hb⟩;have HB:=ab hb;clear hb HT
   go_wp2_with fail
   go_ret2
   rw[HR.out];exact⟨_,rfl,rfl,gT H.out HB.out⟩
 have q4:decide ((u.ag:Int) < (n:Int))=true:=decide_eq_true h4;have n4:u.ag < n:=by omega
 have HW:=ab (show cB u n=if(aA u ⟨3,0,n, []⟩).2.2≠0 then({ u with store:=(aA u ⟨3,0,n, []⟩).1 },0,(aA u ⟨3,0,n, []⟩).2.2.toNat)
  else({ u with store:=(aA u ⟨3,0,n, []⟩).1,ag:=n },((M:Nat):Int),0) from by unfold cB;rw[if_neg HN.out,if_neg h3,if_pos h4,Int.toNat_natCast,hM])
 clear h1 h2 h3 h4 HT
 go_enter Tryz.func30,Tryz.ntmps30
 go_wp2_with fail
 have HS:=ab (λ(W':World) (hb:Below W.heap.size W W')=>show W'.cell? ⟨q,0,none⟩=some (.pointer (some ⟨p,0,none⟩)) from(hb.cell (p:=⟨q,0,none⟩) hq).trans c0);have CN1:=ab (λ(W':World)=>show Calls Tryz.prog 64 #[.int .i64 3] W' (iE (aq 3) W') from iQ 3 W' (by omega));have CN2:=ab (λ(W':World)=>iQ n W' (by omega));have CR:=ab (λ(W':World) (v1 v2:Value) (h1:Bytes W' W'.heap.size v1 (aq 3)) (h2:Bytes W' W'.heap.size v2 (aq n))=>show Calls Tryz.prog 63 #[.slice (some ⟨W'.heap.size,0,none⟩) 2 2] (W'.alloc (.cells #[v1,v2] 47)) (iE (ax ⟨3,0,n, []⟩) (W'.alloc (.cells #[v1,v2] 47))) from by
  have:=po (by rw[World.size_alloc];omega) (dX.Ah 47 W'.heap.size rfl (Nat.le_refl _) h1 h2) (by simp) (by have e1:=fY (n:=3) (by omega);have e2:=fY (n:=n) (by omega);intro x hx;simp only[List.mem_cons,List.not_mem_nil,or_false]at hx;rcases hx with rfl|rfl<;>omega);have e:ax ⟨3,0,n, []⟩= [aq 3,aq n].flatten:=by unfold ax;rw[if_neg (show ¬(3:Nat)=1 by decide),if_neg (show ¬(3:Nat)=2 by decide)];simp
  rw[e];exact this)
 have CA:=ab (λ(W':World) (hb:Below W.heap.size W W') (v4:Value) (h4:W'.ownsRow W.heap.size 5 1 v4 (ax ⟨3,0,n, []⟩).length (al (ax ⟨3,0,n, []⟩)))=>o9 (h.store.below hb) hs (Bytes.cm h4) (Nat.le_refl _) (λk e hf=>by have h5:=(h4.lt k e).1;have h6:=h.lt k (.inl hf);omega));have HK0:=ab (λ(W':World) (hb:Below W.heap.size W W') (w'':World) (hk:Kept F W' w'')=>show w''.cell? ⟨q,0,none⟩=some (.pointer (some ⟨p,0,none⟩)) from(hk.cell (p:=⟨q,0,none⟩) (Nat.lt_of_lt_of_le hq hb.size) (λhf=>(h.bF q (.inl rfl)).1 hf)).trans ((hb.cell (p:=⟨q,0,none⟩) hq).trans c0));have HP:=ab (show aA u ⟨3,0,n, []⟩=aZ u.store (ax ⟨3,0,n, []⟩) from rfl);have HPc:=ab (nA u.store (ax ⟨3,0,n, []⟩));clear h hs hq;generalize ax ⟨3,0,n, []⟩=E at *;generalize aq 3=l1 at *;generalize aq n=l2 at *;have D0:=ab (HS.out _ ((nD W).drew))
 go_region_held3 (λW'=>W'.cell? ⟨q,0,none⟩=some (.pointer (some ⟨p,0,none⟩)))
  (first|exact D0.out|exact D1.out|exact D2.out|exact D4.out|exact D5.out|exact D6.out|assumption)
  (first
    | (go_at_call 64;(with_reducible refine(CN1.out _).mono ?_);rintro en w1 ⟨v1,rfl,ho1,hb1⟩;obtain⟨A1,k1,rfl,_,_⟩:=fA ho1;have HB1:=ab (((Below.refl W.heap.size W).drew).trans (hb1.mono (Nat.le_refl _)));have D1:=ab (HS.out _ HB1.out);have V1:=ab (Bytes.cm ho1);clear ho1 hb1)
    | (go_at_call 64;(with_reducible refine(CN2.out _).mono ?_);rintro en w2 ⟨v2,rfl,ho2,hb2⟩;obtain⟨A2,k2,rfl,_,_⟩:=fA ho2;have HB2:=ab (HB1.out.trans (hb2.mono HB1.out.size));have D2:=ab (HS.out _ HB2.out);have V2:=ab (And.intro ((V1.out.below hb2).more hb2.size) (Bytes.cm ho2));have D4:=ab (HS.out (w2.alloc (.cells #[.slice A1 l1.length k1,.slice A2 l2.length k2] 47)) (HB2.out.alloc HB2.out.size _));clear ho2 hb2)
    | (go_at_call 63;(with_reducible refine(CR.out w2 _ _ V2.out.1 V2.out.2).mono ?_);rintro en w4 ⟨v4,rfl,ho4,hb4⟩;obtain⟨A4,k4,rfl,_,_⟩:=fA ho4;have HB4:=ab ((HB2.out.alloc HB2.out.size _).trans (hb4.mono (Nat.le_trans HB2.out.size (by rw[World.size_alloc];omega))));have D5:=ab (HS.out _ HB4.out);have V4:=ab (ff ho4 (Nat.le_trans HB2.out.size (by rw[World.size_alloc];omega)));clear ho4 hb4)
    | (go_at_call 62;(with_reducible refine(CA.out w4 HB4.out _ V4.out).mono ?_);rintro en w5 ⟨rfl,F',S',g1,g2,g3,g4⟩;have D6:=ab (HK0.out w4 HB4.out w5 g4);have G5:=ab (And.intro g1 (And.intro g2 (And.intro g3 g4)));clear g1 g2 g3 g4))
 have HW2:=HW.out;rw[HP.out]at HW2;have HG5:=G5.out;have HPc2:=HPc.out;clear HP HPc HW CA G5;generalize aZ u.store E=X at *;obtain⟨m,no,r⟩:=X;dsimp only at HPc2 HW2 HG5 ⊢;obtain⟨F2,S2,r1,r2,r3⟩:=(H.out.below HB4.out).restore HG5.1 HG5.2.1 HG5.2.2.1 HG5.2.2.2;have hz4:=HB4.out.size;have HR5:=ab r1;have HF5:=ab (show(∀k,F2 k->F k\/W.heap.size<=k)/\(∀k,S2 k->S k\/W.heap.size<=k) from⟨λk hk=>(r2 k hk).imp id (λh=>Nat.le_trans hz4 h),λk hk=>(r3 k hk).imp id (λh=>Nat.le_trans hz4 h)⟩);have HK5:=ab ((Kept.an (F:=F) HB4.out).trans HG5.2.2.2 (λk h=> .inl h));have HW5:=ab HW2;have HPc:=ab HPc2;clear HPc2 HG5 hz4 r1 r2 r3 HW2 D0 D1 D2 D4 D5 D6 V1 V2 V4 HB1 HB2 HK0 HS CN1 CN2 CR c0 c1 c2 c3 c4 c5 c6;by_cases hr0:r=0;rotate_left
 · have HR:=ab (show cB u n=({ u with store:=m },0,r.toNat) from by rw[HW5.out,if_pos hr0]);have q5:(r != 0)=true:=by simpa using hr0
   have HRn:=ab (show((r.toNat:Nat):Int)=r by have:=HPc.out;omega);clear hr0
   go_wp2_with fail
   go_ret2
   rw[HR.out];refine⟨0,by rw[HRn.out];rfl,rfl,rfl,_,S2,HR5.out.ru,λk hk=> ?_,HF5.out.2,HK5.out.mono (λk _ hk=> .inl hk)⟩;rcases hk with hk|hk
   · exact(HF5.out.1 k hk).imp .inl id
   · exact .inl (.inr hk)
 subst hr0;have HR:=ab (show cB u n=({ u with store:=m,ag:=n },((M:Nat):Int),0) from by rw[HW5.out,if_neg (by simp)]);clear HW5 HPc;obtain⟨hq5,c0,c1,c2,c3,c4,c5,c6,fz⟩:=HR5.out.facts;have HE:=ab (HR5.out.pI (u':= { u with store:=m,ag:=n }) 5 (.int .i64 (n:Int)) rfl rfl rfl);have HKe:=ab ((Kept.refl (λk=>k=q) w5).setCell (p:=⟨q,5,none⟩) (.inl rfl) (.int .i64 (n:Int)));have HTl:=ab (CT.out _ HE.out);have HM:=ab hM;clear hM CT
 go_wp2_with fail
 generalize w5.setCell ⟨q,5,none⟩ (.int .i64 (n:Int))=w6 at *;refine HTl.out.mono ?_;rintro e w7 ⟨rfl,hb⟩;have HB:=ab hb;clear hb HTl
 go_wp2_with fail
 go_ret2
 rw[HR.out];refine⟨_,rfl,?_,rfl,_,S2,(HE.out.below HB.out).ru,λk hk=> ?_,HF5.out.2,?_⟩
 · show((max u.top u.trimmed:Nat):Int)=(M:Nat);rw[HM.out]
 · rcases hk with hk|hk
   · exact(HF5.out.1 k hk).imp .inl id
   · exact .inl (.inr hk)
 · exact((HK5.out.mono (λk _ h=> .inl h)).trans HKe.out (λk h=> .inl (.inr (.inl h)))).trans (Kept.an (F:=λ_=>False) HB.out) (λ_ h=>h.elim)
end
end Go.Proofs.YtiafamacjpgjoaaGreatDoor
namespace Go.Proofs.YtiafamacjpgjoaaGreatDoor
open Go Go.RowKit Tide
def pC (p:Nat) (w:World):Nat:=match w.cell? ⟨p,1,none⟩with
 | some (.slice _ n _)=>n
 | _=>0
theorem zp (u:ah) (i:Nat) (h:i < u.rows.length):(az (gM u))[i]? =some (.int .i64 ((u.rows[i]).aQ:Int)):=om _ _ _ (zo u i h)
theorem vT (u:ah) (i:Nat) (h:i < u.rows.length):(az (gG u))[i]? =some (.int .i64 ((u.rows[i]).af:Int)):=om _ _ _ (qC u i h)
theorem uj {W:World} {F S:Nat->Prop} {p:Nat} {s:aC} (h:dy W F S p s):pC p W=s.ae.length:=by obtain⟨gs,vs,hgs,hW⟩:=h;obtain⟨_,_,d1,_⟩:=hW.block.facts;obtain⟨A,c,rfl,_,_⟩:=hW.kN;unfold pC;rw[d1,hgs,List.length_map]
theorem zQ {rows:List bk} {to:Nat} {s:aC} (h:s.ae.length<=1) (k:Nat):dj rows to k s=s:=by
 obtain⟨P,ae⟩:=s;cases k with
 | zero=>rfl
 | succ k=>
   match ae,h with
   | [],_=>rfl
   | [g],_=>rfl
theorem zR {rows:List bk} {to:Nat} {P:Nat} {g h:aF} {r:List aF} {j:Nat} (hj:j < rows.length) (h1:(rows[j]).aQ=g.number) (h2:to<=(rows[j]).af):dj rows to (g :: h :: r).length ⟨P,g :: h :: r⟩=⟨P,g :: h :: r⟩:=by show dj rows to (r.length+1+1) _=_;unfold dj;simp only;rw[if_pos (List.any_eq_true.2 ⟨_,List.getElem_mem hj,by simp[h1,h2]⟩)]
theorem zP {rows:List bk} {to:Nat} {P:Nat} {g h:aF} {r:List aF} (h1:∀j (hj:j < rows.length),¬((rows[j]).aQ=g.number/\to<=(rows[j]).af)):dj rows to (g :: h :: r).length ⟨P,g :: h :: r⟩=dj rows to (h :: r).length ⟨P,h :: r⟩:=by show dj rows to (r.length+1+1) _=dj rows to (r.length+1) _;rw[show dj rows to (r.length+1+1) ⟨P,g :: h :: r⟩=if rows.any (λp=>p.aQ == g.number && decide (to<=p.af)) then⟨P,g :: h :: r⟩else dj rows to (r.length+1) ⟨P,h :: r⟩from rfl];rw[if_neg];intro ha;obtain⟨x,hx,he⟩:=List.any_eq_true.1 ha;obtain⟨j,hj,rfl⟩:=List.getElem_of_mem hx;simp only[Bool.and_eq_true,beq_iff_eq,decide_eq_true_eq]at he;exact h1 j hj he
section
variable {W:World} {F S G:Nat->Prop} {q p:Nat} {va vp vi:Value} {rs:List Value} {u:ah}
theorem Di (h:bT W F S q p va vp vi rs u) (hs:Small u.store) (ep a:Int) (hl:u.rows.length<=5000) (hse:u.ag<=1073741824)
 (hS2:∀b,Small (aZ u.store b).1) (hT:∀n:Nat,n<=4096->u.trimmed < n->(aA u ⟨2,n,u.ag, []⟩).2.2=0->dj u.rows n (aA u ⟨2,n,u.ag, []⟩).1.ae.length (aA u ⟨2,n,u.ag, []⟩).1=dA (fx u.rows n (aA u ⟨2,n,u.ag, []⟩).2.1.toNat) (aA u ⟨2,n,u.ag, []⟩).1):
 Calls Tryz.prog 55 #[.pointer (some ⟨q,0,none⟩),.int .i64 ep,.int .i64 a] W (jB W (λk=>F k\/dW q va vp vi k) S q (bS u ep a)):=by
 obtain⟨hq,c0,c1,c2,c3,c4,c5,c6,_⟩:=h.facts;have CC:=ab (pa h ep a 4096);have H:=ab h;obtain⟨K,hK⟩:=aa (bG u.ag ep a 4096);rw[hK]at CC;by_cases h1:K=0;rotate_left
 · have HR:=ab (show bS u ep a=(u,K) from by unfold bS;rw[hK,if_pos h1]);have q1:((K:Int) != 0)=true:=by simp;omega
   clear h hK h1 hT hS2
   go_enter Tryz.func55,Tryz.ntmps55
   go_wp2_with fail
   refine CC.out.mono ?_;rintro e w1 ⟨rfl,rfl⟩
   go_wp2_with fail
   go_ret
   rw[HR.out];exact gT H.out (Below.refl _ _)
 subst h1;have HN0:=ab (show ¬bG u.ag ep a 4096≠0 from by rw[hK];simp);have hchk:=qV hK;clear hK;obtain⟨n,rfl⟩:∃n:Nat,a=n:=⟨a.toNat,by omega⟩;have hn4:n<=4096:=by omega
 by_cases h2:(n:Int)<=(u.trimmed:Int)
 · have HR:=ab (show bS u ep n=(u,0) from by unfold bS;rw[if_neg HN0.out,if_pos h2]);have q2:decide ((n:Int)<=(u.trimmed:Int))=true:=decide_eq_true h2;have n2:n<=u.trimmed:=by omega
   clear h h2 hT hS2
   go_enter Tryz.func55,Tryz.ntmps55
   go_wp2_with fail
   refine CC.out.mono ?_;rintro e w1 ⟨rfl,rfl⟩
   go_wp2_with fail
   go_ret
   rw[HR.out];exact gT H.out (Below.refl _ _)
 have q2:decide ((n:Int)<=(u.trimmed:Int))=false:=decide_eq_false h2;have n2:¬n<=u.trimmed:=by omega
 have HW:=ab (show bS u ep n=if(aA u ⟨2,n,u.ag, []⟩).2.2≠0 then({ u with store:=(aA u ⟨2,n,u.ag, []⟩).1 },(aA u ⟨2,n,u.ag, []⟩).2.2.toNat)
  else({ u with store:=dA (fx u.rows n (aA u ⟨2,n,u.ag, []⟩).2.1.toNat) (aA u ⟨2,n,u.ag, []⟩).1,trimmed:=n },0) from by unfold bS;rw[if_neg HN0.out,if_neg h2,Int.toNat_natCast])
 have HT:=ab (hT n hn4 (by omega));have HS2:=ab (hS2 (ax ⟨2,n,u.ag, []⟩));have HLr:=ab hl;clear h2 hT hS2 hl
 go_enter Tryz.func55,Tryz.ntmps55
 go_wp2_with fail
 refine CC.out.mono ?_;rintro e w1 ⟨rfl,rfl⟩
 go_wp2_with fail
 obtain⟨E0,hE0⟩:=aa u.ag;have hse':E0<=1073741824:=by omega
 have HE0:=ab hE0;rw[hE0]at c5;have HS:=ab (λ(W':World) (hb:Below W.heap.size W W')=>show W'.cell? ⟨q,0,none⟩=some (.pointer (some ⟨p,0,none⟩))/\W'.cell? ⟨q,5,none⟩=some (.int .i64 (E0:Int)) from⟨(hb.cell (p:=⟨q,0,none⟩) hq).trans c0,(hb.cell (p:=⟨q,5,none⟩) hq).trans c5⟩);have CN1:=ab (λ(W':World)=>show Calls Tryz.prog 64 #[.int .i64 2] W' (iE (aq 2) W') from iQ 2 W' (by omega));have CN2:=ab (λ(W':World)=>iQ n W' (by omega));have CN3:=ab (λ(W':World)=>iQ E0 W' (by omega));have CR:=ab (λ(W':World) (v1 v2 v3:Value) (h1:Bytes W' W'.heap.size v1 (aq 2)) (h2:Bytes W' W'.heap.size v2 (aq n)) (h3:Bytes W' W'.heap.size v3 (aq E0))=>show Calls Tryz.prog 63 #[.slice (some ⟨W'.heap.size,0,none⟩) 3 3] (W'.alloc (.cells #[v1,v2,v3] 47)) (iE (ax ⟨2,n,u.ag, []⟩) (W'.alloc (.cells #[v1,v2,v3] 47))) from by
  have:=po (by rw[World.size_alloc];omega) (dX.sS 47 W'.heap.size rfl (Nat.le_refl _) h1 h2 h3) (by simp) (by have e1:=fY (n:=2) (by omega);have e2:=fY (n:=n) (by omega);have e3:=fY (n:=E0) (by omega);intro x hx;simp only[List.mem_cons,List.not_mem_nil,or_false]at hx;rcases hx with rfl|rfl|rfl<;>omega);have e:ax ⟨2,n,u.ag, []⟩= [aq 2,aq n,aq E0].flatten:=by unfold ax;rw[if_neg (show ¬(2:Nat)=1 by decide),if_pos (show(2:Nat)=2 from rfl),HE0.out];simp
  rw[e];exact this)
 have CA:=ab (λ(W':World) (hb:Below W.heap.size W W') (v4:Value) (h4:W'.ownsRow W.heap.size 5 1 v4 (ax ⟨2,n,u.ag, []⟩).length (al (ax ⟨2,n,u.ag, []⟩)))=>o9 (h.store.below hb) hs (Bytes.cm h4) (Nat.le_refl _) (λk e hf=>by have h5:=(h4.lt k e).1;have h6:=h.lt k (.inl hf);omega));have HK0:=ab (λ(W':World) (hb:Below W.heap.size W W') (w'':World) (hk:Kept F W' w'')=>show w''.cell? ⟨q,0,none⟩=some (.pointer (some ⟨p,0,none⟩))/\w''.cell? ⟨q,5,none⟩=some (.int .i64 (E0:Int)) from⟨(hk.cell (p:=⟨q,0,none⟩) (Nat.lt_of_lt_of_le hq hb.size) (λhf=>(h.bF q (.inl rfl)).1 hf)).trans ((hb.cell (p:=⟨q,0,none⟩) hq).trans c0),(hk.cell (p:=⟨q,5,none⟩) (Nat.lt_of_lt_of_le hq hb.size) (λhf=>(h.bF q (.inl rfl)).1 hf)).trans ((hb.cell (p:=⟨q,5,none⟩) hq).trans c5)⟩);have HP:=ab (show aA u ⟨2,n,u.ag, []⟩=aZ u.store (ax ⟨2,n,u.ag, []⟩) from rfl);have HPc:=ab (nA u.store (ax ⟨2,n,u.ag, []⟩));clear h hs hq hE0 hse;generalize ax ⟨2,n,u.ag, []⟩=E at *;generalize aq 2=l1 at *;generalize aq n=l2 at *;generalize aq E0=l3 at *;have D0:=ab (HS.out _ ((nD W).drew))
 go_region_held3 (λW'=>W'.cell? ⟨q,0,none⟩=some (.pointer (some ⟨p,0,none⟩))/\W'.cell? ⟨q,5,none⟩=some (.int .i64 (E0:Int)))
  (first|exact D0.out|exact D1.out|exact D2.out|exact D3.out|exact D4.out|exact D5.out|exact D6.out|assumption)
  (first
    | (go_at_call 64;(with_reducible refine(CN1.out _).mono ?_);rintro en w1 ⟨v1,rfl,ho1,hb1⟩;obtain⟨A1,k1,rfl,_,_⟩:=fA ho1;have HB1:=ab (((Below.refl W.heap.size W).drew).trans (hb1.mono (Nat.le_refl _)));have D1:=ab (HS.out _ HB1.out);have V1:=ab (Bytes.cm ho1);clear ho1 hb1 CN1)
    | (go_at_call 64;(with_reducible refine(CN2.out _).mono ?_);rintro en w2 ⟨v2,rfl,ho2,hb2⟩;obtain⟨A2,k2,rfl,_,_⟩:=fA ho2;have HB2:=ab (HB1.out.trans (hb2.mono HB1.out.size));have D2:=ab (HS.out _ HB2.out);have V2:=ab (And.intro ((V1.out.below hb2).more hb2.size) (Bytes.cm ho2));clear ho2 hb2 CN2)
    | (go_at_call 64;(with_reducible refine(CN3.out _).mono ?_);rintro en w3 ⟨v3,rfl,ho3,hb3⟩;obtain⟨A3,k3,rfl,_,_⟩:=fA ho3;have HB3:=ab (HB2.out.trans (hb3.mono HB2.out.size));have D3:=ab (HS.out _ HB3.out);have V3:=ab (And.intro ((V2.out.1.below hb3).more hb3.size) (And.intro ((V2.out.2.below hb3).more hb3.size) (Bytes.cm ho3)));have D4:=ab (HS.out (w3.alloc (.cells #[.slice A1 l1.length k1,.slice A2 l2.length k2,.slice A3 l3.length k3] 47)) (HB3.out.alloc HB3.out.size _));clear ho3 hb3 CN3)
    | (go_at_call 63;(with_reducible refine(CR.out w3 _ _ _ V3.out.1 V3.out.2.1 V3.out.2.2).mono ?_);rintro en w4 ⟨v4,rfl,ho4,hb4⟩;obtain⟨A4,k4,rfl,_,_⟩:=fA ho4;have HB4:=ab ((HB3.out.alloc HB3.out.size _).trans (hb4.mono (Nat.le_trans HB3.out.size (by rw[World.size_alloc];omega))));have D5:=ab (HS.out _ HB4.out);have V4:=ab (ff ho4 (Nat.le_trans HB3.out.size (by rw[World.size_alloc];omega)));clear ho4 hb4)
    | (go_at_call 62;(with_reducible refine(CA.out w4 HB4.out _ V4.out).mono ?_);rintro en w5 ⟨rfl,F',S',g1,g2,g3,g4⟩;have D6:=ab (HK0.out w4 HB4.out w5 g4);have G5:=ab (And.intro g1 (And.intro g2 (And.intro g3 g4)));clear g1 g2 g3 g4))
 have HW2:=HW.out;have HT2:=HT.out;rw[HP.out]at HW2 HT2;have HG5:=G5.out;have HPc2:=HPc.out;have HS3:=HS2.out;clear HP HPc HW CA G5 HT HS2;generalize aZ u.store E=X at *;obtain⟨m,no,r⟩:=X;dsimp only at HPc2 HW2 HG5 HT2 HS3 ⊢;obtain⟨F2,S2,r1,r2,r3⟩:=(H.out.below HB4.out).restore HG5.1 HG5.2.1 HG5.2.2.1 HG5.2.2.2;have hz4:=HB4.out.size;have HR5:=ab r1;have HF5:=ab (show(∀k,F2 k->F k\/W.heap.size<=k)/\(∀k,S2 k->S k\/W.heap.size<=k) from⟨λk hk=>(r2 k hk).imp id (λh=>Nat.le_trans hz4 h),λk hk=>(r3 k hk).imp id (λh=>Nat.le_trans hz4 h)⟩);have HK5:=ab ((Kept.an (F:=F) HB4.out).trans HG5.2.2.2 (λk h=> .inl h));have HW5:=ab HW2;have HPc:=ab HPc2;have HT5:=ab HT2;have HSm:=ab HS3;clear HPc2 HG5 hz4 r1 r2 r3 HW2 HT2 HS3 D0 D1 D2 D3 D4 D5 D6 V1 V2 V3 V4 HB1 HB2 HB3 HK0 HS CR c0 c1 c2 c3 c4 c5 c6;by_cases hr0:r=0;rotate_left
 · have HR:=ab (show bS u ep n=({ u with store:=m },r.toNat) from by rw[HW5.out,if_pos hr0]);have q5:(r != 0)=true:=by simpa using hr0
   have HRn:=ab (show((r.toNat:Nat):Int)=r by have:=HPc.out;omega);clear hr0
   go_wp2_with fail
   go_ret
   rw[HR.out];refine⟨by rw[HRn.out];rfl,_,S2,HR5.out.ru,λk hk=> ?_,HF5.out.2,HK5.out.mono (λk _ hk=> .inl hk)⟩;rcases hk with hk|hk
   · exact(HF5.out.1 k hk).imp .inl id
   · exact .inl (.inr hk)
 subst hr0;have HR:=ab (show bS u ep n=({ u with store:=dj u.rows n m.ae.length m,trimmed:=n },0) from by rw[HW5.out,if_neg (by simp),HT5.out rfl]);clear HW5 HPc HT5;obtain⟨hq5,c0,c1,c2,c3,c4,c5,c6,fz⟩:=HR5.out.facts;have HE:=ab (HR5.out.pI (u':= { u with store:=m,trimmed:=n }) 4 (.int .i64 (n:Int)) rfl rfl rfl);have HKe:=ab ((Kept.refl (λk=>k=q) w5).setCell (p:=⟨q,4,none⟩) (.inl rfl) (.int .i64 (n:Int)))
 have HStart:=ab (show ∃ (s':aC) (F3 S3:Nat->Prop),Hid (bT (w5.setCell ⟨q,4,none⟩ (.int .i64 (n:Int))) F3 S3 q p va vp vi rs { u with store:=s',trimmed:=n })/\Hid (Small s')/\Hid (dj u.rows n s'.ae.length s'=dj u.rows n m.ae.length m)/\Hid ((∀k,F3 k->F2 k\/(w5.setCell ⟨q,4,none⟩ (.int .i64 (n:Int))).heap.size<=k)/\(∀k,S3 k->S2 k\/(w5.setCell ⟨q,4,none⟩ (.int .i64 (n:Int))).heap.size<=k)/\Kept F2 (w5.setCell ⟨q,4,none⟩ (.int .i64 (n:Int))) (w5.setCell ⟨q,4,none⟩ (.int .i64 (n:Int)))) from
  ⟨m,F2,S2,HE,HSm,ab rfl,ab ⟨λk h=> .inl h,λk h=> .inl h,Kept.refl _ _⟩⟩)
 have HSz:=ab (show(w5.setCell ⟨q,4,none⟩ (.int .i64 (n:Int))).heap.size=w5.heap.size from World.size_setCell _ _ _)
 go_wp2_with fail
 clear c0 c1 c2 c3 c4 c5 c6 fz hq5;generalize w5.setCell ⟨q,4,none⟩ (.int .i64 (n:Int))=w6 at *;have HFin:=ab (λ(s':aC) (F3 S3:Nat->Prop) (wx:World) (hx:bT wx F3 S3 q p va vp vi rs { u with store:=s',trimmed:=n }) (ht:dj u.rows n m.ae.length m=s') (hf:(∀k,F3 k->F2 k\/w6.heap.size<=k)/\(∀k,S3 k->S2 k\/w6.heap.size<=k)/\Kept F2 w6 wx)=>show jB W (λk=>F k\/dW q va vp vi k) S q (bS u ep n) (.returned (.int .i64 0)) wx from by
  rw[HR.out,ht];have hz:=HK5.out.size;have hz6:=HSz.out;refine⟨rfl,_,S3,hx.ru,λk hk=> ?_,λk hk=> ?_,?_⟩
  · rcases hk with hk|hk
    · rcases hf.1 k hk with h|h
      · exact(HF5.out.1 k h).imp .inl id
      · exact .inr (by omega)
    · exact .inl (.inr hk)
  · rcases hf.2.1 k hk with h|h
    · exact HF5.out.2 k h
    · exact .inr (by omega)
  · exact((HK5.out.mono (λk _ h=> .inl h)).trans HKe.out (λk h=> .inl (.inr (.inl h)))).trans hf.2.2 (λk hk=>by
     rcases HF5.out.1 k hk with h|h
     · exact .inl (.inl h)
     · exact .inr h))
 go_loopw [] (λwr=>∃ (s':aC) (F3 S3:Nat->Prop),Hid (bT wr F3 S3 q p va vp vi rs { u with store:=s',trimmed:=n })/\Hid (Small s')/\Hid (dj u.rows n s'.ae.length s'=dj u.rows n m.ae.length m)/\Hid ((∀k,F3 k->F2 k\/w6.heap.size<=k)/\(∀k,S3 k->S2 k\/w6.heap.size<=k)/\Kept F2 w6 wr)) (λwr=>pC p wr)
 case atStart=>exact HStart.out
 case round=>
  obtain⟨s',F3,S3,hU,hSm,hTl,hF⟩:=hrel;obtain⟨hq6,c0,c1,c2,c3,c4,c5,c6,fz⟩:=hU.out.facts;obtain⟨gs,vs,hgs,hW⟩:=hU.out.store;obtain⟨hpl,d0,d1,dfz⟩:=hW.block.facts;obtain⟨As,cs,rfl,hcs,_⟩:=hW.kN;have hgl:s'.ae.length=gs.length:=by have h9:s'.ae=gs.map aw.d:=hgs;rw[h9,List.length_map]
  have HN:=ab (uj hU.out.store);have hle:=hSm.out.ae;obtain⟨L,hL⟩:=aa gs.length;rw[hL]at d1 hgl;by_cases h2:1 < L;rotate_left
  · have q3:decide ((1:Int) < (L:Int))=false:=decide_eq_false (by omega);have HL:=ab (show s'.ae.length<=1 by omega);clear hgs hW hgl hle hL hcs
    go_wp2_with fail
    go_ret
    exact HFin.out s' F3 S3 wr hU.out (by rw[<-hTl.out,zQ HL.out]) hF.out
  have q3:decide ((1:Int) < (L:Int))=true:=decide_eq_true (by omega);obtain⟨P,ae⟩:=s';dsimp only at hgl hle hgs;obtain⟨g,hh,r,hseg⟩:∃g hh r,ae=g :: hh :: r:=by
   match ae,hgl with
   | [],e=>simp at e;omega
   | [_],e=>simp at e;omega
   | g :: hh :: r,_=>exact⟨g,hh,r,rfl⟩
  subst hseg;have hg0:0 < gs.length:=by omega
  obtain⟨bs,cc,hv,hbb,e0,e1,e2,e3⟩:=hW.cells 0 hg0;injection hv with i1 _ i3;subst i1 i3;have hgn:(gs[0]).d=g:=by
   have:(gs.map aw.d)[0]? =some g:=by rw[<-hgs];rfl
   rw[List.getElem?_map,List.getElem?_eq_getElem hg0]at this;simpa using this
  rw[hgn]at e0 e1 e2;obtain⟨x,hx⟩:=aa g.number;rw[hx]at e1;have hxl:x<=100000:=by rw[<-hx];exact(hSm.out.each g (by simp)).2.1
  have HX:=ab hx;have CD:=ab (B6 hU.out.store hSm.out (x:Int));obtain⟨Ai,ci,hvi,_,_⟩:=fA hU.out.ins;obtain⟨Aa,ca,hva,_,_⟩:=fA hU.out.fH;obtain⟨R,hR⟩:=aa u.rows.length;dsimp only at hvi hva;rw[hR]at hvi hva;rw[hvi]at c3;rw[hva]at c1;have HRr:=ab hR;have HVi:=ab (And.intro hvi hva);clear hgs hW hgl hle hL hcs hgn hx hvi hva hR e0 e2 e3
  go_wp2_with fail
  go_loopw [75] (λi wz=>∃j:Nat,i= .int .i64 j/\j<=R/\Hid (∀k (hk:k < u.rows.length),k < j->¬((u.rows[k]).aQ=x/\n<=(u.rows[k]).af))/\wz=wr) (λi _=>R - (intOf i).toNat)
  case atStart=>exact⟨0,rfl,Nat.zero_le _,ab (λk _ hk=>absurd hk (Nat.not_lt_zero k)),rfl⟩
  case round=>
   obtain⟨j,rfl,hj,hne,rfl⟩:=hrel;by_cases hlj:j < R
   · have hjr:j < u.rows.length:=by rw[HRr.out];exact hlj
     have hri:=hU.out.ins;have hra:=hU.out.fH;rw[HVi.out.1]at hri;rw[HVi.out.2]at hra;obtain⟨bi,ki,vvi,hbi,f0⟩:=mD hri (zp _ _ hjr);obtain⟨ba,ka,vva,hba,f1⟩:=mD hra (vT _ _ hjr);injection vvi with j1 _ j3;injection vva with j4 _ j6;subst j1 j3 j4 j6;obtain⟨y,hy⟩:∃y:Nat,(u.rows[j]).aQ=y:=⟨_,rfl⟩;obtain⟨z,hz⟩:∃z:Nat,(u.rows[j]).af=z:=⟨_,rfl⟩;rw[hy]at f0;rw[hz]at f1;have HY:=ab (And.intro hy hz);clear hri hra hy hz;by_cases hyx:y=x
     · subst hyx;by_cases hzn:n<=z
       · have q5:decide ((n:Int)<=(z:Int))=true:=decide_eq_true (by omega);have HSt:=ab (zR (P:=P) (g:=g) (h:=hh) (r:=r) (to:=n) hjr (by rw[HY.out.1,HX.out]) (by rw[HY.out.2];exact hzn))
         go_wp2_with fail
         go_ret
         exact HFin.out _ F3 S3 _ hU.out (by rw[<-hTl.out,HSt.out]) hF.out
       · have q5:decide ((n:Int)<=(z:Int))=false:=decide_eq_false (by omega);have HNe:=ab (show ∀k (hk:k < u.rows.length),k < j+1->¬((u.rows[k]).aQ=y/\n<=(u.rows[k]).af) from λk hk hkj h=>by
          by_cases hkj2:k=j
          · subst hkj2;rw[HY.out.2]at h;exact hzn h.2
          · exact hne.out k hk (by omega) h)
         go_wp2_with fail
         go_roundw
         case rel=>exact⟨j+1,by go_num,by omega,HNe,trivial⟩
         case measure=>simp[intOf];omega
     · have q4:((y:Int) == (x:Int))=false:=beq_eq_false_iff_ne.2 (by omega);have q4':(y == x)=false:=beq_eq_false_iff_ne.2 hyx;have HNe:=ab (show ∀k (hk:k < u.rows.length),k < j+1->¬((u.rows[k]).aQ=x/\n<=(u.rows[k]).af) from λk hk hkj h=>by
        by_cases hkj2:k=j
        · subst hkj2;rw[HY.out.1]at h;exact hyx h.1
        · exact hne.out k hk (by omega) h)
       go_wp2_with fail
       go_roundw
       case rel=>exact⟨j+1,by go_num,by omega,HNe,trivial⟩
       case measure=>simp[intOf];omega
   · have hje:j=R:=by omega
     subst hje;have HNx:=ab (zP (P:=P) (g:=g) (h:=hh) (r:=r) (to:=n) (λk hk hs=>hne.out k hk (by rw[HRr.out]at hk;exact hk) (by rw[HX.out]at hs;exact hs)))
     go_wp2_with fail
     refine CD.out.mono ?_;rintro e w9 ⟨rfl,F4,g1,g2,g3⟩;have hdr:=xU P g hh r;rw[HX.out]at hdr;rw[hdr]at g1;obtain⟨F5,S5,r1,r2,r3⟩:=hU.out.restore (S':=S3) g1 g2 (λk h=> .inl h) g3;have HSeg:=ab (uj g1);have HU9:=ab (show bT w9 F5 S5 q p va vp vi rs { u with store:=⟨P,hh :: r⟩,trimmed:=n } from r1);have hz6:=hF.out.2.2.size;have HF9:=ab (show(∀k,F5 k->F2 k\/w6.heap.size<=k)/\(∀k,S5 k->S2 k\/w6.heap.size<=k)/\Kept F2 w6 w9 from⟨λk hk=>by
      rcases r2 k hk with h|h
      · exact hF.out.1 k h
      · exact .inr (by omega),λk hk=>by
      rcases r3 k hk with h|h
      · exact hF.out.2.1 k h
      · exact .inr (by omega),hF.out.2.2.trans g3 (λk hk=>hF.out.1 k hk)⟩)
     have HSm9:=ab (show Small ⟨P,hh :: r⟩from⟨hSm.out.places,by have:=hSm.out.ae;simp only[List.length_cons]at this ⊢;omega,λy hy=>hSm.out.each y (List.mem_cons_of_mem _ hy)⟩);have HTl9:=ab (show dj u.rows n (⟨P,hh :: r⟩:aC).ae.length ⟨P,hh :: r⟩=dj u.rows n m.ae.length m from by rw[<-hTl.out];exact HNx.out.symm);clear hdr g1 g2 g3 r1 r2 r3 hz6 CD
     go_wp2_with fail
     go_roundw
     case rel=>exact⟨⟨P,hh :: r⟩,F5,S5,HU9,HSm9,HTl9,HF9⟩
     case measure=>rw[HSeg.out,HN.out];simp
end
end Go.Proofs.YtiafamacjpgjoaaGreatDoor
