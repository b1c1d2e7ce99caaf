import Derived.Test.YtiafamacjpgjoaaGreatDoorGUrS
import Derived.Deep.DeepCutAuto
import Derived.Deep.CutBlock
import Derived.IntWalk
set_option maxRecDepth 100000
set_option maxHeartbeats 60000000
namespace Go.Proofs.YtiafamacjpgjoaaGreatDoor
open Go Go.RowKit Tide
section
variable {W:World} {F S G:Nat->Prop} {q p:Nat} {va vp vi:Value} {rs:List Value} {u:ah}
theorem Dn (h:bT W F S q p va vp vi rs u) (hs:Small u.store) (hr:u.rows.length<=5000) (ep a:Int) {v:Value} {b:List UInt8} (hv:Bytes W W.heap.size v b) (hap:∀k,v.ownBlock=some k->¬(F k\/dW q va vp vi k)):Calls Tryz.prog 84 #[.pointer (some ⟨q,0,none⟩),.int .i64 ep,.int .i64 a,v] W (jB W (λk=>F k\/dW q va vp vi k) S q (aT u ep a b)):=by
 obtain⟨hq,c0,c1,c2,c3,c4,c5,c6,_⟩:=h.facts;obtain⟨A,c,rfl,_,_,_⟩:=hv.form;have CC:=ab (pa h ep a 4095);have CH:=ab (Cy h a);have H:=ab h;have HV:=ab hv;obtain⟨K,hK⟩:=aa (bG u.ag ep a 4095);rw[hK]at CC;by_cases h1:K=0;rotate_left
 · have HR:=ab (show aT u ep a b=(u,K) from by unfold aT;rw[hK,if_pos h1]);have q1:((K:Int) != 0)=true:=by simp;omega
   clear h hv hK h1 hap CH
   go_enter Tryz.func84,Tryz.ntmps84
   go_wp2_with fail
   refine CC.out.mono ?_;rintro e w1 ⟨rfl,rfl⟩
   go_wp2_with fail
   go_ret
   rw[HR.out];exact gT H.out (Below.refl _ _)
 subst h1;have HN0:=ab (show ¬bG u.ag ep a 4095≠0 from by rw[hK];simp);have hchk:=qV hK;clear hK;obtain⟨n,rfl⟩:∃n:Nat,a=n:=⟨a.toNat,by omega⟩;have hn4:n<=4095:=by omega
 cases q1:decide ((b.length:Int) < 1) with
 | true=>
   have HR:=ab (show aT u ep n b=(u,3) from by unfold aT;rw[if_neg HN0.out,if_pos (.inl (by have:=of_decide_eq_true q1;omega))])
   go_enter Tryz.func84,Tryz.ntmps84
   go_wp2_with fail
   refine CC.out.mono ?_;rintro e w1 ⟨rfl,rfl⟩
   go_wp2_with fail
   go_ret
   rw[HR.out];exact gT H.out (Below.refl _ _)
 | false=>
 cases q2:decide ((2048:Int) < (b.length:Int)) with
 | true=>
   have HR:=ab (show aT u ep n b=(u,3) from by unfold aT;rw[if_neg HN0.out,if_pos (.inr (by have:=of_decide_eq_true q2;omega))])
   go_enter Tryz.func84,Tryz.ntmps84
   go_wp2_with fail
   refine CC.out.mono ?_;rintro e w1 ⟨rfl,rfl⟩
   go_wp2_with fail
   go_ret
   rw[HR.out];exact gT H.out (Below.refl _ _)
 | false=>
 have HN1:=ab (show ¬(b.length < 1\/2048 < b.length) from by have e1:=of_decide_eq_false q1;have e2:=of_decide_eq_false q2;omega);cases q3:decide ((n:Int) < (u.trimmed:Int)) with
 | true=>
   have HR:=ab (show aT u ep n b=(u,11) from by unfold aT;rw[if_neg HN0.out,if_neg HN1.out,if_pos (of_decide_eq_true q3)]);have q3':=of_decide_eq_true q3;clear q3
   go_enter Tryz.func84,Tryz.ntmps84
   go_wp2_with fail
   refine CC.out.mono ?_;rintro e w1 ⟨rfl,rfl⟩
   go_wp2_with fail
   go_ret
   rw[HR.out];exact gT H.out (Below.refl _ _)
 | false=>
 have HN2:=ab (show ¬(n:Int) < (u.trimmed:Int) from of_decide_eq_false q3);have q3':=of_decide_eq_false q3;clear q3;cases hh:gJ u n with
 | true=>
   have HR:=ab (show aT u ep n b=(u,9) from by unfold aT;rw[if_neg HN0.out,if_neg HN1.out,if_neg HN2.out,if_pos hh]);rw[hh]at CH;clear hh
   go_enter Tryz.func84,Tryz.ntmps84
   go_wp2_with fail
   refine CC.out.mono ?_;rintro e w1 ⟨rfl,rfl⟩
   go_wp2_with fail
   refine CH.out.mono ?_;rintro e w1 ⟨rfl,rfl⟩
   go_wp2_with fail
   go_ret
   rw[HR.out];exact gT H.out (Below.refl _ _)
 | false=>
 rw[hh]at CH;have cv:=fT hv
 have HW:=ab (show aT u ep n b=if(aA u ⟨1,n,0,b⟩).2.2≠0 then({ u with store:=(aA u ⟨1,n,0,b⟩).1 },(aA u ⟨1,n,0,b⟩).2.2.toNat)
  else({ u with store:=(aA u ⟨1,n,0,b⟩).1,rows:=u.rows ++ [⟨n,b,(aA u ⟨1,n,0,b⟩).2.1.toNat⟩],top:=max u.top (n+1) },0) from by unfold aT;rw[if_neg HN0.out,if_neg HN1.out,if_neg HN2.out,if_neg (by rw[hh];simp),Int.toNat_natCast])
 clear hh
 go_enter Tryz.func84,Tryz.ntmps84
 go_wp2_with fail
 refine CC.out.mono ?_;rintro e w1 ⟨rfl,rfl⟩
 go_wp2_with fail
 refine CH.out.mono ?_;rintro e w1 ⟨rfl,rfl⟩;have HS:=ab (λ(W':World) (hb:Below W.heap.size W W')=>show W'.cell? ⟨q,0,none⟩=some (.pointer (some ⟨p,0,none⟩))/\(convert 47 9 (.slice A b.length c)).run Tryz.prog W'= .ok (.string (text b)) W' from⟨(hb.cell (p:=⟨q,0,none⟩) hq).trans c0,fT (hv.below hb)⟩);have CN1:=ab (λ(W':World)=>show Calls Tryz.prog 64 #[.int .i64 1] W' (iE (aq 1) W') from iQ 1 W' (by omega));have CN2:=ab (λ(W':World)=>iQ n W' (by omega));have CT:=ab (λ(W':World)=>Dg (text b) W' (by have:=HN1.out;show b.length<=65536;omega));have CR:=ab (λ(W':World) (v1 v2 v3:Value) (h1:Bytes W' W'.heap.size v1 (aq 1)) (h2:Bytes W' W'.heap.size v2 (aq n)) (h3:Bytes W' W'.heap.size v3 (eB (text b)))=>show Calls Tryz.prog 63 #[.slice (some ⟨W'.heap.size,0,none⟩) 3 3] (W'.alloc (.cells #[v1,v2,v3] 47)) (iE (ax ⟨1,n,0,b⟩) (W'.alloc (.cells #[v1,v2,v3] 47))) from by
  have:=po (by rw[World.size_alloc];omega) (dX.sS 47 W'.heap.size rfl (Nat.le_refl _) h1 h2 h3) (by simp) (by
   have e1:=fY (n:=1) (by omega);have e2:=fY (n:=n) (by omega);have e3:(eB (text b)).length<=9+b.length:=by have:=fY (n:=b.length) (by have:=HN1.out;omega);show(aq b.length ++ b).length<=_;rw[List.length_append];omega
   have:=HN1.out;intro x hx;simp only[List.mem_cons,List.not_mem_nil,or_false]at hx;rcases hx with rfl|rfl|rfl<;>omega)
  have e:ax ⟨1,n,0,b⟩= [aq 1,aq n,eB (text b)].flatten:=by unfold ax;rw[if_pos rfl];show aq 1 ++ aq n ++ (aq b.length ++ b)=_;simp[eB,text];rfl
  rw[e];exact this)
 have CA:=ab (λ(W':World) (hb:Below W.heap.size W W') (v4:Value) (h4:W'.ownsRow W.heap.size 5 1 v4 (ax ⟨1,n,0,b⟩).length (al (ax ⟨1,n,0,b⟩)))=>o9 (h.store.below hb) hs (Bytes.cm h4) (Nat.le_refl _) (λk e hf=>by have h5:=(h4.lt k e).1;have h6:=h.lt k (.inl hf);omega));have HK0:=ab (λ(W':World) (hb:Below W.heap.size W W') (w'':World) (hk:Kept F W' w'')=>show w''.cell? ⟨q,0,none⟩=some (.pointer (some ⟨p,0,none⟩))/\(convert 47 9 (.slice A b.length c)).run Tryz.prog w''= .ok (.string (text b)) w'' from⟨(hk.cell (p:=⟨q,0,none⟩) (Nat.lt_of_lt_of_le hq hb.size) (λhf=>(h.bF q (.inl rfl)).1 hf)).trans ((hb.cell (p:=⟨q,0,none⟩) hq).trans c0),fT (j9 (hv.below hb) hb.size hk (λk e hf=>hap k e (.inl hf)))⟩);have HQ:=ab hq;have HAp:=ab hap;clear CC CH h hs hv hap hq cv;have HP:=ab (show aA u ⟨1,n,0,b⟩=aZ u.store (ax ⟨1,n,0,b⟩) from rfl);have HPc:=ab (nA u.store (ax ⟨1,n,0,b⟩));generalize ax ⟨1,n,0,b⟩=E at *;generalize aq 1=l1 at *;generalize aq n=l2 at *;generalize eB (text b)=l3 at *
 go_wp2_with fail
 have D0:=ab (HS.out _ ((nD W).drew))
 go_region_held3 (λW'=>W'.cell? ⟨q,0,none⟩=some (.pointer (some ⟨p,0,none⟩))/\(convert 47 9 (.slice A b.length c)).run Tryz.prog W'= .ok (.string (text b)) W')
  (first|exact D0.out|exact D1.out|exact D2.out|exact D3.out|exact D4.out|exact D5.out|exact D6.out|assumption)
  (first
    | (go_at_call 64;(with_reducible refine(CN1.out _).mono ?_);rintro en w1 ⟨v1,rfl,ho1,hb1⟩;obtain⟨A1,k1,rfl,_,_⟩:=fA ho1;have HB1:=ab (((Below.refl W.heap.size W).drew).trans (hb1.mono (Nat.le_refl _)));have D1:=ab (HS.out _ HB1.out);have V1:=ab (Bytes.cm ho1);clear ho1 hb1)
    | (go_at_call 64;(with_reducible refine(CN2.out _).mono ?_);rintro en w2 ⟨v2,rfl,ho2,hb2⟩;obtain⟨A2,k2,rfl,_,_⟩:=fA ho2;have HB2:=ab (HB1.out.trans (hb2.mono HB1.out.size));have D2:=ab (HS.out _ HB2.out);have V2:=ab (And.intro ((V1.out.below hb2).more hb2.size) (Bytes.cm ho2));clear ho2 hb2)
    | (go_at_call 125;(with_reducible refine(CT.out _).mono ?_);rintro en w3 ⟨v3,rfl,ho3,hb3⟩;obtain⟨A3,k3,rfl,_,_⟩:=fA ho3;have HB3:=ab (HB2.out.trans (hb3.mono HB2.out.size));have D3:=ab (HS.out _ HB3.out);have V3:=ab (And.intro ((V2.out.1.below hb3).more hb3.size) (And.intro ((V2.out.2.below hb3).more hb3.size) (Bytes.cm ho3)));have D4:=ab (HS.out (w3.alloc (.cells #[.slice A1 l1.length k1,.slice A2 l2.length k2,.slice A3 l3.length k3] 47)) (HB3.out.alloc HB3.out.size _));clear ho3 hb3)
    | (go_at_call 63;(with_reducible refine(CR.out w3 _ _ _ V3.out.1 V3.out.2.1 V3.out.2.2).mono ?_);rintro en w4 ⟨v4,rfl,ho4,hb4⟩;obtain⟨A4,k4,rfl,_,_⟩:=fA ho4;have HB4:=ab ((HB3.out.alloc HB3.out.size _).trans (hb4.mono (Nat.le_trans HB3.out.size (by rw[World.size_alloc];omega))));have D5:=ab (HS.out _ HB4.out);have V4:=ab (ff ho4 (Nat.le_trans HB3.out.size (by rw[World.size_alloc];omega)));clear ho4 hb4)
    | (go_at_call 62;(with_reducible refine(CA.out w4 HB4.out _ V4.out).mono ?_);rintro en w5 ⟨rfl,F',S',g1,g2,g3,g4⟩;have D6:=ab (HK0.out w4 HB4.out w5 g4);have G5:=ab (And.intro g1 (And.intro g2 (And.intro g3 g4)));clear g1 g2 g3 g4))
 have HW2:=HW.out;rw[HP.out]at HW2;have HG5:=G5.out;have HPc2:=HPc.out;have hNo:=λh=>vW (s:=u.store) (b:=E) h;clear HP HPc HW CA G5;generalize aZ u.store E=X at *;obtain⟨m,no,r⟩:=X;dsimp only at HPc2 HW2 HG5 hNo ⊢;have HPc:=ab HPc2;have G5:=ab HG5;have HNo1:=ab hNo;clear HG5 HPc2 hNo;obtain⟨F2,S2,r1,r2,r3⟩:=(H.out.below HB4.out).restore G5.out.1 G5.out.2.1 G5.out.2.2.1 G5.out.2.2.2;have hz4:=HB4.out.size;have HR5:=ab r1;have HF5:=ab (show(∀k,F2 k->F k\/W.heap.size<=k)/\(∀k,S2 k->S k\/W.heap.size<=k) from⟨λk hk=>(r2 k hk).imp id (λh=>Nat.le_trans hz4 h),λk hk=>(r3 k hk).imp id (λh=>Nat.le_trans hz4 h)⟩);have HK5:=ab ((Kept.an (F:=F) HB4.out).trans G5.out.2.2.2 (λk h=> .inl h));have HV5:=ab (j9 (HV.out.below HB4.out) hz4 G5.out.2.2.2 (λk e hf=>HAp.out k e (.inl hf)));have HW5:=ab HW2;clear hz4 r1 r2 r3 G5 HW2 D0 D1 D2 D3 D4 D5 D6 V1 V2 V3 V4 HB1 HB2 HB3 HK0 HS CN1 CN2 CT CR c0 c1 c2 c3 c4 c5 c6;by_cases hr0:r=0;rotate_left
 · have HR:=ab (show aT u ep n b=({ u with store:=m },r.toNat) from by rw[HW5.out,if_pos hr0]);have q4:(r != 0)=true:=by simpa using hr0
   have HRn:=ab (show((r.toNat:Nat):Int)=r by have:=HPc.out;omega);clear hr0
   go_wp2_with fail
   go_ret
   rw[HR.out];refine⟨by rw[HRn.out];rfl,_,S2,HR5.out.ru,λk hk=> ?_,HF5.out.2,HK5.out.mono (λk _ hk=> .inl hk)⟩;rcases hk with hk|hk
   · exact(HF5.out.1 k hk).imp .inl id
   · exact .inl (.inr hk)
 subst hr0;have HR:=ab (show aT u ep n b=({ u with store:=m,rows:=u.rows ++ [⟨n,b,no.toNat⟩],top:=max u.top (n+1) },0) from by rw[HW5.out,if_neg (by simp)]);clear HW5 HPc;have HT:=ab (λ(W':World) (hk:Kept (iG va vp vi) w5 W')=>show W'.cell? ⟨q,1,none⟩=some va/\W'.cell? ⟨q,2,none⟩=some vp/\W'.cell? ⟨q,3,none⟩=some vi from by obtain⟨hq5,c0,c1,c2,c3,c4,c5,c6,fz⟩:=HR5.out.facts;have hnq:=HR5.out.mY;exact⟨(hk.cell (p:=⟨q,1,none⟩) hq5 hnq).trans c1,(hk.cell (p:=⟨q,2,none⟩) hq5 hnq).trans c2,(hk.cell (p:=⟨q,3,none⟩) hq5 hnq).trans c3⟩);obtain⟨la,hla⟩:=aa (az (gG u));obtain⟨li,hli⟩:=aa (az (gM u));have HP0:=ab (show bB w5 (iG va vp vi) va vp vi la rs li [] [] [] w5.drew from by rw[<-hla,<-hli];exact HR5.out.BK.drew);have HL:=ab (show la.length<=100000/\rs.length<=100000/\li.length<=100000 from by have h2:=HR5.out.aD.1;rw[<-hla,<-hli,km,km];unfold gG gM;rw[List.length_map,List.length_map];dsimp only at h2;exact⟨by omega,by omega,by omega⟩);have HLa:=ab (And.intro hla hli);clear hla hli;have HLb:=ab (show b.length<=100000 from by have:=HN1.out;omega);have HV9:=ab (λ(W':World) (hk:Kept (iG va vp vi) w5 W')=>show Bytes W' W.heap.size (.slice A b.length c) b from j9 HV5.out HK5.out.size hk (λk e hr=>HAp.out k e (.inr (.inr hr))));have HNo:=ab (show((no.toNat:Nat):Int)=no from HNo1.out rfl);have HQ9:=ab (λ(W':World) (hk:Kept (iG va vp vi) w5 W')=>show fO q (.pointer (some ⟨p,0,none⟩)) va vp vi (.int .i64 (u.trimmed:Int)) (.int .i64 (u.ag:Int)) (.int .i64 (u.top:Int)) W' from hk.heap HR5.out.cells HR5.out.mY);have HFL:=ab (λ(xa xp xi x:Value) (sm:List (Nat × Value)) (em:List Nat) (w8 w9:World) (hp:bB w5 (iG va vp vi) xa xp xi (la ++ [.int .i64 (n:Int)]) (rs ++ [x]) (li ++ [.int .i64 no]) [(x,b)] sm em w8) (hk:Kept (λk=>k=q) w8 w9) (hc:fO q (.pointer (some ⟨p,0,none⟩)) xa xp xi (.int .i64 (u.trimmed:Int)) (.int .i64 (u.ag:Int)) (.int .i64 (u.top:Int)) w9)=>show ns w5 F2 S2 q p va vp vi { u with store:=m,rows:=u.rows ++ [⟨n,b,no.toNat⟩] } w9 from by rw[<-HNo.out]at hp;obtain⟨e1,e2⟩:=HLa.out;subst e1 e2;exact BL (no:=no.toNat) HR5.out hp hk hc)
 go_upto_region 13 with fail
 go_cut []from 55 to 86 (λwx=>ns w5 F2 S2 q p va vp vi { u with store:=m,rows:=u.rows ++ [⟨n,b,no.toNat⟩] } wx)
 case first=>
  refine wp_region_any (by kernel_rfl) ?_;change wpAny _ _ _ _ 35 #[false,false,false,false,false,false,false,false,false,false,false,false,false,false,false,false,false,false,false,false,false,false,false,false,false,false,false,false,false,false,false,false,false,false,false] _ (World.drew _);refine fF 0 55 (v:= ?v1) rfl rfl (by kernel_rfl) (by kernel_rfl) (by kernel_rfl) (λ_ _ _ h=>h) (Or.inl ⟨by rfl,?h1⟩) ?r1
  case h1=>
   intro w
   go_simp
   try with_reducible rfl
  simp only[List.setIfInBounds_toArray,List.set_cons_zero,List.set_cons_succ];refine fF 1 56 (v:= ?v2) rfl rfl (by kernel_rfl) (by kernel_rfl) (by kernel_rfl) (λ_ _ _ h=>h) (Or.inl ⟨by rfl,?h2⟩) ?r2
  case h2=>
   intro w
   go_simp
   try with_reducible rfl
  simp only[List.setIfInBounds_toArray,List.set_cons_zero,List.set_cons_succ];refine fF 2 57 (v:= ?v3) rfl rfl (by kernel_rfl) (by kernel_rfl) (by kernel_rfl) (λ_ _ _ h=>h) (Or.inl ⟨by rfl,?h3⟩) ?r3
  case h3=>
   intro w
   go_simp
   try with_reducible rfl
  simp only[List.setIfInBounds_toArray,List.set_cons_zero,List.set_cons_succ];refine fF 3 58 (v:= ?v4) rfl rfl (by kernel_rfl) (by kernel_rfl) (by kernel_rfl) (λ_ _ _ h=>h) (Or.inl ⟨by rfl,?h4⟩) ?r4
  case h4=>
   intro w
   go_simp
   try with_reducible rfl
  simp only[List.setIfInBounds_toArray,List.set_cons_zero,List.set_cons_succ];refine fF 4 59 (v:= ?v5) rfl rfl (by kernel_rfl) (by kernel_rfl) (by kernel_rfl) (λ_ _ _ h=>h) (Or.inl ⟨by rfl,?h5⟩) ?r5
  case h5=>
   intro w
   go_simp
   try with_reducible rfl
  simp only[List.setIfInBounds_toArray,List.set_cons_zero,List.set_cons_succ];refine fF 5 60 (v:= ?v6) rfl rfl (by kernel_rfl) (by kernel_rfl) (by kernel_rfl) (λ_ _ _ h=>h) (Or.inl ⟨by rfl,?h6⟩) ?r6
  case h6=>
   intro w
   go_simp
   try with_reducible rfl
  simp only[List.setIfInBounds_toArray,List.set_cons_zero,List.set_cons_succ];refine fF 7 62 (v:= ?v7) rfl rfl (by kernel_rfl) (by kernel_rfl) (by kernel_rfl) (λ_ _ _ h=>h) (Or.inl ⟨by rfl,?h7⟩) ?r7
  case h7=>
   intro w
   go_simp
   try with_reducible rfl
  simp only[List.setIfInBounds_toArray,List.set_cons_zero,List.set_cons_succ];refine fF 10 65 (v:= ?v8) rfl rfl (by kernel_rfl) (by kernel_rfl) (by kernel_rfl) (λ_ _ _ h=>h) (Or.inl ⟨by rfl,?h8⟩) ?r8
  case h8=>
   intro w
   go_simp
   try with_reducible rfl
  simp only[List.setIfInBounds_toArray,List.set_cons_zero,List.set_cons_succ];refine fF 11 66 (v:= ?v9) rfl rfl (by kernel_rfl) (by kernel_rfl) (by kernel_rfl) (λ_ _ _ h=>h) (Or.inl ⟨by rfl,?h9⟩) ?r9
  case h9=>
   intro w
   go_simp
   try with_reducible rfl
  simp only[List.setIfInBounds_toArray,List.set_cons_zero,List.set_cons_succ];refine fF 12 67 (v:= ?v10) rfl rfl (by kernel_rfl) (by kernel_rfl) (by kernel_rfl) (λ_ _ _ h=>h) (Or.inl ⟨by rfl,?h10⟩) ?r10
  case h10=>
   intro w
   go_simp
   try with_reducible rfl
  simp only[List.setIfInBounds_toArray,List.set_cons_zero,List.set_cons_succ];refine fF 15 70 (v:= ?v11) rfl rfl (by kernel_rfl) (by kernel_rfl) (by kernel_rfl) (λ_ _ _ h=>h) (Or.inl ⟨by rfl,?h11⟩) ?r11
  case h11=>
   intro w
   go_simp
   try with_reducible rfl
  simp only[List.setIfInBounds_toArray,List.set_cons_zero,List.set_cons_succ];refine fF 19 74 (v:= ?kM) rfl rfl (by kernel_rfl) (by kernel_rfl) (by kernel_rfl) (λ_ _ _ h=>h) (Or.inl ⟨by rfl,?h12⟩) ?r12
  case h12=>
   intro w
   go_simp
   try with_reducible rfl
  simp only[List.setIfInBounds_toArray,List.set_cons_zero,List.set_cons_succ];refine fF 20 75 (v:= ?jx) rfl rfl (by kernel_rfl) (by kernel_rfl) (by kernel_rfl) (λ_ _ _ h=>h) (Or.inl ⟨by rfl,?h13⟩) ?r13
  case h13=>
   intro w
   go_simp
   try with_reducible rfl
  simp only[List.setIfInBounds_toArray,List.set_cons_zero,List.set_cons_succ];refine fF 21 76 (v:= ?v14) rfl rfl (by kernel_rfl) (by kernel_rfl) (by kernel_rfl) (λ_ _ _ h=>h) (Or.inl ⟨by rfl,?h14⟩) ?r14
  case h14=>
   intro w
   go_simp
   try with_reducible rfl
  simp only[List.setIfInBounds_toArray,List.set_cons_zero,List.set_cons_succ];refine fF 23 78 (v:= ?v15) rfl rfl (by kernel_rfl) (by kernel_rfl) (by kernel_rfl) (λ_ _ _ h=>h) (Or.inl ⟨by rfl,?h15⟩) ?r15
  case h15=>
   intro w
   go_simp
   try with_reducible rfl
  simp only[List.setIfInBounds_toArray,List.set_cons_zero,List.set_cons_succ];refine qG (T:=λW'=>W'.cell? ⟨q,1,none⟩=some va/\W'.cell? ⟨q,2,none⟩=some vp/\W'.cell? ⟨q,3,none⟩=some vi) (st:=28) _ _ _ _ ?_;have hT0:=HT.out _ HP0.out.kept;refine pP 6 61 (v:=va) rfl rfl (by kernel_rfl) (by kernel_rfl) (by kernel_rfl) (by decide) (by kernel_rfl) (λ_ _ _ h=>h) (Or.inl ⟨by rfl,?h16⟩) hT0 (by kernel_rfl) ?r16
  case h16=>
   intro w hSw;obtain⟨t1,t2,t3⟩:=hSw
   go_simp
   try with_reducible rfl
  simp only[List.setIfInBounds_toArray,List.set_cons_zero,List.set_cons_succ];refine pP 13 68 (v:=vp) rfl rfl (by kernel_rfl) (by kernel_rfl) (by kernel_rfl) (by decide) (by kernel_rfl) (λ_ _ _ h=>h) (Or.inl ⟨by rfl,?h17⟩) hT0 (by kernel_rfl) ?r17
  case h17=>
   intro w hSw;obtain⟨t1,t2,t3⟩:=hSw
   go_simp
   try with_reducible rfl
  simp only[List.setIfInBounds_toArray,List.set_cons_zero,List.set_cons_succ];refine pP 22 77 (v:=vi) rfl rfl (by kernel_rfl) (by kernel_rfl) (by kernel_rfl) (by decide) (by kernel_rfl) (λ_ _ _ h=>h) (Or.inl ⟨by rfl,?h18⟩) hT0 (by kernel_rfl) ?r18
  case h18=>
   intro w hSw;obtain⟨t1,t2,t3⟩:=hSw
   go_simp
   try with_reducible rfl
  simp only[List.setIfInBounds_toArray,List.set_cons_zero,List.set_cons_succ];have P:=HP0;clear HP0 hT0
  repeat' (first
   | (have t:=w25
      clear t;refine ed (rs:= [26]) (by kernel_rfl) (by simp) ?_;refine a6.cons rfl (λK hK=> ?_) a6.nil
      go_simp
      refine hK.out _ _ (HT.out _ P.out.kept) ?_;clear hK K;refine ed (rs:= [27]) (by kernel_rfl) (by simp) ?_;refine a6.cons rfl (λK hK=> ?_) a6.nil
      go_simp
      refine hK.out _ _ (HT.out _ P.out.kept) ?_;clear hK K;simp only[List.setIfInBounds_toArray,List.set_cons_zero,List.set_cons_succ];have E25:=ab (HQ9.out _ P.out.kept);obtain⟨hl25,fz25,t1,t2,t3⟩:=E25.out.facts;refine storeT (by kernel_rfl) rfl (λK hK=> ?_)
      go_simp
      refine hK.out _ _ ?_;clear hK K hl25 fz25 t1 t2 t3;have E26:=ab (E25.out.pE (.slice (some ⟨g9,0,none⟩) (la.length+1) c9));have K26:=ab ((Kept.refl (λk=>k=q) w25).setCell (p:=⟨q,1,none⟩) (.inl rfl) (.slice (some ⟨g9,0,none⟩) (la.length+1) c9));generalize w25.setCell ⟨q,1,none⟩ (.slice (some ⟨g9,0,none⟩) (la.length+1) c9)=w26 at *;obtain⟨hl25,fz25,t1,t2,t3⟩:=E26.out.facts;refine wpAny_ready (rs:= [29]) (by kernel_rfl) (by simp) ?_;refine AllReady.cons rfl (λK hK=> ?_) AllReady.nil
      go_simp
      refine hK _ _ ?_;clear hK K;refine wpAny_ready (rs:= [30]) (by kernel_rfl) (by simp) ?_;refine AllReady.cons rfl (λK hK=> ?_) AllReady.nil
      go_simp
      refine hK _ _ ?_;clear hK K;simp only[List.setIfInBounds_toArray,List.set_cons_zero,List.set_cons_succ];refine wpAny_ready (rs:= [31]) (by kernel_rfl) (by simp) ?_;refine AllReady.cons rfl (λK hK=> ?_) AllReady.nil
      go_simp
      refine hK _ _ ?_;clear hK K hl25 fz25 t1 t2 t3;have E27:=ab (E26.out.pF (.slice (some ⟨g18,0,none⟩) (rs.length+1) c18));have K27:=ab (K26.out.setCell (p:=⟨q,2,none⟩) (.inl rfl) (.slice (some ⟨g18,0,none⟩) (rs.length+1) c18));generalize w26.setCell ⟨q,2,none⟩ (.slice (some ⟨g18,0,none⟩) (rs.length+1) c18)=w27 at *;obtain⟨hl25,fz25,t1,t2,t3⟩:=E27.out.facts;refine wpAny_ready (rs:= [32]) (by kernel_rfl) (by simp) ?_;refine AllReady.cons rfl (λK hK=> ?_) AllReady.nil
      go_simp
      refine hK _ _ ?_;clear hK K;refine wpAny_ready (rs:= [33]) (by kernel_rfl) (by simp) ?_;refine AllReady.cons rfl (λK hK=> ?_) AllReady.nil
      go_simp
      refine hK _ _ ?_;clear hK K;simp only[List.setIfInBounds_toArray,List.set_cons_zero,List.set_cons_succ];refine wpAny_ready (rs:= [34]) (by kernel_rfl) (by simp) ?_;refine AllReady.cons rfl (λK hK=> ?_) AllReady.nil
      go_simp
      refine hK _ _ ?_;clear hK K hl25 fz25 t1 t2 t3;have E28:=ab (E27.out.pG (.slice (some ⟨g25,0,none⟩) (li.length+1) c25));have K28:=ab (K27.out.setCell (p:=⟨q,3,none⟩) (.inl rfl) (.slice (some ⟨g25,0,none⟩) (li.length+1) c25));generalize w27.setCell ⟨q,3,none⟩ (.slice (some ⟨g25,0,none⟩) (li.length+1) c25)=w28 at *;refine wpAny_done (by kernel_rfl) ?_ _
      go_wp2_with fail
      go_meet
      exact HFL.out _ _ _ _ _ _ _ _ P.out K28.out E28.out)
   | (have hK:=h8;clear h8;refine bB.uD P.out (by exact rfl) (.tmp 62) (by exact rfl) (n:Int) (by exact rfl) ?_;intro g8 w8 hp;refine hK.out _ _ (HT.out _ hp.kept) ?_;replace P:=ab hp;clear hp hK K;change eo _ _ _ _ _ _ _ _ ⟨Array.setIfInBounds _ 63 _,_⟩ _;simp only[List.setIfInBounds_toArray,List.set_cons_zero,List.set_cons_succ])
   | (have hK:=h9;clear h9;refine bB.DQ P.out (λk e=> .inl e) HL.out.1 (by exact rfl) (.tmp 61) (.tmp 63) (by exact rfl) g8 (n:Int) (by simp) (by exact rfl) (by exact rfl) ?_;intro g9 c9 w9 hp;refine hK.out _ _ (HT.out _ hp.kept) ?_;replace P:=ab hp;clear hp hK K;change eo _ _ _ _ _ _ _ _ ⟨Array.setIfInBounds _ 64 _,_⟩ _;simp only[List.setIfInBounds_toArray,List.set_cons_zero,List.set_cons_succ])
   | (have hK:=h14;clear h14;refine bB.DR P.out (by exact rfl) (by exact rfl) ?_;intro g14 w14 hp;refine hK.out _ _ (HT.out _ hp.kept) ?_;replace P:=ab hp;clear hp hK K;change eo _ _ _ _ _ _ _ _ ⟨Array.setIfInBounds _ 69 _,_⟩ _;simp only[List.setIfInBounds_toArray,List.set_cons_zero,List.set_cons_succ])
   | (have hK:=h16;clear h16;refine bB.DU P.out (HV9.out _ P.out.kept) HLb.out (by exact rfl) (.tmp 69) (.tmp 70) (by exact rfl) (by exact rfl) (by exact rfl) ?_;intro A16 c16 w16 hp;refine hK.out _ _ (HT.out _ hp.kept) ?_;replace P:=ab hp;clear hp hK K;change eo _ _ _ _ _ _ _ _ ⟨Array.setIfInBounds _ 71 _,_⟩ _;simp only[List.setIfInBounds_toArray,List.set_cons_zero,List.set_cons_succ])
   | (have hK:=h17;clear h17;refine bB.DS P.out (by exact rfl) (.tmp 71) (by exact rfl) A16 b.length c16 (by exact rfl) ?_;intro g17 w17 hp;refine hK.out _ _ (HT.out _ hp.kept) ?_;replace P:=ab hp;clear hp hK K;change eo _ _ _ _ _ _ _ _ ⟨Array.setIfInBounds _ 72 _,_⟩ _;simp only[List.setIfInBounds_toArray,List.set_cons_zero,List.set_cons_succ])
   | (have hK:=h18;clear h18;refine bB.DV P.out (λk e=> .inr (.inl e)) HL.out.2.1 (by exact rfl) (.tmp 68) (.tmp 72) (by exact rfl) g17 (.slice A16 b.length c16) rfl (by simp) (by exact rfl) (by exact rfl) ?_;intro g18 c18 w18 hp;refine hK.out _ _ (HT.out _ hp.kept) ?_;replace P:=ab hp;clear hp hK K;change eo _ _ _ _ _ _ _ _ ⟨Array.setIfInBounds _ 73 _,_⟩ _;simp only[List.setIfInBounds_toArray,List.set_cons_zero,List.set_cons_succ])
   | (have hK:=h24;clear h24;refine bB.uD P.out (by exact rfl) (.tmp 78) (by exact rfl) no (by exact rfl) ?_;intro g24 w24 hp;refine hK.out _ _ (HT.out _ hp.kept) ?_;replace P:=ab hp;clear hp hK K;change eo _ _ _ _ _ _ _ _ ⟨Array.setIfInBounds _ 79 _,_⟩ _;simp only[List.setIfInBounds_toArray,List.set_cons_zero,List.set_cons_succ])
   | (have hK:=h25;clear h25;refine bB.DT P.out (λk e=> .inr (.inr e)) HL.out.2.2 (by exact rfl) (.tmp 77) (.tmp 79) (by exact rfl) g24 no (by simp) (by exact rfl) (by exact rfl) ?_;intro g25 c25 w25 hp;refine hK.out _ _ (HT.out _ hp.kept) ?_;replace P:=ab hp;clear hp hK K;change eo _ _ _ _ _ _ _ _ ⟨Array.setIfInBounds _ 80 _,_⟩ _;simp only[List.setIfInBounds_toArray,List.set_cons_zero,List.set_cons_succ])
   | (have t:=w18;clear t;have t:=w24;clear t;refine ed (rs:= [25]) (by kernel_rfl) (by simp) ?_;refine a6.cons rfl (λK h25=> ?_) a6.nil)
   | (have t:=w18;clear t;refine ed (rs:= [24]) (by kernel_rfl) (by simp) ?_;refine a6.cons rfl (λK h24=> ?_) a6.nil)
   | (have t:=w17;clear t;have t:=w24;clear t;refine ed (rs:= [18]) (by kernel_rfl) (by simp) ?_;refine a6.cons rfl (λK h18=> ?_) a6.nil)
   | (have t:=w17;clear t;refine ed (rs:= [18,24]) (by kernel_rfl) (by simp) ?_;refine a6.cons rfl (λK h18=> ?_) (a6.cons rfl (λK h24=> ?_) a6.nil))
   | (have t:=w16;clear t;have t:=w24;clear t;refine ed (rs:= [17]) (by kernel_rfl) (by simp) ?_;refine a6.cons rfl (λK h17=> ?_) a6.nil)
   | (have t:=w16;clear t;refine ed (rs:= [17,24]) (by kernel_rfl) (by simp) ?_;refine a6.cons rfl (λK h17=> ?_) (a6.cons rfl (λK h24=> ?_) a6.nil))
   | (have t:=w9;clear t;have t:=w14;clear t;have t:=w24;clear t;refine ed (rs:= [16]) (by kernel_rfl) (by simp) ?_;refine a6.cons rfl (λK h16=> ?_) a6.nil)
   | (have t:=w9;clear t;have t:=w14;clear t;refine ed (rs:= [16,24]) (by kernel_rfl) (by simp) ?_;refine a6.cons rfl (λK h16=> ?_) (a6.cons rfl (λK h24=> ?_) a6.nil))
   | (have t:=w9;clear t;have t:=w24;clear t;refine ed (rs:= [14]) (by kernel_rfl) (by simp) ?_;refine a6.cons rfl (λK h14=> ?_) a6.nil)
   | (have t:=w8;clear t;have t:=w14;clear t;have t:=w24;clear t;refine ed (rs:= [9]) (by kernel_rfl) (by simp) ?_;refine a6.cons rfl (λK h9=> ?_) a6.nil)
   | (have t:=w9;clear t;refine ed (rs:= [14,24]) (by kernel_rfl) (by simp) ?_;refine a6.cons rfl (λK h14=> ?_) (a6.cons rfl (λK h24=> ?_) a6.nil))
   | (have t:=w8;clear t;have t:=w14;clear t;refine ed (rs:= [9,24]) (by kernel_rfl) (by simp) ?_;refine a6.cons rfl (λK h9=> ?_) (a6.cons rfl (λK h24=> ?_) a6.nil))
   | (have t:=w8;clear t;have t:=w24;clear t;refine ed (rs:= [9,14]) (by kernel_rfl) (by simp) ?_;refine a6.cons rfl (λK h9=> ?_) (a6.cons rfl (λK h14=> ?_) a6.nil))
   | (have t:=w14;clear t;have t:=w24;clear t;refine ed (rs:= [8]) (by kernel_rfl) (by simp) ?_;refine a6.cons rfl (λK h8=> ?_) a6.nil)
   | (have t:=w8;clear t;refine ed (rs:= [9,14,24]) (by kernel_rfl) (by simp) ?_;refine a6.cons rfl (λK h9=> ?_) (a6.cons rfl (λK h14=> ?_) (a6.cons rfl (λK h24=> ?_) a6.nil)))
   | (have t:=w14;clear t;refine ed (rs:= [8,24]) (by kernel_rfl) (by simp) ?_;refine a6.cons rfl (λK h8=> ?_) (a6.cons rfl (λK h24=> ?_) a6.nil))
   | (have t:=w24;clear t;refine ed (rs:= [8,14]) (by kernel_rfl) (by simp) ?_;refine a6.cons rfl (λK h8=> ?_) (a6.cons rfl (λK h14=> ?_) a6.nil))
   | (refine ed (rs:= [8,14,24]) (by kernel_rfl) (by simp) ?_;refine a6.cons rfl (λK h8=> ?_) (a6.cons rfl (λK h14=> ?_) (a6.cons rfl (λK h24=> ?_) a6.nil))))
 case rest=>
  obtain⟨xa,xp,xi,ss,S3,e1,e2,e3,e4⟩:=hcut;have HE1:=ab e1;have HE:=ab (And.intro e2 (And.intro e3 e4));obtain⟨hq5,c0,c1,c2,c3,c4,c5,c6,fz⟩:=e1.facts;dsimp only at c4 c5 c6;clear e1 e2 e3 e4;have HFin:=ab (λ(t:Nat) (wx:World) (hx:bT wx F2 S3 q p xa xp xi ss { u with store:=m,rows:=u.rows ++ [⟨n,b,no.toNat⟩],top:=t }) (hk:Kept (λk=>k=q) wc wx) (ht:t=max u.top (n+1))=>show jB W (λk=>F k\/dW q va vp vi k) S q (aT u ep n b) (.returned (.int .i64 0)) wx from by
   subst ht;rw[HR.out];refine⟨rfl,_,S3,hx.ru,λk hk=> ?_,λk hk=> ?_,?_⟩
   · rcases hk with hk|hk
     · exact(HF5.out.1 k hk).imp .inl id
     · exact(HE.out.2.1 k hk).imp .inr (λh=>Nat.le_trans HK5.out.size h)
   · exact(HE.out.1 k hk).elim (HF5.out.2 k) (λh=> .inr (Nat.le_trans HK5.out.size h))
   · exact(((HK5.out.mono (λk _ h=> .inl h)).trans HE.out.2.2 (λk h=> .inl (.inr h))).trans hk (λk h=> .inl (.inr (.inl h)))))
  obtain⟨t,ht⟩:=aa u.top;have HTt:=ab ht;rw[ht]at c6;clear ht;have hw1:IntKind.i64.wrap ((n:Int)+1)=(n:Int)+1:=IntWalk.i64_in _ (by omega);have hw2:wrap64 ((n:Int)+1)=(n:Int)+1:=by unfold wrap64;omega
  by_cases hlt:(t:Int) < (n:Int)+1
  · have q5:decide ((t:Int) < (n:Int)+1)=true:=decide_eq_true hlt;have HLt:=ab hlt;clear hlt
    go_wp2_with fail
    go_ret
    clear hw1 hw2;exact HFin.out (n+1) _ (HE1.out.pI 6 _ rfl rfl rfl) ((Kept.refl (λk=>k=q) wc).setCell (p:=⟨q,6,none⟩) (.inl rfl) _) (by have:=HLt.out;have:=HTt.out;omega)
  · have q5:decide ((t:Int) < (n:Int)+1)=false:=decide_eq_false hlt;have HLt:=ab hlt;clear hlt
    go_wp2_with fail
    go_ret
    clear hw1 hw2;exact HFin.out t wc (by have:=HE1.out;rw[<-HTt.out];exact this) (Kept.refl _ _) (by have:=HLt.out;have:=HTt.out;omega)
end
end Go.Proofs.YtiafamacjpgjoaaGreatDoor
