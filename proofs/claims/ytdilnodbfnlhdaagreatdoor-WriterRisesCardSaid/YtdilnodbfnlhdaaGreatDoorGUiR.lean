import Derived.Test.YtdilnodbfnlhdaaGreatDoorGPackN
import Derived.Test.YtdilnodbfnlhdaaGreatDoorGConv
import Derived.Test.YtdilnodbfnlhdaaGreatDoorGPackD
import Derived.Test.YtdilnodbfnlhdaaGreatDoorGClone
import Derived.Test.YtdilnodbfnlhdaaGreatDoorGPackO
import Derived.Test.YtdilnodbfnlhdaaGreatDoorGErr
import Derived.Test.YtdilnodbfnlhdaaGreatDoorGMem
import Derived.Test.YtdilnodbfnlhdaaGreatDoorGBits7
import Derived.IntWalk
set_option maxRecDepth 100000
set_option maxHeartbeats 2000000
namespace Go.Proofs.YtdilnodbfnlhdaaGreatDoor
open Go.RowKit Tide
def mN (a:Nat->Addr) (l:List UInt8) (w:World) (e:Ending) (w':World):Prop:=
 ∃x,e= .returned (.tuple #[.int .i64 ((rdNum l).2.1:Nat),.int .i64 ((rdNum l).2.2:Nat),x])/\bf a x (rdNum l).1/\Below w.heap.size w w'
theorem Da (D j:Nat) (hD:D < 128) (hj:j<=8):wrap64 ((D:Int) * 2 ^ (7 * j))=((D * 128 ^ j:Nat):Int):=by
 have h8:128 ^ j<=128 ^ 8:=Nat.pow_le_pow_right (by omega) hj;have hm:D * 128 ^ j<=127 * 128 ^ 8:=Nat.mul_le_mul (by omega) h8;have e:((D:Int) * 2 ^ (7 * j))=((D * 128 ^ j:Nat):Int):=by
  rw[show(128:Nat)=2 ^ 7 from rfl,<-Nat.pow_mul]
  push_cast
  rfl
 rw[e];exact IntWalk.wrap64_in _ (by omega)
theorem Aa (l:List UInt8) (j D:Nat) (h:j < l.length) (hj:j<=8) (hD:l[j].toNat % 128=D):bits .or .i64 ((bS (l.take j):Nat):Int) ((D * 128 ^ j:Nat):Int)=((bS (l.take (j+1)):Nat):Int):=by rw[x5 _ D j (by omega) hj (oY l j),tX l j h,hD]
theorem zw (a:Nat->Addr) (v:Value) (l:List UInt8) (B:Nat) (w:World) (hp:Bytes w B v l) (hl:l.length<=100000) (hE:ar w a):
 Calls Tryz.prog 139 #[v] w (mN a l w):=by
 obtain⟨A,c,rfl,_,_,hb⟩:=hp.form;have HB:=ab hb;have hg1:=hE.var 1 (by omega);have hg3:=hE.var 3 (by omega);simp only[bA,List.getD_cons_zero,List.getD_cons_succ]at hg1 hg3;have hm:min (l.length:Int) 9=((min l.length 9:Nat):Int):=by omega
 obtain⟨M,hM⟩:=aa (min l.length 9);rw[hM]at hm;have HM:=ab hM;have hM9:M<=9:=by omega
 have hMl:M<=l.length:=by omega
 clear hb hp hE hM hm
 go_enter Tryz.func139,Tryz.ntmps139
 go_wp2_with fail
 all_goals
  go_loop [5,10] (λn i=>∃j:Nat,i= .int .i64 j/\j<=M/\n= .int .i64 (bS (l.take j):Nat)/\Hid (∀c ∈ l.take j,128<=c.toNat)) (λ_ i=>M - (intOf i).toNat)
  case atStart=>exact⟨0,rfl,Nat.zero_le _,rfl,ab (by simp)⟩
  case round=>
   obtain⟨j,rfl,hj,rfl,ha⟩:=hrel;by_cases hlt:j < M
   · have hj8:j<=8:=by omega
     have hjl:j < l.length:=by omega
     have hin:(j:Int) < (l.length:Int):=by omega
     have hin9:(j:Int) < 9:=by omega
     obtain⟨b,o,rfl,_,hcs⟩:=HB.out j hjl;have hc:=hcs j hjl;clear hcs;have hrl:=ab (λh=>Bp ha.out hjl hj8 h);have hnext:=ab (show 128<=l[j].toNat->∀c ∈ l.take (j+1),128<=c.toNat from λh c hc=>by
      rw[List.take_succ_eq_append_getElem hjl]at hc;rcases List.mem_append.1 hc with hc|hc
      · exact ha.out c hc
      · rw[List.mem_singleton.1 hc];exact h)
     have hcl:=l[j].toNat_lt;obtain⟨D,hD⟩:=aa (l[j].toNat % 128);have hD1:D < 128:=by omega
     have e1:bits .and .u8 (l[j].toNat:Int) 127=(D:Int):=by rw[Ec,hD]
     have e2:=Eb l[j];have e3:=Da D j hD1 hj8;have e4:=Aa l j D hjl hj8 hD;have HA:=ha;clear ha hD;generalize l[j].toNat=C at *;generalize bS (l.take j)=V at *;generalize hV':bS (l.take (j+1))=V' at *;generalize D * 128 ^ j=S at *;by_cases h128:128<=C
     · have e5:((C / 128 * 128:Nat):Int)=128:=by omega
       rw[e5]at e2;have HN:=ab (hnext.out h128);clear hrl hnext e5
       go_wp2_with fail
       go_round
       case rel=>exact⟨j+1,by go_num,by omega,by rw[hV'],HN⟩
       case measure=>simp[intOf];omega
     · have e5:((C / 128 * 128:Nat):Int)=0:=by omega
       rw[e5]at e2;have HR:=ab (hrl.out (by omega));clear hrl hnext e5;by_cases hC:C=0
       · have q1:((C:Int) == 0)=true:=by simp[hC]
         by_cases hz:0 < j
         · have hrd:=ab (show rdNum l=(4,0,0) by rw[HR.out,if_pos (.inl ⟨hC,hz⟩)]);have q2:decide (0 < j)=true:=by simp;omega
           have q3:¬j=0:=by omega
           clear hC hz HR
           go_wp2_with fail
           go_quiet (fail)
           go_wp2_with fail
           go_ret3
           exact⟨_,by rw[hrd.out];rfl,by rw[hrd.out];exact bo a 3 (by omega),⟨rfl,rfl,rfl,Nat.le_refl _,λ_ _=>rfl⟩⟩
         · have hv0:V'<=4611686018427387903:=by have:=oY l (j+1);rw[hV',show j=0 by omega]at this;omega
           have hrd:=ab (show rdNum l=(0,V',j+1) by rw[HR.out,if_neg (by omega)]);have q2:decide (0 < j)=false:=by simp;omega
           have q3:¬0 < j:=by omega
           have q4:decide ((4611686018427387903:Int) < (V':Int))=false:=by simp;omega
           clear hC hz HR
           go_wp2_with fail
           go_ret3
           exact⟨_,by rw[hrd.out];rfl,by rw[hrd.out];exact ec a,Below.refl _ _⟩
       · have q1:((C:Int) == 0)=false:=by simp[hC]
         by_cases hv:4611686018427387903 < V'
         · have hrd:=ab (show rdNum l=(4,0,0) by rw[HR.out,if_pos (.inr hv)]);have q4:decide ((4611686018427387903:Int) < (V':Int))=true:=by simp;omega
           clear HR
           go_wp2_with fail
           go_quiet (fail)
           go_wp2_with fail
           go_ret3
           exact⟨_,by rw[hrd.out];rfl,by rw[hrd.out];exact bo a 3 (by omega),⟨rfl,rfl,rfl,Nat.le_refl _,λ_ _=>rfl⟩⟩
         · have hrd:=ab (show rdNum l=(0,V',j+1) by rw[HR.out,if_neg (by omega)]);have q4:decide ((4611686018427387903:Int) < (V':Int))=false:=by simp;omega
           clear HR
           go_wp2_with fail
           go_ret3
           exact⟨_,by rw[hrd.out];rfl,by rw[hrd.out];exact ec a,Below.refl _ _⟩
   · have hjM:j=M:=by omega
     by_cases h9:l.length < 9
     · have hml:M=l.length:=by have:=HM.out;omega
       have hrd:=ab (show rdNum l=(2,0,0) from Bt (λc hc=>ha.out c (by rw[hjM,hml,List.take_length];exact hc)) h9);have q5:decide ((l.length:Int) < 9)=true:=by simp;omega
       have q6:decide ((j:Int) < (l.length:Int))=false:=by simp;omega
       have q7:¬j < l.length:=by omega
       first
       | (exfalso;omega)
       | (clear hjM hml
          go_wp2_with fail
          go_quiet (fail)
          go_wp2_with fail
          go_ret3
          exact⟨_,by rw[hrd.out];rfl,by rw[hrd.out];exact bo a 1 (by omega),⟨rfl,rfl,rfl,Nat.le_refl _,λ_ _=>rfl⟩⟩)
     · have hml:M=9:=by have:=HM.out;omega
       have hrd:=ab (show rdNum l=(4,0,0) from Br (λc hc=>ha.out c (by rw[hjM,hml];exact hc)) (by omega));have q5:decide ((l.length:Int) < 9)=false:=by simp;omega
       have q6:decide ((j:Int) < 9)=false:=by simp;omega
       clear hjM hml;by_cases h10:9 < l.length
       · first
         | (exfalso;omega)
         | (go_wp2_with fail
            go_quiet (fail)
            go_wp2_with fail
            go_ret3
            exact⟨_,by rw[hrd.out];rfl,by rw[hrd.out];exact bo a 3 (by omega),⟨rfl,rfl,rfl,Nat.le_refl _,λ_ _=>rfl⟩⟩)
       · have q9:¬j < l.length:=by have:=HM.out;omega
         first
         | (exfalso;omega)
         | (go_wp2_with fail
            go_quiet (fail)
            go_wp2_with fail
            go_ret3
            exact⟨_,by rw[hrd.out];rfl,by rw[hrd.out];exact bo a 3 (by omega),⟨rfl,rfl,rfl,Nat.le_refl _,λ_ _=>rfl⟩⟩)
end Go.Proofs.YtdilnodbfnlhdaaGreatDoor
namespace Go.Proofs.YtdilnodbfnlhdaaGreatDoor
open Go.RowKit Tide
def ed (a:Nat->Addr):mL:=λW F B p l e=>B<=W.heap.size/\F p/\(∀k,F k->B<=k/\k < W.heap.size)/\cG a F/\∃v x,aH W p 256 v x/\bf a x e/\dQ W (λk=>F k/\k≠p) v l
section
variable {a:Nat->Addr} {W W':World} {F G:Nat->Prop} {B p e:Nat} {l:List UInt8}
theorem yh (h:ed a W F B p l e):B<=W.heap.size/\∀k,F k->B<=k/\k < W.heap.size:=⟨h.1,h.2.2.1⟩
theorem kp (h:ed a W F B p l e) (hk:Kept G W W') (hd:∀k,F k->¬G k):ed a W' F B p l e:=by obtain⟨h1,h2,h3,hA,v,x,h4,h5,h6⟩:=h;exact⟨Nat.le_trans h1 hk.size,h2,λk hf=>⟨(h3 k hf).1,Nat.lt_of_lt_of_le (h3 k hf).2 hk.size⟩,hA,v,x,h4.kept hk (hd p h2),h5,h6.kept hk (λk hf=>⟨hd k hf.1,(h3 k hf.1).2⟩)⟩
theorem lC (h:ed a W F B p l e):∃A c x,aH W p 256 (.slice A l.length c) x/\bf a x e/\dQ W (λk=>F k/\k≠p) (.slice A l.length c) l:=by obtain⟨_,_,_,_,v,x,h4,h5,h6⟩:=h;have h6':=h6;obtain⟨_,A,c,rfl,_⟩:=h6';exact⟨A,c,x,h4,h5,h6⟩
theorem kr (h:ed a W F B p l e) {w2:World} {v' x':Value} {l':List UInt8} {e':Nat} (hk:Kept (λk=>k=p) W w2) (hT:aH w2 p 256 v' x') (hx:bf a x' e') (hb:dQ W (λk=>F k/\k≠p) v' l'):
 ed a w2 F B p l' e'/\(∀k,F k->F k\/W.heap.size<=k)/\Kept F W w2:=by
 obtain⟨h1,h2,h3,hA,_⟩:=h;exact⟨⟨Nat.le_trans h1 hk.size,h2,λk hf=>⟨(h3 k hf).1,Nat.lt_of_lt_of_le (h3 k hf).2 hk.size⟩,hA,v',x',hT,hx,hb.kept hk (λk hf=>⟨hf.2,(h3 k hf.1).2⟩)⟩,λk hf=> .inl hf,hk.mono λi _ hi=>by subst hi;exact h2⟩
end
theorem od (a:Nat->Addr) (w:World) (v:Value) (B:Nat) (l:List UInt8) (hv:Bytes w B v l) (hB:B<=w.heap.size) (hl:l.length<=100000) (hE:ar w a):
 Calls Tryz.prog 90 #[v] w λe w'=>∃p F,e= .returned (.pointer (some ⟨p,0,none⟩))/\ed a w' F B p l 0/\(∀k,F k->w.heap.size<=k)/\Below w.heap.size w w':=by
 have cC:=ab (gP v l B w hv hB (by omega));have HE:=ab hE;obtain⟨A0,c0,rfl,_,_,_⟩:=hv.form;clear hv hE
 go_enter Tryz.func90,Tryz.ntmps90
 go_wp2_with fail
 refine cC.out.mono ?_;rintro e w1 ⟨v1,rfl,ho,hb⟩;obtain⟨A,c,hv1⟩:=iD ho;rw[hv1]at ho ⊢;have HO:=ab ho;have HB:=ab hb;clear ho hb hv1 v1
 go_wp2_with fail
 go_ret
 have hs:=HB.out.size;have hbel:Below w.heap.size w (w1.alloc (.cells #[.slice A l.length c,.nilIface] 256)):=HB.out.alloc hs _;refine⟨w1.heap.size,λk=>w.heap.size<=k/\k < w1.heap.size+1,rfl,⟨Nat.le_trans hB hbel.size,⟨hs,Nat.lt_succ_self _⟩,λk hf=>⟨Nat.le_trans hB hf.1,by simpa using hf.2⟩,cG.new HE.out (λk hf=>hf.1),_,_,aH.new _ _ _ _,ec a,?_⟩,λk hf=>hf.1,hbel⟩;have hbi:dQ w1 (λk=>(w.heap.size<=k/\k < w1.heap.size+1)/\k≠w1.heap.size) (.slice A l.length c) l:=dQ.dm HO.out (λk h1 h2=>⟨⟨h1,by omega⟩,by omega⟩);exact hbi.kept (Kept.al (F:=λ_=>False) ((Below.refl _ _).alloc (Nat.le_refl _) _)) (λk hf=>⟨λh=>h,by have:=hf.1.2;have:=hf.2;omega⟩)
theorem yc (a:Nat->Addr) (W:World) (F:Nat->Prop) (B p:Nat) (l:List UInt8) (e:Nat) (h:ed a W F B p l e) (hE:ar W a):
 Calls Tryz.prog 94 #[.pointer (some ⟨p,0,none⟩)] W λen w'=>(∃x,en= .returned x/\bf a x (ix l e))/\Below W.heap.size W w':=by
 obtain⟨A,c,x,h4,h5,_⟩:=lC h;obtain⟨_,g0,g1,gf⟩:=h4.facts;have hg:=hE.var 3 (by omega);simp only[bA,List.getD_cons_zero,List.getD_cons_succ]at hg;clear h h4 hE;rcases h5 with⟨rfl,rfl⟩|⟨m,hm,rfl,rfl⟩
 · by_cases hl:l.length=0
   · have hq:decide ((0:Int) < (l.length:Int))=false:=decide_eq_false (by omega);have hq2:¬0 < l.length:=by omega
     have hN:=ab (show ix l 0=0 by have:l= []:=List.eq_nil_of_length_eq_zero hl;subst this;rfl);clear hl
     go_enter Tryz.func94,Tryz.ntmps94
     go_wp2_with fail
     go_ret
     exact⟨⟨_,rfl,by rw[hN.out];exact ec a⟩,Below.refl _ _⟩
   · have hq:decide ((0:Int) < (l.length:Int))=true:=decide_eq_true (by omega);have hq2:0 < l.length:=by omega
     have hN:=ab (show ix l 0=4 by cases l with|nil=>exact absurd rfl hl|cons=>rfl);clear hl
     go_enter Tryz.func94,Tryz.ntmps94
     go_wp2_with fail
     go_ret
     exact⟨⟨_,rfl,by rw[hN.out];exact bo a 3 (by omega)⟩,Below.refl _ _⟩
 · have hN:=ab (show ix l (m+1)=m+1 from if_pos (by omega))
   go_enter Tryz.func94,Tryz.ntmps94
   go_wp2_with fail
   go_ret
   exact⟨⟨_,rfl,by rw[hN.out];exact bo a m hm⟩,Below.refl _ _⟩
end Go.Proofs.YtdilnodbfnlhdaaGreatDoor
namespace Go.Proofs.YtdilnodbfnlhdaaGreatDoor
open Go.RowKit Tide
theorem Bq (l:List UInt8):(rdNum l).2.2<=l.length:=by
 unfold rdNum;have hh:=qS 8 l;cases e:l[high 8 l]? with
 | none=>simp
 | some b=>have:=(List.getElem?_eq_some_iff.1 e).1;simp only;split<;>simp<;>omega
abbrev jj (a:Nat->Addr) (W:World) (F:Nat->Prop) (B p:Nat) (l:List UInt8) (e:Nat) (most:Int):Ending->World->Prop:=
 kY (ed a) W F B p (dq l e most).1 (dq l e most).2.1 λv _=>v= .int .i64 ((dq l e most).2.2:Nat)
theorem yw (a:Nat->Addr) (W:World) (F:Nat->Prop) (B p:Nat) (l:List UInt8) (m:Nat) (most:Int) (h:ed a W F B p l (m+1)):
 Calls Tryz.prog 91 #[.pointer (some ⟨p,0,none⟩),.int .i64 most] W (jj a W F B p l (m+1) most):=by
 have hN:=ab (show dq l (m+1) most=(l,m+1,0) from if_pos (by omega));have H:=ab h;obtain⟨A,c,x,h4,h5,_⟩:=lC h;obtain⟨_,g0,g1,gf⟩:=h4.facts;clear h h4;rcases h5 with⟨h0,_⟩|⟨m',hm,_,rfl⟩
 · omega
 · go_enter Tryz.func91,Tryz.ntmps91
   go_wp2_with fail
   go_ret
   exact⟨_,F,rfl,by rw[hN.out];rfl,by rw[hN.out];exact H.out,λk hf=> .inl hf,Kept.refl _ _⟩
theorem yx (a:Nat->Addr) (W:World) (F:Nat->Prop) (B p:Nat) (l:List UInt8) (most:Int) (h:ed a W F B p l 0) (hl:l.length<=100000) (hE:ar W a):
 Calls Tryz.prog 91 #[.pointer (some ⟨p,0,none⟩),.int .i64 most] W (jj a W F B p l 0 most):=by
 have H:=ab h;obtain⟨A,c,x,h4,h5,h6⟩:=lC h;have H4:=ab h4;have hx:x= .nilIface:=by
  rcases h5 with⟨_,h⟩|⟨m,_,h0,_⟩
  · exact h
  · omega
 subst hx;obtain⟨_,g0,g1,gf⟩:=h4.facts;have cN:=ab (zw a (.slice A l.length c) l W.heap.size W (h6.bytes (λk hf=>(h.2.2.1 k hf.1).2)) hl hE);have HE:=ab hE;by_cases hbad:(rdNum l).1=0
 · obtain⟨A',c',l',hl',hcut,hbi⟩:=pS h6 (rdNum l).2.2 ((rdNum l).2.2:Nat) rfl (Bq l);have HBI:=ab hbi;have hB0:=ab hbad;have hN:=ab (show dq l 0 most=if most < ((rdNum l).2.1:Int) then(l',1,0) else(l',0,(rdNum l).2.1) by unfold dq;rw[if_neg (by simp),if_neg (by rw[hbad];simp),hl'.out]);have hnum:=cN.out;unfold mN at hnum;have hc2:=ab hnum;clear cN hnum hbad h4 h6 h hE hbi h5;generalize (rdNum l).2.1=n at *;generalize (rdNum l).2.2=k at *;generalize (rdNum l).1=er at *;obtain rfl:=hB0.out
   go_enter Tryz.func91,Tryz.ntmps91
   go_wp2_with fail
   refine hc2.out.mono ?_;rintro e w1 ⟨x1,rfl,hx1,hb1⟩;have hx1n:x1= .nilIface:=by
    rcases hx1 with⟨_,h⟩|⟨m,_,h0,_⟩
    · exact h
    · omega
   rw[hx1n];have HB1:=ab hb1;have T1:=ab (H4.out.below hb1 H4.out.lt);obtain⟨_,k0,k1,kf⟩:=T1.out.facts;have hg:=(HE.out.below hb1).var 0 (by omega);simp only[bA,List.getD_cons_zero]at hg;have hgp:¬p=4:=λe=>(H.out.2.2.2.1 0 (by omega)).1 (by rw[show bA.getD 0 0=4 from rfl,<-e];exact H.out.2.1);have hin:=ab (kp H.out (Kept.al (F:=λ_=>False) hb1) (λ_ _ h=>h));have hbi1:=ab (HBI.out.kept (Kept.al (F:=λ_=>False) hb1) (λk hf=>⟨λh=>h,(H.out.2.2.1 k hf.1).2⟩));clear hx1 hb1 hx1n x1 g0 g1 gf;by_cases hmost:most < (n:Int)
   · have hq:decide (most < (n:Int))=true:=by simp;omega
     rw[if_pos hmost]at hN
     go_wp2_with fail
     go_ret
     obtain⟨hi,hf,hk⟩:=kr hin.out (w2:=(w1.setCell ⟨p,0,none⟩ (.slice A' l'.length c')).setCell ⟨p,1,none⟩ (ai (a 0))) (e':=1) (((Kept.refl (λk=>k=p) w1).setCell (p:=⟨p,0,none⟩) (.inl rfl) _).setCell (p:=⟨p,1,none⟩) (.inl rfl) _) ((T1.out.jX _).jY _) (bo a 0 (by omega)) hbi1.out;exact⟨_,F,rfl,by rw[hN.out];rfl,by rw[hN.out];exact hi,λk hf=> .inl hf,(Kept.al HB1.out).trans hk (λ_ h=> .inl h)⟩
   · have hq:decide (most < (n:Int))=false:=by simp;omega
     rw[if_neg hmost]at hN
     go_wp2_with fail
     go_ret
     obtain⟨hi,hf,hk⟩:=kr hin.out (w2:=w1.setCell ⟨p,0,none⟩ (.slice A' l'.length c')) (e':=0) ((Kept.refl (λk=>k=p) w1).setCell (p:=⟨p,0,none⟩) (.inl rfl) _) (T1.out.jX _) (ec a) hbi1.out;exact⟨_,F,rfl,by rw[hN.out];rfl,by rw[hN.out];exact hi,λk hf=> .inl hf,(Kept.al HB1.out).trans hk (λ_ h=> .inl h)⟩
 · have hN:=ab (show dq l 0 most=(l,(rdNum l).1,0) by unfold dq;rw[if_neg (by simp),if_pos hbad]);have H6:=ab h6;have hnum:=cN.out;unfold mN at hnum;have hc2:=ab hnum;clear cN hnum h4 h6 h hE h5;generalize (rdNum l).2.1=n at *;generalize (rdNum l).2.2=k at *;generalize (rdNum l).1=er at *
   go_enter Tryz.func91,Tryz.ntmps91
   go_wp2_with fail
   refine hc2.out.mono ?_;rintro e w1 ⟨x1,rfl,hx1,hb1⟩;obtain⟨m,hm,hem,hx1n⟩:∃m,m < 19/\er=m+1/\x1=ai (a m):=by
    rcases hx1 with⟨h0,_⟩|h
    · exact absurd h0 hbad
    · exact h
   rw[hx1n];have HB1:=ab hb1;have T1:=ab (H4.out.below hb1 H4.out.lt);obtain⟨_,k0,k1,kf⟩:=T1.out.facts;have hin:=ab (kp H.out (Kept.al (F:=λ_=>False) hb1) (λ_ _ h=>h));have hbi1:=ab (H6.out.kept (Kept.al (F:=λ_=>False) hb1) (λk hf=>⟨λh=>h,(H.out.2.2.1 k hf.1).2⟩));have HEM:=ab hem;clear hx1 hb1 hx1n x1 g0 g1 gf hem hbad
   go_wp2_with fail
   go_ret
   obtain⟨hi,hf,hk⟩:=kr hin.out (w2:=w1.setCell ⟨p,1,none⟩ (ai (a m))) (e':=er) ((Kept.refl (λk=>k=p) w1).setCell (p:=⟨p,1,none⟩) (.inl rfl) _) (T1.out.jY _) (by rw[HEM.out];exact bo a m hm) hbi1.out;exact⟨_,F,rfl,by rw[hN.out];rfl,by rw[hN.out];exact hi,λk hf=> .inl hf,(Kept.al HB1.out).trans hk (λ_ h=> .inl h)⟩
theorem nG (a:Nat->Addr) (W:World) (F:Nat->Prop) (B p:Nat) (l:List UInt8) (e:Nat) (most:Int) (h:ed a W F B p l e) (hl:l.length<=100000) (hE:ar W a):
 Calls Tryz.prog 91 #[.pointer (some ⟨p,0,none⟩),.int .i64 most] W (jj a W F B p l e most):=by
 rcases e with _|m
 · exact yx a W F B p l most h hl hE
 · exact yw a W F B p l m most h
end Go.Proofs.YtdilnodbfnlhdaaGreatDoor
namespace Go.Proofs.YtdilnodbfnlhdaaGreatDoor
open Go.RowKit Tide
theorem qV {I:mL} {W w1 w2:World} {F F1:Nat->Prop} {B p er:Nat} {rest:List UInt8} {ans:Value->World->Prop} {e:Ending} (hF1:∀k,F1 k->F k\/W.heap.size<=k) (hK1:Kept F W w1) (h:kY I w1 F1 B p rest er ans e w2):kY I W F B p rest er ans e w2:=by
 obtain⟨v,F2,he,ha,hO,hF2,hK2⟩:=h;refine⟨v,F2,he,ha,hO,λk hf=> ?_,hK1.trans hK2 hF1⟩;rcases hF2 k hf with h|h
 · exact hF1 k h
 · exact .inr (Nat.le_trans hK1.size h)
theorem yd (l:List UInt8) (e:Nat) (most:Int):(dq l e most).1.length<=l.length:=by
 unfold dq;split
 · exact Nat.le_refl _
 · split
   · exact Nat.le_refl _
   · split<;>simp
theorem yg (l:List UInt8) (e:Nat) (most:Int) (h:(dq l e most).2.1≠0):(dq l e most).2.2=0:=by
 unfold dq at *;split
 · rfl
 · rename_i h1;split
   · rfl
   · rename_i h2;rw[if_neg h1,if_neg h2]at h;split
     · rfl
     · rename_i h3;rw[if_neg h3]at h;exact absurd rfl h
end Go.Proofs.YtdilnodbfnlhdaaGreatDoor
namespace Go.Proofs.YtdilnodbfnlhdaaGreatDoor
open Go.RowKit Tide
theorem yz (a:Nat->Addr) (W:World) (F:Nat->Prop) (B p:Nat) (l:List UInt8) (e:Nat) (most:Int) (h:ed a W F B p l e) (hl:l.length<=100000) (hE:ar W a):
 Calls Tryz.prog 93 #[.pointer (some ⟨p,0,none⟩),.int .i64 most] W
  (kY (ed a) W F B p (gh l e most).1 (gh l e most).2.1 λv _=>v= .string ⟨(gh l e most).2.2.toArray⟩):=by
 have HE:=ab hE;have H:=ab h;have hn:=nG a W F B p l e most h hl hE;unfold jj at hn;have hz:=yg l e most;have hln:=Nat.le_trans (yd l e most) hl;obtain⟨r,hr⟩:=aa (dq l e most);have hT:gh l e most=if r.2.1≠0 then(r.1,r.2.1, []) else if r.1.length < r.2.2 then(r.1,2, []) else(r.1.drop r.2.2,0,r.1.take r.2.2):=by unfold gh;rw[hr]
 rw[hr]at hn hz hln;obtain⟨l1,e1,n⟩:=r;simp only at hn hz hln hT;have CN:=ab hn;clear hE h hl hn hr
 go_enter Tryz.func93,Tryz.ntmps93
 go_wp2_with fail
 refine CN.out.mono ?_;rintro en w1 ⟨v,F1,rfl,rfl,hI1,hF1,hK1⟩;have HI1:=ab hI1;have HF1:=ab hF1;have HK1:=ab hK1;obtain⟨A,c,x,h4,h5,h6⟩:=lC hI1;have H4:=ab h4;have H5:=ab h5;obtain⟨_,g0,g1,gf⟩:=h4.facts;have HE1:=ab (HE.out.kept hK1 H.out.2.2.2.1);have hx:(∃b,x=ai b)\/x= .nilIface:=by
  rcases h5 with⟨_,h⟩|⟨m,_,_,h⟩
  · exact .inr h
  · exact .inl ⟨_,h⟩
 by_cases hlong:l1.length < n
 · have he1:e1=0:=by
    rcases Nat.eq_zero_or_pos e1 with h|h
    · exact h
    · have:=hz (by omega);omega
   subst he1;rw[if_neg (by simp),if_pos hlong]at hT;have HT:=ab hT;have H6:=ab h6;have hq:decide ((l1.length:Int) < (n:Int))=true:=decide_eq_true (by omega);have hg:=HE1.out.var 1 (by omega);simp only[bA,List.getD_cons_zero,List.getD_cons_succ]at hg;clear hI1 hF1 hK1 h4 h5 h6 hz hT;rcases hx with⟨b,rfl⟩|rfl
   · exfalso;rcases H5.out with⟨_,h⟩|⟨m,_,h0,_⟩
     · cases h
     · omega
   go_wp2_with fail
   go_ret
   obtain⟨hi,hf,hk⟩:=kr HI1.out (w2:=w1.setCell ⟨p,1,none⟩ (ai (a 1))) (e':=2) ((Kept.refl (λk=>k=p) w1).setCell (p:=⟨p,1,none⟩) (.inl rfl) _) (H4.out.jY _) (bo a 1 (by omega)) H6.out;exact qV HF1.out HK1.out ⟨_,F1,rfl,by rw[HT.out];rfl,by rw[HT.out];exact hi,λk hf=> .inl hf,hk⟩
 · obtain⟨A',c',l',hl',hcut,hbi⟩:=pS h6 n (n:Nat) rfl (by omega);obtain⟨A2,c2,l2,hl2,hcut2,hb2⟩:=wM (h6.bytes (B:=w1.heap.size) (λk hf=>(hI1.2.2.1 k hf.1).2)) n (n:Nat) rfl (by omega);have cv:=jy hb2;have hT2:gh l e most=(l',e1,l2):=by
    rw[hT,hl'.out,hl2.out];by_cases he:e1=0
    · rw[if_neg (by simpa using he),if_neg (by omega),he]
    · have hn0:n=0:=hz he;rw[if_pos he,hn0];simp
   have HT:=ab hT2;have HBI:=ab hbi;have hq:decide ((l1.length:Int) < (n:Int))=false:=decide_eq_false (by omega);have hnl:¬l1.length < n:=hlong;clear hI1 hF1 hK1 h4 h5 h6 hz hT hT2 hbi hb2 hx hlong
   go_wp2_with fail
   go_ret
   obtain⟨hi,hf,hk⟩:=kr HI1.out (w2:=w1.setCell ⟨p,0,none⟩ (.slice A' l'.length c')) (e':=e1) ((Kept.refl (λk=>k=p) w1).setCell (p:=⟨p,0,none⟩) (.inl rfl) _) (H4.out.jX _) H5.out HBI.out;exact qV HF1.out HK1.out ⟨_,F1,rfl,by rw[HT.out];rfl,by rw[HT.out];exact hi,λk hf=> .inl hf,hk⟩
end Go.Proofs.YtdilnodbfnlhdaaGreatDoor
namespace Go.Proofs.YtdilnodbfnlhdaaGreatDoor
open Go.RowKit Tide
theorem yi {s:ByteArray} {most:Int} (h:s.size<=100000) (hm:(s.size:Int)<=most) (r:List UInt8):gh (bN s ++ r) 0 most=(r,0,s.data.toList):=by
 have e:=gd (show s.size < 2 ^ 62 by omega) (s.data.toList ++ r) most hm;have hl:s.data.toList.length=s.size:=by rw[Array.length_toList];rfl
 unfold gh bN;rw[List.append_assoc,e];simp only;rw[if_neg (by simp),if_neg (by rw[List.length_append];omega),<-hl];simp
def PR (a:Nat->Addr) (W:World) (F:Nat->Prop) (B p:Nat) (l:List UInt8) (w:World):Prop:=∃F1,ed a w F1 B p l 0/\(∀k,F1 k->F k\/W.heap.size<=k)/\Kept F W w
section
variable {a:Nat->Addr} {W w w':World} {F:Nat->Prop} {B p n:Nat} {l:List UInt8}
theorem PR.start (h:ed a W F B p l 0):PR a W F B p l W:=⟨F,h,λ_ hk=> .inl hk,Kept.refl _ _⟩
theorem PR.bq (h:PR a W F B p l w) (hE:ar W a) (hA:cG a F):ar w a:=by obtain⟨_,_,_,hK⟩:=h;exact hE.kept hK hA
theorem PR.trans {F1:Nat->Prop} (hF1:∀k,F1 k->F k\/W.heap.size<=k) (hK:Kept F W w) (h:PR a w F1 B p l w'):PR a W F B p l w':=by
 obtain⟨F2,hO,hF2,hK2⟩:=h;refine⟨F2,hO,λk hf=> ?_,hK.trans hK2 hF1⟩;rcases hF2 k hf with h|h
 · exact hF1 k h
 · exact .inr (Nat.le_trans hK.size h)
def uB (a:Nat->Addr) (W:World) (F:Nat->Prop) (B p:Nat) (l:List UInt8) (v:Value) (e:Ending) (w:World):Prop:=e= .returned v/\PR a W F B p l w
theorem PR.num (h:PR a W F B p (ao n ++ l) w) (hE:ar W a) (hA:cG a F) (hn:n < 2 ^ 62) {most:Int} (hm:(n:Int)<=most) (hl:(ao n ++ l).length<=100000):
 Calls Tryz.prog 91 #[.pointer (some ⟨p,0,none⟩),.int .i64 most] w (uB a W F B p l (.int .i64 (n:Nat))):=by
 have hE':=h.bq hE hA;obtain⟨F1,hO,hF1,hK⟩:=h;have hc:=nG a w F1 B p _ 0 most hO hl hE';unfold jj at hc;rw[gd hn l most hm]at hc;exact hc.mono λ_ _ ⟨v,F2,he,hv,hO2,hF2,hK2⟩=>⟨by rw[he,hv],PR.trans hF1 hK ⟨F2,hO2,hF2,hK2⟩⟩
end
end Go.Proofs.YtdilnodbfnlhdaaGreatDoor
namespace Go.Proofs.YtdilnodbfnlhdaaGreatDoor
open Go.RowKit Tide
structure fe where
 stream:Int
 list:List Int
def dV:Int->List Int->Bool
 | _, []=>true
 | b,x :: l=>(decide (0<=x) && decide (x < b)) && dV x l
def eE (l:List Int):Bool:= !decide (4 < (l.length:Int)) && dV 4096 l
def dD:List fe->List Int->Bool
 | [], []=>true
 | d :: ds,s :: ss=>(decide (d.stream=s) && eE d.list) && dD ds ss
 | _,_=>false
section
variable {st:Option (List UInt8)}
end
end Go.Proofs.YtdilnodbfnlhdaaGreatDoor
namespace Go.Proofs.YtdilnodbfnlhdaaGreatDoor
open Go.RowKit Tide
def ee (a:Nat->Addr) (W:World) (F:Nat->Prop) (B p:Nat) (l:List UInt8) (q:Nat) (cs:Array Value) (w:World):Prop:=
 ∃F1,ed a w F1 B p l 0/\(∀k,F1 k->F k\/W.heap.size<=k)/\Kept F W w/\w.heap[q]? =some (.cells cs 145 (0,0))/\¬F1 q/\W.heap.size<=q
section
variable {a:Nat->Addr} {W w w':World} {F:Nat->Prop} {B p q n:Nat} {l l':List UInt8} {cs:Array Value}
theorem PR.box (h:PR a W F B p l w) (cs:Array Value):ee a W F B p l w.heap.size cs (w.alloc (.cells cs 145)):=by obtain⟨F1,hO,hF1,hK⟩:=h;exact⟨F1,kp hO ((Kept.refl (λ_=>False) w).alloc _) (λ_ _ h=>h),hF1,hK.alloc _,heap_alloc_new w _,λhf=>by have:=((yh hO).2 _ hf).2;omega,hK.size⟩
theorem ee.pr (h:ee a W F B p l q cs w):PR a W F B p l w:=by obtain⟨F1,h1,h2,h3,_⟩:=h;exact⟨F1,h1,h2,h3⟩
theorem ee.cells (h:ee a W F B p l q cs w):w.heap[q]? =some (.cells cs 145 (0,0)):=by obtain⟨F1,h1,h2,h3,h4,_⟩:=h;exact h4
theorem ee.num (h:ee a W F B p (ao n ++ l) q cs w) (hE:ar W a) (hA:cG a F) (hn:n < 2 ^ 62) {most:Int} (hm:(n:Int)<=most) (hl:(ao n ++ l).length<=100000):
 Calls Tryz.prog 91 #[.pointer (some ⟨p,0,none⟩),.int .i64 most] w λe w'=>e= .returned (.int .i64 (n:Nat))/\ee a W F B p l q cs w':=by
 have hE':=h.pr.bq hE hA;obtain⟨F1,hO,hF1,hK,hc4,hq,hs⟩:=h;have hc:=nG a w F1 B p _ 0 most hO hl hE';unfold jj at hc;rw[gd hn l most hm]at hc;have hqw:q < w.heap.size:=(Array.getElem?_eq_some_iff.1 hc4).1;refine hc.mono ?_;rintro e w2 ⟨v,F2,he,hv,hO2,hF2,hK2⟩;exact⟨by rw[he,hv],F2,hO2,λk hk=>(hF2 k hk).elim (hF1 k) (λh=> .inr (Nat.le_trans hK.size h)),hK.trans hK2 hF1,hK2.heap hc4 hq,λhf=>(hF2 q hf).elim hq (λh=>by omega),hs⟩
theorem ee.text {s:ByteArray} (h:ee a W F B p (bN s ++ l) q cs w) (hE:ar W a) (hA:cG a F) {most:Int} (hm:(s.size:Int)<=most) (hl:(bN s ++ l).length<=100000) (hs:s.size<=100000):
 Calls Tryz.prog 93 #[.pointer (some ⟨p,0,none⟩),.int .i64 most] w λe w'=>e= .returned (.string s)/\ee a W F B p l q cs w':=by
 have hE':=h.pr.bq hE hA;obtain⟨F1,hO,hF1,hK,hc4,hq,hsz⟩:=h;have hc:=yz a w F1 B p _ 0 most hO hl hE';rw[yi hs hm l]at hc;have hqw:q < w.heap.size:=(Array.getElem?_eq_some_iff.1 hc4).1;refine hc.mono ?_;rintro e w2 ⟨v,F2,he,hv,hO2,hF2,hK2⟩;exact⟨by rw[he,hv],F2,hO2,λk hk=>(hF2 k hk).elim (hF1 k) (λh=> .inr (Nat.le_trans hK.size h)),hK.trans hK2 hF1,hK2.heap hc4 hq,λhf=>(hF2 q hf).elim hq (λh=>by omega),hsz⟩
theorem ee.set (h:ee a W F B p l q cs w) (i:Nat) (v:Value):ee a W F B p l q (cs.setIfInBounds i v) (w.setCell ⟨q,i,none⟩ v):=by obtain⟨F1,hO,hF1,hK,hc4,hq,hs⟩:=h;obtain⟨hlt,hk⟩:=Array.getElem?_eq_some_iff.1 hc4;refine⟨F1,kp hO ((Kept.refl (λk=>k=q) w).setCell (p:=⟨q,i,none⟩) (.inl rfl) v) (λk hf e=>hq (by rw[<-show k=q from e];exact hf)),hF1,hK.setCell (p:=⟨q,i,none⟩) (.inr hs) v,?_,hq,hs⟩;show(w.heap.modify q _)[q]? =_;rw[Array.getElem?_eq_getElem (by rw[Array.size_modify];exact hlt),Array.getElem_modify_self,hk];simp
theorem ee.nh (h:ee a W F B p [] q cs w) (hE:ar W a) (hA:cG a F):
 Calls Tryz.prog 94 #[.pointer (some ⟨p,0,none⟩)] w λe w'=>e= .returned .nilIface/\ee a W F B p [] q cs w':=by
 have hE':=h.pr.bq hE hA;obtain⟨F1,hO,hF1,hK,hc4,hq,hs⟩:=h;have hqw:q < w.heap.size:=(Array.getElem?_eq_some_iff.1 hc4).1;refine(yc a w F1 B p _ 0 hO hE').mono ?_;rintro e w2 ⟨⟨x,he,hx⟩,hb⟩;have hx0:x= .nilIface:=by
  rcases hx with⟨_,h⟩|⟨m,_,h,_⟩
  · exact h
  · exact absurd h (by unfold ix;simp)
 exact⟨by rw[he,hx0],F1,kp hO (Kept.al (F:=λ_=>False) hb) (λ_ _ h=>h),hF1,hK.trans (Kept.al (F:=λ_=>False) hb) (λ_ h=>h.elim),(Kept.al (F:=λ_=>False) hb).heap hc4 (λh=>h),hq,hs⟩
end
theorem eO {W1:World} {b:Nat} {cs:Array Value} (h:W1.heap[b]? =some (.cells cs 145 (0,0))) (i:Nat):W1.frozen? ⟨b,i,none⟩=false:=by unfold World.frozen?;rw[show W1.heap[(⟨b,i,none⟩:Addr).block]? =_ from h];simp
end Go.Proofs.YtdilnodbfnlhdaaGreatDoor
namespace Go.Proofs.YtdilnodbfnlhdaaGreatDoor
open Go.RowKit Tide
abbrev si (W:World) (g:Nat) (x0 x1 x2 x3:Value):World:=(((W.setCell ⟨g,0,none⟩ x0).setCell ⟨g,1,none⟩ x1).setCell ⟨g,2,none⟩ x2).setCell ⟨g,3,none⟩ x3
theorem jc {W:World} {g:Nat} {t:TypeId} {cs:Array Value} (h:W.heap[g]? =some (.cells cs t (0,0))) (i:Nat) (v:Value):(W.setCell ⟨g,i,none⟩ v).heap[g]? =some (.cells (cs.setIfInBounds i v) t (0,0)):=by obtain⟨hlt,hk⟩:=Array.getElem?_eq_some_iff.1 h;show(W.heap.modify g _)[g]? =_;rw[Array.getElem?_eq_getElem (by rw[Array.size_modify];exact hlt),Array.getElem_modify_self,hk];simp
theorem oq {W:World} {g:Nat} {t:TypeId} {y0 y1 y2 y3:Value} (h:W.heap[g]? =some (.cells #[y0,y1,y2,y3] t (0,0))) (x0 x1 x2 x3:Value):(si W g x0 x1 x2 x3).heap[g]? =some (.cells #[x0,x1,x2,x3] t (0,0)):=
 jc (jc (jc (jc h 0 x0) 1 x1) 2 x2) 3 x3
theorem ou {W0 W:World} {B g:Nat} (h:Below B W0 W) (hg:B<=g) (x0 x1 x2 x3:Value):Below B W0 (si W g x0 x1 x2 x3):=
 (((h.setCell (p:=⟨g,0,none⟩) hg x0).setCell (p:=⟨g,1,none⟩) hg x1).setCell (p:=⟨g,2,none⟩) hg x2).setCell (p:=⟨g,3,none⟩) hg x3
theorem Es (a:Nat->Addr) (W:World) (v:Value) (B:Nat) (af:Nat) (s:ByteArray) (hadr:af<=4095) (hs1:1<=s.size) (hs2:s.size<=2048) (hE:ar W a) (l:List UInt8) (hl:ao 1 ++ (ao af ++ (bN s ++ []))=l) (hlen:l.length<=100000) (hv:Bytes W B v l) (hB:B<=W.heap.size):
 Calls Tryz.prog 61 #[v] W λe w'=>e= .returned (.tuple #[.agg #[.int .i64 1,.int .i64 (af:Int),.int .i64 0,.string s],.nilIface])/\Below W.heap.size W w':=by
 obtain⟨Av,cv,rfl,_,_,_⟩:=hv.form;have CP:=ab (od a (W.alloc (.cells #[.int .i64 0,.int .i64 0,.int .i64 0,.string ⟨#[]⟩] 145)) _ B l (hv.below ((Below.refl _ _).alloc hB _)) (by simp;omega) hlen (hE.alloc _));have HZ:=ab (heap_alloc_new W (.cells #[.int .i64 0,.int .i64 0,.int .i64 0,.string ⟨#[]⟩] 145));have B0:=ab ((Below.refl W.heap.size W).alloc (Nat.le_refl _) (.cells #[.int .i64 0,.int .i64 0,.int .i64 0,.string ⟨#[]⟩] 145));have HE:=ab hE;have HL:=ab hl;have HLe:=ab hlen;clear hv hE hl hlen
 go_enter Tryz.func61,Tryz.ntmps61
 go_wp2_with fail
 refine CP.out.mono ?_;rintro e w1 ⟨p,F,rfl,hI,hF,hb⟩;have B1:=ab (B0.out.trans (hb.mono B0.out.size));have Z1:=ab ((Kept.al (F:=λ_=>False) hb).heap HZ.out (λh=>h));have HE1:=ab (HE.out.below B1.out);have HFs:=ab (show ∀k,F k->W.heap.size+1<=k from λk hk=>by have:=hF k hk;simpa using this);have HA:=ab (show cG a F from cG.new (HE.out.alloc (.cells #[.int .i64 0,.int .i64 0,.int .i64 0,.string ⟨#[]⟩] 145)) hF);rw[<-HL.out]at hI;have hsz1:=hb.size;rw[World.size_alloc]at hsz1;have P1:=ab (PR.start hI);have hln:(ao 1 ++ (ao af ++ (bN s ++ []))).length<=100000:=by rw[HL.out];exact HLe.out
 simp only[List.length_append]at hln;clear hb hI hF B0 HZ CP;have C1:=ab (PR.num (n:=1) (most:=3) P1.out HE1.out HA.out (by omega) (by omega) (by simp only[List.length_append];omega));have hsq:s.toList.isEmpty=false:=by
  rw[ByteArray.toList_eq,List.isEmpty_eq_false_iff];intro e;have:s.data.toList.length=0:=by rw[e];rfl
  rw[Array.length_toList]at this;have h2:s.data.size=s.size:=rfl;omega
 go_wp2_with fail
 refine C1.out.mono ?_;rintro e w2 ⟨rfl,hp⟩;have hsz2:w1.heap.size<=w2.heap.size:=by obtain⟨_,_,_,hK⟩:=hp;exact hK.size
 have P2:=ab (hp.box #[.int .i64 1,.int .i64 0,.int .i64 0,.string ⟨#[]⟩]);clear hp C1;have C2:=ab (P2.out.num (n:=af) (most:=4095) HE1.out HA.out (by omega) (by omega) (by simp only[List.length_append];omega));obtain⟨_,c0,c1,c2,c3⟩:=cA P2.out.cells;have cf:=eO P2.out.cells
 go_wp2_with fail
 refine C2.out.mono ?_;rintro e w3 ⟨rfl,hp⟩;clear c0 c1 c2 c3 cf;obtain⟨_,c0,c1,c2,c3⟩:=cA hp.cells;have cf:=eO hp.cells;have P3:=ab (hp.set 1 (.int .i64 (af:Int)));clear hp C2
 go_wp2_with fail
 clear c0 c1 c2 c3 cf;have C3:=ab (P3.out.text (s:=s) (most:=2048) HE1.out HA.out (by omega) (by simp only[List.length_append];omega) (by omega));obtain⟨_,c0,c1,c2,c3⟩:=cA P3.out.cells;have cf:=eO P3.out.cells
 go_wp2_with fail
 refine C3.out.mono ?_;rintro e w4 ⟨rfl,hp⟩;clear c0 c1 c2 c3 cf;obtain⟨_,c0,c1,c2,c3⟩:=cA hp.cells;have cf:=eO hp.cells;have P4:=ab (hp.set 3 (.string s));clear hp C3
 go_wp2_with fail
 clear c0 c1 c2 c3 cf;refine(P4.out.nh HE1.out HA.out).mono ?_;rintro e w5 ⟨rfl,hp⟩;obtain⟨_,c0,c1,c2,c3⟩:=cA hp.cells;have cf:=eO hp.cells;have hK:Kept F w1 w5:=by obtain⟨_,_,_,hK,_⟩:=hp;exact hK
 have Z9:=hK.heap Z1.out (λhf=>by have:=HFs.out _ hf;omega);have B9:=ab (B1.out.trans (hK.below (B:=W.heap.size) (by omega) (λi hi=>by have:=HFs.out i hi;omega)));have HZ9:=ab Z9;obtain⟨_,d0,d1,d2,d3⟩:=cA Z9;have df:=eO Z9;clear hp hK Z9
 go_wp2_with fail
 obtain⟨_,e0,e1,e2,e3⟩:=cA (oq HZ9.out (.int .i64 1) (.int .i64 (af:Int)) (.int .i64 0) (.string s));exact bodyPost_ret (v:= .tuple #[.agg #[.int .i64 1,.int .i64 (af:Int),.int .i64 0,.string s],.nilIface]) (by simp[results,Tryz.results61,go_sem,e0,e1,e2,e3]) rfl ⟨rfl,ou B9.out (Nat.le_refl _) _ _ _ _⟩
theorem Et (a:Nat->Addr) (W:World) (v:Value) (B:Nat) (af ep:Nat) (hadr:af<=4096) (hep:ep<=1073741824) (hE:ar W a) (l:List UInt8) (hl:ao 2 ++ (ao af ++ (ao ep ++ []))=l) (hlen:l.length<=100000) (hv:Bytes W B v l) (hB:B<=W.heap.size):
 Calls Tryz.prog 61 #[v] W λe w'=>e= .returned (.tuple #[.agg #[.int .i64 2,.int .i64 (af:Int),.int .i64 (ep:Int),.string ⟨#[]⟩],.nilIface])/\Below W.heap.size W w':=by
 obtain⟨Av,cv,rfl,_,_,_⟩:=hv.form;have CP:=ab (od a (W.alloc (.cells #[.int .i64 0,.int .i64 0,.int .i64 0,.string ⟨#[]⟩] 145)) _ B l (hv.below ((Below.refl _ _).alloc hB _)) (by simp;omega) hlen (hE.alloc _));have HZ:=ab (heap_alloc_new W (.cells #[.int .i64 0,.int .i64 0,.int .i64 0,.string ⟨#[]⟩] 145));have B0:=ab ((Below.refl W.heap.size W).alloc (Nat.le_refl _) (.cells #[.int .i64 0,.int .i64 0,.int .i64 0,.string ⟨#[]⟩] 145));have HE:=ab hE;have HL:=ab hl;have HLe:=ab hlen;clear hv hE hl hlen
 go_enter Tryz.func61,Tryz.ntmps61
 go_wp2_with fail
 refine CP.out.mono ?_;rintro e w1 ⟨p,F,rfl,hI,hF,hb⟩;have B1:=ab (B0.out.trans (hb.mono B0.out.size));have Z1:=ab ((Kept.al (F:=λ_=>False) hb).heap HZ.out (λh=>h));have HE1:=ab (HE.out.below B1.out);have HFs:=ab (show ∀k,F k->W.heap.size+1<=k from λk hk=>by have:=hF k hk;simpa using this);have HA:=ab (show cG a F from cG.new (HE.out.alloc (.cells #[.int .i64 0,.int .i64 0,.int .i64 0,.string ⟨#[]⟩] 145)) hF);rw[<-HL.out]at hI;have hsz1:=hb.size;rw[World.size_alloc]at hsz1;have P1:=ab (PR.start hI);have hln:(ao 2 ++ (ao af ++ (ao ep ++ []))).length<=100000:=by rw[HL.out];exact HLe.out
 simp only[List.length_append]at hln;clear hb hI hF B0 HZ CP;have C1:=ab (PR.num (n:=2) (most:=3) P1.out HE1.out HA.out (by omega) (by omega) (by simp only[List.length_append];omega))
 go_wp2_with fail
 refine C1.out.mono ?_;rintro e w2 ⟨rfl,hp⟩;have hsz2:w1.heap.size<=w2.heap.size:=by obtain⟨_,_,_,hK⟩:=hp;exact hK.size
 have P2:=ab (hp.box #[.int .i64 2,.int .i64 0,.int .i64 0,.string ⟨#[]⟩]);clear hp C1;have C2:=ab (P2.out.num (n:=af) (most:=4096) HE1.out HA.out (by omega) (by omega) (by simp only[List.length_append];omega));obtain⟨_,c0,c1,c2,c3⟩:=cA P2.out.cells;have cf:=eO P2.out.cells
 go_wp2_with fail
 refine C2.out.mono ?_;rintro e w3 ⟨rfl,hp⟩;clear c0 c1 c2 c3 cf;obtain⟨_,c0,c1,c2,c3⟩:=cA hp.cells;have cf:=eO hp.cells;have P3:=ab (hp.set 1 (.int .i64 (af:Int)));clear hp C2
 go_wp2_with fail
 clear c0 c1 c2 c3 cf;have C3:=ab (P3.out.num (n:=ep) (most:=1073741824) HE1.out HA.out (by omega) (by omega) (by simp only[List.length_append];omega));obtain⟨_,c0,c1,c2,c3⟩:=cA P3.out.cells;have cf:=eO P3.out.cells
 go_wp2_with fail
 refine C3.out.mono ?_;rintro e w4 ⟨rfl,hp⟩;clear c0 c1 c2 c3 cf;obtain⟨_,c0,c1,c2,c3⟩:=cA hp.cells;have cf:=eO hp.cells;have P4:=ab (hp.set 2 (.int .i64 (ep:Int)));clear hp C3
 go_wp2_with fail
 clear c0 c1 c2 c3 cf;refine(P4.out.nh HE1.out HA.out).mono ?_;rintro e w5 ⟨rfl,hp⟩;obtain⟨_,c0,c1,c2,c3⟩:=cA hp.cells;have cf:=eO hp.cells;have hK:Kept F w1 w5:=by obtain⟨_,_,_,hK,_⟩:=hp;exact hK
 have Z9:=hK.heap Z1.out (λhf=>by have:=HFs.out _ hf;omega);have B9:=ab (B1.out.trans (hK.below (B:=W.heap.size) (by omega) (λi hi=>by have:=HFs.out i hi;omega)));have HZ9:=ab Z9;obtain⟨_,d0,d1,d2,d3⟩:=cA Z9;have df:=eO Z9;clear hp hK Z9
 go_wp2_with fail
 obtain⟨_,e0,e1,e2,e3⟩:=cA (oq HZ9.out (.int .i64 2) (.int .i64 (af:Int)) (.int .i64 (ep:Int)) (.string ⟨#[]⟩));exact bodyPost_ret (v:= .tuple #[.agg #[.int .i64 2,.int .i64 (af:Int),.int .i64 (ep:Int),.string ⟨#[]⟩],.nilIface]) (by simp[results,Tryz.results61,go_sem,e0,e1,e2,e3]) rfl ⟨rfl,ou B9.out (Nat.le_refl _) _ _ _ _⟩
theorem Eu (a:Nat->Addr) (W:World) (v:Value) (B:Nat) (ep:Nat) (hep:ep<=1073741824) (hE:ar W a) (l:List UInt8) (hl:ao 3 ++ (ao ep ++ [])=l) (hlen:l.length<=100000) (hv:Bytes W B v l) (hB:B<=W.heap.size):
 Calls Tryz.prog 61 #[v] W λe w'=>e= .returned (.tuple #[.agg #[.int .i64 3,.int .i64 0,.int .i64 (ep:Int),.string ⟨#[]⟩],.nilIface])/\Below W.heap.size W w':=by
 obtain⟨Av,cv,rfl,_,_,_⟩:=hv.form;have CP:=ab (od a (W.alloc (.cells #[.int .i64 0,.int .i64 0,.int .i64 0,.string ⟨#[]⟩] 145)) _ B l (hv.below ((Below.refl _ _).alloc hB _)) (by simp;omega) hlen (hE.alloc _));have HZ:=ab (heap_alloc_new W (.cells #[.int .i64 0,.int .i64 0,.int .i64 0,.string ⟨#[]⟩] 145));have B0:=ab ((Below.refl W.heap.size W).alloc (Nat.le_refl _) (.cells #[.int .i64 0,.int .i64 0,.int .i64 0,.string ⟨#[]⟩] 145));have HE:=ab hE;have HL:=ab hl;have HLe:=ab hlen;clear hv hE hl hlen
 go_enter Tryz.func61,Tryz.ntmps61
 go_wp2_with fail
 refine CP.out.mono ?_;rintro e w1 ⟨p,F,rfl,hI,hF,hb⟩;have B1:=ab (B0.out.trans (hb.mono B0.out.size));have Z1:=ab ((Kept.al (F:=λ_=>False) hb).heap HZ.out (λh=>h));have HE1:=ab (HE.out.below B1.out);have HFs:=ab (show ∀k,F k->W.heap.size+1<=k from λk hk=>by have:=hF k hk;simpa using this);have HA:=ab (show cG a F from cG.new (HE.out.alloc (.cells #[.int .i64 0,.int .i64 0,.int .i64 0,.string ⟨#[]⟩] 145)) hF);rw[<-HL.out]at hI;have hsz1:=hb.size;rw[World.size_alloc]at hsz1;have P1:=ab (PR.start hI);have hln:(ao 3 ++ (ao ep ++ [])).length<=100000:=by rw[HL.out];exact HLe.out
 simp only[List.length_append]at hln;clear hb hI hF B0 HZ CP;have C1:=ab (PR.num (n:=3) (most:=3) P1.out HE1.out HA.out (by omega) (by omega) (by simp only[List.length_append];omega))
 go_wp2_with fail
 refine C1.out.mono ?_;rintro e w2 ⟨rfl,hp⟩;have hsz2:w1.heap.size<=w2.heap.size:=by obtain⟨_,_,_,hK⟩:=hp;exact hK.size
 have P2:=ab (hp.box #[.int .i64 3,.int .i64 0,.int .i64 0,.string ⟨#[]⟩]);clear hp C1;have C2:=ab (P2.out.num (n:=ep) (most:=1073741824) HE1.out HA.out (by omega) (by omega) (by simp only[List.length_append];omega));obtain⟨_,c0,c1,c2,c3⟩:=cA P2.out.cells;have cf:=eO P2.out.cells
 go_wp2_with fail
 refine C2.out.mono ?_;rintro e w3 ⟨rfl,hp⟩;clear c0 c1 c2 c3 cf;obtain⟨_,c0,c1,c2,c3⟩:=cA hp.cells;have cf:=eO hp.cells;have P3:=ab (hp.set 2 (.int .i64 (ep:Int)));clear hp C2
 go_wp2_with fail
 clear c0 c1 c2 c3 cf;refine(P3.out.nh HE1.out HA.out).mono ?_;rintro e w4 ⟨rfl,hp⟩;obtain⟨_,c0,c1,c2,c3⟩:=cA hp.cells;have cf:=eO hp.cells;have hK:Kept F w1 w4:=by obtain⟨_,_,_,hK,_⟩:=hp;exact hK
 have Z9:=hK.heap Z1.out (λhf=>by have:=HFs.out _ hf;omega);have B9:=ab (B1.out.trans (hK.below (B:=W.heap.size) (by omega) (λi hi=>by have:=HFs.out i hi;omega)));have HZ9:=ab Z9;obtain⟨_,d0,d1,d2,d3⟩:=cA Z9;have df:=eO Z9;clear hp hK Z9
 go_wp2_with fail
 obtain⟨_,e0,e1,e2,e3⟩:=cA (oq HZ9.out (.int .i64 3) (.int .i64 0) (.int .i64 (ep:Int)) (.string ⟨#[]⟩));exact bodyPost_ret (v:= .tuple #[.agg #[.int .i64 3,.int .i64 0,.int .i64 (ep:Int),.string ⟨#[]⟩],.nilIface]) (by simp[results,Tryz.results61,go_sem,e0,e1,e2,e3]) rfl ⟨rfl,ou B9.out (Nat.le_refl _) _ _ _ _⟩
end Go.Proofs.YtdilnodbfnlhdaaGreatDoor
namespace Go.Proofs.YtdilnodbfnlhdaaGreatDoor
open Go.RowKit Tide
def um (w:World) (B:Nat) (d:fe) (e:List Value):Prop:=∃u,e= [.int .i64 d.stream,u]/\Row w B u (ay d.list)
def ie (w:World) (B:Nat) (v:Value) (ds:List fe):Prop:=∃es,bQ w B v 2 es/\es.length=ds.length/\∀i (h:i < ds.length),∃e,es[i]? =some e/\um w B ds[i] e
section
variable {w w':World} {B B':Nat} {v:Value} {ds:List fe}
theorem ie.below (h:ie w B v ds) (hb:Below B w w'):ie w' B v ds:=by obtain⟨es,h1,h2,h3⟩:=h;refine⟨es,h1.below hb,h2,λi hi=> ?_⟩;obtain⟨e,he,u,rfl,hr⟩:=h3 i hi;exact⟨_,he,u,rfl,Row.an hr (ew hb)⟩
theorem ie.form (h:ie w B v ds):∃A c,v= .slice A ds.length c/\ds.length<=9223372036854775807/\∀i (hi:i < ds.length),∃b o u,A=some ⟨b,o,none⟩/\b < B/\
 w.cell? ⟨b,o+i * 2,none⟩=some (.int .i64 ds[i].stream)/\w.cell? ⟨b,o+i * 2+1,none⟩=some u/\Row w B u (ay ds[i].list):=by
 obtain⟨es,⟨hn,A,c,rfl,hc⟩,hl,h3⟩:=h;refine⟨A,c,by rw[hl],by omega,λi hi=> ?_⟩;obtain⟨e,he,u,rfl,hr⟩:=h3 i hi;obtain⟨b,o,rfl,hb,hcell⟩:=hc (by intro e;subst e;simp at he);have e:∀j,o+i * 2+j=o+(i * 2+j):=λj=>Nat.add_assoc _ _ _;exact⟨b,o,u,rfl,hb,hcell i 0 _ _ he rfl,by rw[e];exact hcell i 1 _ _ he rfl,hr⟩
end
theorem xh (b:Int) (l:List Int) (k:Nat) (h:k < l.length):dV b (l.drop k)=((decide (0<=l[k]) && decide (l[k] < b)) && dV l[k] (l.drop (k+1))):=by rw[List.drop_eq_getElem_cons h];rfl
theorem Ce (ds:List fe) (ss:List Int) (k:Nat) (h:k < ds.length) (h2:k < ss.length):
 dD (ds.drop k) (ss.drop k)=((decide (ds[k].stream=ss[k]) && eE ds[k].list) && dD (ds.drop (k+1)) (ss.drop (k+1))):=by
 rw[List.drop_eq_getElem_cons h,List.drop_eq_getElem_cons h2];rfl
theorem sD:∀ (ds:List fe) (ss:List Int),ds.length≠ss.length->dD ds ss=false
 | [], [],h=>absurd rfl h
 | [],_ :: _,_=>rfl
 | _ :: _, [],_=>rfl
 | d :: ds,s :: ss,h=>by show((_ && _) && dD ds ss)=false;rw[sD ds ss (by simpa using h),Bool.and_false]
end Go.Proofs.YtdilnodbfnlhdaaGreatDoor
