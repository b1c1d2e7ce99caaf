import Derived.Test.YtiafamacjpgjoaaGreatDoorGPackD
import Derived.Test.YtiafamacjpgjoaaGreatDoorGClone
import Derived.Test.YtiafamacjpgjoaaGreatDoorGPackO
import Derived.Test.YtiafamacjpgjoaaGreatDoorGErr
import Derived.Test.YtiafamacjpgjoaaGreatDoorGMem
import Derived.Test.YtiafamacjpgjoaaGreatDoorGBits7
import Derived.IntWalk
set_option maxRecDepth 100000
set_option maxHeartbeats 2000000
namespace Go.Proofs.YtiafamacjpgjoaaGreatDoor
open Go.RowKit Tide
def nu (a:Nat->Addr) (l:List UInt8) (w:World) (e:Ending) (w':World):Prop:=
 ∃x,e= .returned (.tuple #[.int .i64 ((rdNum l).2.1:Nat),.int .i64 ((rdNum l).2.2:Nat),x])/\bE a x (rdNum l).1/\Below w.heap.size w w'
theorem DA (D j:Nat) (hD:D < 128) (hj:j<=8):wrap64 ((D:Int) * 2 ^ (7 * j))=((D * 128 ^ j:Nat):Int):=by
 have h8:128 ^ j<=128 ^ 8:=Nat.pow_le_pow_right (by omega) hj;have hm:D * 128 ^ j<=127 * 128 ^ 8:=Nat.mul_le_mul (by omega) h8;have e:((D:Int) * 2 ^ (7 * j))=((D * 128 ^ j:Nat):Int):=by
  rw[show(128:Nat)=2 ^ 7 from rfl,<-Nat.pow_mul]
  push_cast
  rfl
 rw[e];exact IntWalk.wrap64_in _ (by omega)
theorem AW (l:List UInt8) (j D:Nat) (h:j < l.length) (hj:j<=8) (hD:l[j].toNat % 128=D):bits .or .i64 ((cK (l.take j):Nat):Int) ((D * 128 ^ j:Nat):Int)=((cK (l.take (j+1)):Nat):Int):=by rw[y4 _ D j (by omega) hj (p9 l j),vd l j h,hD]
theorem At (a:Nat->Addr) (v:Value) (l:List UInt8) (B:Nat) (w:World) (hp:Bytes w B v l) (hl:l.length<=100000) (hE:av w a):
 Calls Tryz.prog 146 #[v] w (nu a l w):=by
 obtain⟨A,c,rfl,_,_,hb⟩:=hp.form;have HB:=ab hb;have hg1:=hE.var 1 (by omega);have hg3:=hE.var 3 (by omega);simp only[cL,List.getD_cons_zero,List.getD_cons_succ]at hg1 hg3;have hm:min (l.length:Int) 9=((min l.length 9:Nat):Int):=by omega
 obtain⟨M,hM⟩:=aa (min l.length 9);rw[hM]at hm;have HM:=ab hM;have hM9:M<=9:=by omega
 have hMl:M<=l.length:=by omega
 clear hb hp hE hM hm
 go_enter Tryz.func146,Tryz.ntmps146
 go_wp2_with fail
 all_goals
  go_loop [5,10] (λn i=>∃j:Nat,i= .int .i64 j/\j<=M/\n= .int .i64 (cK (l.take j):Nat)/\Hid (∀c ∈ l.take j,128<=c.toNat)) (λ_ i=>M - (intOf i).toNat)
  case atStart=>exact⟨0,rfl,Nat.zero_le _,rfl,ab (by simp)⟩
  case round=>
   obtain⟨j,rfl,hj,rfl,ha⟩:=hrel;by_cases hlt:j < M
   · have hj8:j<=8:=by omega
     have hjl:j < l.length:=by omega
     have hin:(j:Int) < (l.length:Int):=by omega
     have hin9:(j:Int) < 9:=by omega
     obtain⟨b,o,rfl,_,hcs⟩:=HB.out j hjl;have hc:=hcs j hjl;clear hcs;have hrl:=ab (λh=>BX ha.out hjl hj8 h);have hnext:=ab (show 128<=l[j].toNat->∀c ∈ l.take (j+1),128<=c.toNat from λh c hc=>by
      rw[List.take_succ_eq_append_getElem hjl]at hc;rcases List.mem_append.1 hc with hc|hc
      · exact ha.out c hc
      · rw[List.mem_singleton.1 hc];exact h)
     have hcl:=l[j].toNat_lt;obtain⟨D,hD⟩:=aa (l[j].toNat % 128);have hD1:D < 128:=by omega
     have e1:bits .and .u8 (l[j].toNat:Int) 127=(D:Int):=by rw[El,hD]
     have e2:=Ek l[j];have e3:=DA D j hD1 hj8;have e4:=AW l j D hjl hj8 hD;have HA:=ha;clear ha hD;generalize l[j].toNat=C at *;generalize cK (l.take j)=V at *;generalize hV':cK (l.take (j+1))=V' at *;generalize D * 128 ^ j=S at *;by_cases h128:128<=C
     · have e5:((C / 128 * 128:Nat):Int)=128:=by omega
       rw[e5]at e2;have HN:=ab (hnext.out h128);clear hrl hnext e5
       go_wp2_with fail
       go_round
       case rel=>exact⟨j+1,by go_num,by omega,by rw[hV'],HN⟩
       case measure=>simp[intOf];omega
     · have e5:((C / 128 * 128:Nat):Int)=0:=by omega
       rw[e5]at e2;have HR:=ab (hrl.out (by omega));clear hrl hnext e5;by_cases hC:C=0
       · have q1:((C:Int) == 0)=true:=by simp[hC]
         by_cases hz:0 < j
         · have hrd:=ab (show rdNum l=(4,0,0) by rw[HR.out,if_pos (.inl ⟨hC,hz⟩)]);have q2:decide (0 < j)=true:=by simp;omega
           have q3:¬j=0:=by omega
           clear hC hz HR
           go_wp2_with fail
           go_quiet (fail)
           go_wp2_with fail
           go_ret3
           exact⟨_,by rw[hrd.out];rfl,by rw[hrd.out];exact bL a 3 (by omega),⟨rfl,rfl,rfl,Nat.le_refl _,λ_ _=>rfl⟩⟩
         · have hv0:V'<=4611686018427387903:=by have:=p9 l (j+1);rw[hV',show j=0 by omega]at this;omega
           have hrd:=ab (show rdNum l=(0,V',j+1) by rw[HR.out,if_neg (by omega)]);have q2:decide (0 < j)=false:=by simp;omega
           have q3:¬0 < j:=by omega
           have q4:decide ((4611686018427387903:Int) < (V':Int))=false:=by simp;omega
           clear hC hz HR
           go_wp2_with fail
           go_ret3
           exact⟨_,by rw[hrd.out];rfl,by rw[hrd.out];exact fw a,Below.refl _ _⟩
       · have q1:((C:Int) == 0)=false:=by simp[hC]
         by_cases hv:4611686018427387903 < V'
         · have hrd:=ab (show rdNum l=(4,0,0) by rw[HR.out,if_pos (.inr hv)]);have q4:decide ((4611686018427387903:Int) < (V':Int))=true:=by simp;omega
           clear HR
           go_wp2_with fail
           go_quiet (fail)
           go_wp2_with fail
           go_ret3
           exact⟨_,by rw[hrd.out];rfl,by rw[hrd.out];exact bL a 3 (by omega),⟨rfl,rfl,rfl,Nat.le_refl _,λ_ _=>rfl⟩⟩
         · have hrd:=ab (show rdNum l=(0,V',j+1) by rw[HR.out,if_neg (by omega)]);have q4:decide ((4611686018427387903:Int) < (V':Int))=false:=by simp;omega
           clear HR
           go_wp2_with fail
           go_ret3
           exact⟨_,by rw[hrd.out];rfl,by rw[hrd.out];exact fw a,Below.refl _ _⟩
   · have hjM:j=M:=by omega
     by_cases h9:l.length < 9
     · have hml:M=l.length:=by have:=HM.out;omega
       have hrd:=ab (show rdNum l=(2,0,0) from B5 (λc hc=>ha.out c (by rw[hjM,hml,List.take_length];exact hc)) h9);have q5:decide ((l.length:Int) < 9)=true:=by simp;omega
       have q6:decide ((j:Int) < (l.length:Int))=false:=by simp;omega
       have q7:¬j < l.length:=by omega
       first
       | (exfalso;omega)
       | (clear hjM hml
          go_wp2_with fail
          go_quiet (fail)
          go_wp2_with fail
          go_ret3
          exact⟨_,by rw[hrd.out];rfl,by rw[hrd.out];exact bL a 1 (by omega),⟨rfl,rfl,rfl,Nat.le_refl _,λ_ _=>rfl⟩⟩)
     · have hml:M=9:=by have:=HM.out;omega
       have hrd:=ab (show rdNum l=(4,0,0) from BZ (λc hc=>ha.out c (by rw[hjM,hml];exact hc)) (by omega));have q5:decide ((l.length:Int) < 9)=false:=by simp;omega
       have q6:decide ((j:Int) < 9)=false:=by simp;omega
       clear hjM hml;by_cases h10:9 < l.length
       · first
         | (exfalso;omega)
         | (go_wp2_with fail
            go_quiet (fail)
            go_wp2_with fail
            go_ret3
            exact⟨_,by rw[hrd.out];rfl,by rw[hrd.out];exact bL a 3 (by omega),⟨rfl,rfl,rfl,Nat.le_refl _,λ_ _=>rfl⟩⟩)
       · have q9:¬j < l.length:=by have:=HM.out;omega
         first
         | (exfalso;omega)
         | (go_wp2_with fail
            go_quiet (fail)
            go_wp2_with fail
            go_ret3
            exact⟨_,by rw[hrd.out];rfl,by rw[hrd.out];exact bL a 3 (by omega),⟨rfl,rfl,rfl,Nat.le_refl _,λ_ _=>rfl⟩⟩)
end Go.Proofs.YtiafamacjpgjoaaGreatDoor
namespace Go.Proofs.YtiafamacjpgjoaaGreatDoor
open Go.RowKit Tide
def eL (a:Nat->Addr):nt:=λW F B p l e=>B<=W.heap.size/\F p/\(∀k,F k->B<=k/\k < W.heap.size)/\dh a F/\∃v x,aI W p 223 v x/\bE a x e/\ei W (λk=>F k/\k≠p) v l
section
variable {a:Nat->Addr} {W W':World} {F G:Nat->Prop} {B p e:Nat} {l:List UInt8}
theorem zd (h:eL a W F B p l e):B<=W.heap.size/\∀k,F k->B<=k/\k < W.heap.size:=⟨h.1,h.2.2.1⟩
theorem lh (h:eL a W F B p l e) (hk:Kept G W W') (hd:∀k,F k->¬G k):eL a W' F B p l e:=by obtain⟨h1,h2,h3,hA,v,x,h4,h5,h6⟩:=h;exact⟨Nat.le_trans h1 hk.size,h2,λk hf=>⟨(h3 k hf).1,Nat.lt_of_lt_of_le (h3 k hf).2 hk.size⟩,hA,v,x,h4.kept hk (hd p h2),h5,h6.kept hk (λk hf=>⟨hd k hf.1,(h3 k hf.1).2⟩)⟩
theorem mg (h:eL a W F B p l e):∃A c x,aI W p 223 (.slice A l.length c) x/\bE a x e/\ei W (λk=>F k/\k≠p) (.slice A l.length c) l:=by obtain⟨_,_,_,_,v,x,h4,h5,h6⟩:=h;have h6':=h6;obtain⟨_,A,c,rfl,_⟩:=h6';exact⟨A,c,x,h4,h5,h6⟩
theorem lj (h:eL a W F B p l e) {w2:World} {v' x':Value} {l':List UInt8} {e':Nat} (hk:Kept (λk=>k=p) W w2) (hT:aI w2 p 223 v' x') (hx:bE a x' e') (hb:ei W (λk=>F k/\k≠p) v' l'):
 eL a w2 F B p l' e'/\(∀k,F k->F k\/W.heap.size<=k)/\Kept F W w2:=by
 obtain⟨h1,h2,h3,hA,_⟩:=h;exact⟨⟨Nat.le_trans h1 hk.size,h2,λk hf=>⟨(h3 k hf).1,Nat.lt_of_lt_of_le (h3 k hf).2 hk.size⟩,hA,v',x',hT,hx,hb.kept hk (λk hf=>⟨hf.2,(h3 k hf.1).2⟩)⟩,λk hf=> .inl hf,hk.mono λi _ hi=>by subst hi;exact h2⟩
end
theorem oT (a:Nat->Addr) (w:World) (v:Value) (B:Nat) (l:List UInt8) (hv:Bytes w B v l) (hB:B<=w.heap.size) (hl:l.length<=100000) (hE:av w a):
 Calls Tryz.prog 120 #[v] w λe w'=>∃p F,e= .returned (.pointer (some ⟨p,0,none⟩))/\eL a w' F B p l 0/\(∀k,F k->w.heap.size<=k)/\Below w.heap.size w w':=by
 have cC:=ab (ke v l B w hv hB (by omega));have HE:=ab hE;obtain⟨A0,c0,rfl,_,_,_⟩:=hv.form;clear hv hE
 go_enter Tryz.func120,Tryz.ntmps120
 go_wp2_with fail
 refine cC.out.mono ?_;rintro e w1 ⟨v1,rfl,ho,hb⟩;obtain⟨A,c,hv1⟩:=lx ho;rw[hv1]at ho ⊢;have HO:=ab ho;have HB:=ab hb;clear ho hb hv1 v1
 go_wp2_with fail
 go_ret
 have hs:=HB.out.size;have hbel:Below w.heap.size w (w1.alloc (.cells #[.slice A l.length c,.nilIface] 223)):=HB.out.alloc hs _;refine⟨w1.heap.size,λk=>w.heap.size<=k/\k < w1.heap.size+1,rfl,⟨Nat.le_trans hB hbel.size,⟨hs,Nat.lt_succ_self _⟩,λk hf=>⟨Nat.le_trans hB hf.1,by simpa using hf.2⟩,dh.new HE.out (λk hf=>hf.1),_,_,aI.new _ _ _ _,fw a,?_⟩,λk hf=>hf.1,hbel⟩;have hbi:ei w1 (λk=>(w.heap.size<=k/\k < w1.heap.size+1)/\k≠w1.heap.size) (.slice A l.length c) l:=ei.cm HO.out (λk h1 h2=>⟨⟨h1,by omega⟩,by omega⟩);exact hbi.kept (Kept.an (F:=λ_=>False) ((Below.refl _ _).alloc (Nat.le_refl _) _)) (λk hf=>⟨λh=>h,by have:=hf.1.2;have:=hf.2;omega⟩)
theorem y9 (a:Nat->Addr) (W:World) (F:Nat->Prop) (B p:Nat) (l:List UInt8) (e:Nat) (h:eL a W F B p l e) (hE:av W a):
 Calls Tryz.prog 123 #[.pointer (some ⟨p,0,none⟩)] W λen w'=>(∃x,en= .returned x/\bE a x (ji l e))/\Below W.heap.size W w':=by
 obtain⟨A,c,x,h4,h5,_⟩:=mg h;obtain⟨_,g0,g1,gf⟩:=h4.facts;have hg:=hE.var 3 (by omega);simp only[cL,List.getD_cons_zero,List.getD_cons_succ]at hg;clear h h4 hE;rcases h5 with⟨rfl,rfl⟩|⟨m,hm,rfl,rfl⟩
 · by_cases hl:l.length=0
   · have hq:decide ((0:Int) < (l.length:Int))=false:=decide_eq_false (by omega);have hq2:¬0 < l.length:=by omega
     have hN:=ab (show ji l 0=0 by have:l= []:=List.eq_nil_of_length_eq_zero hl;subst this;rfl);clear hl
     go_enter Tryz.func123,Tryz.ntmps123
     go_wp2_with fail
     go_ret
     exact⟨⟨_,rfl,by rw[hN.out];exact fw a⟩,Below.refl _ _⟩
   · have hq:decide ((0:Int) < (l.length:Int))=true:=decide_eq_true (by omega);have hq2:0 < l.length:=by omega
     have hN:=ab (show ji l 0=4 by cases l with|nil=>exact absurd rfl hl|cons=>rfl);clear hl
     go_enter Tryz.func123,Tryz.ntmps123
     go_wp2_with fail
     go_ret
     exact⟨⟨_,rfl,by rw[hN.out];exact bL a 3 (by omega)⟩,Below.refl _ _⟩
 · have hN:=ab (show ji l (m+1)=m+1 from if_pos (by omega))
   go_enter Tryz.func123,Tryz.ntmps123
   go_wp2_with fail
   go_ret
   exact⟨⟨_,rfl,by rw[hN.out];exact bL a m hm⟩,Below.refl _ _⟩
end Go.Proofs.YtiafamacjpgjoaaGreatDoor
