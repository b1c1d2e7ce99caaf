import Derived.Test.YtiafamacjpgjoaaGreatDoorGPlR
import Derived.Test.YtiafamacjpgjoaaGreatDoorGKeep
import Derived.Test.YtiafamacjpgjoaaGreatDoorGPush
import Derived.WalkKit
import Derived.WalkSpells
import Derived.Deep.QuietTactic
import Derived.BigQuiet
set_option maxHeartbeats 2000000
namespace Go.Proofs.YtiafamacjpgjoaaGreatDoor
open Go.RowKit Tide
theorem zg (x:Int) (l:List Int) (v:Value) (B:Nat) (w:World) (hv:Row w B v (az l)):
 Calls Tryz.prog 87 #[v,.int .i64 x] w λe w'=>e= .returned (.bool (decide (x ∈ l)))/\w=w':=by
 obtain⟨hl,A,c,rfl,hc⟩:=cF hv;have HC:=ab hc;clear hv hc
 go_enter Tryz.func87,Tryz.ntmps87
 go_wp2_with fail
 go_loop [9] (λi=>∃k:Nat,i= .int .i64 k/\k<=l.length/\Hid (¬x ∈ l.take k)) (λi=>l.length - (intOf i).toNat)
 case atStart=>exact⟨0,rfl,Nat.zero_le _,ab (by simp)⟩
 case round=>
  obtain⟨k,rfl,hk,hS⟩:=hrel;by_cases hlt:k < l.length
  · obtain⟨b,o,rfl,hbl,hcu⟩:=HC.out k hlt;have i1:(k:Int) < (l.length:Int):=by omega
    have HY:=ab (show(l[k]=x->x ∈ l) from λh=>by rw[<-h];exact List.getElem_mem hlt);have HN:=ab (show(¬l[k]=x->¬x ∈ l.take (k+1)) from λh hx=>by
     rw[take_one l k hlt]at hx;rcases List.mem_append.1 hx with h1|h1
     · exact hS.out h1
     · simp at h1;exact h h1.symm)
    generalize l[k]=y at *;by_cases he:y=x
    · have HR:=ab (show decide (x ∈ l)=true from decide_eq_true (HY.out he));have q0:(y == x)=true:=by simp[he]
      clear he
      go_wp2_with fail
      go_ret
      exact⟨by rw[HR.out]<;>rfl,rfl⟩
    · have HR:=ab (HN.out he);have q0:(y == x)=false:=by simp[he]
      clear he
      go_wp2_with fail
      go_round
      case rel=>exact⟨k+1,by go_num,by omega,HR⟩
      case measure=>simp[intOf];omega
  · have HR:=ab (show decide (x ∈ l)=false from decide_eq_false (by have:=hS.out;rwa[List.take_of_length_le (by omega)]at this))
    go_wp2_with fail
    go_ret
    exact⟨by rw[HR.out]<;>rfl,rfl⟩
end Go.Proofs.YtiafamacjpgjoaaGreatDoor
namespace Go.Proofs.YtiafamacjpgjoaaGreatDoor
open Go.RowKit Tide
theorem px (ep:Int) (cs:List (List Int)) (v:Value) (B:Nat) (w:World) (hv:b7 w B v cs) (hB:B<=w.heap.size):
 Calls Tryz.prog 54 #[cA ep v] w λe w'=>e= .returned (.bool (aO ep cs))/\Below w.heap.size w w':=by
 obtain⟨hlen,A,c,rfl,hcell⟩:=hv.form;have HC:=ab hcell;have HB:=ab hB;have hb0:=(Below.refl w.heap.size w).alloc (Nat.le_refl _) (.cells #[.int .i64 ep,.slice A cs.length c] 34);have B0:=ab hb0;have O0:=ab (Own.new (w.alloc (.cells #[.int .i64 ep,.slice A cs.length c] 34)) w.heap.size (by simp) (w.heap.size+1) (by simp));clear hv hcell hB hb0;cases q0:decide (ep < 0) with
 | true=>
   have HR:=ab (show aO ep cs=false from by unfold aO;simp at q0;simp;omega)
   go_enter Tryz.func54,Tryz.ntmps54
   go_wp2_with fail
   go_ret
   exact⟨by rw[HR.out]<;>rfl,B0.out⟩
 | false=>
 cases q1:decide (1073741824 < ep) with
 | true=>
   have HR:=ab (show aO ep cs=false from by unfold aO;simp at q1;simp;omega)
   go_enter Tryz.func54,Tryz.ntmps54
   go_wp2_with fail
   go_ret
   exact⟨by rw[HR.out]<;>rfl,B0.out⟩
 | false=>
 cases q2:decide ((cs.length:Int) < 1) with
 | true=>
   have HR:=ab (show aO ep cs=false from by unfold aO;simp at q2;simp;omega)
   go_enter Tryz.func54,Tryz.ntmps54
   go_wp2_with fail
   go_ret
   exact⟨by rw[HR.out]<;>rfl,B0.out⟩
 | false=>
 cases q3:decide ((3:Int) < (cs.length:Int)) with
 | true=>
   have HR:=ab (show aO ep cs=false from by unfold aO;simp at q3;simp;omega)
   go_enter Tryz.func54,Tryz.ntmps54
   go_wp2_with fail
   go_ret
   exact⟨by rw[HR.out]<;>rfl,B0.out⟩
 | false=>
   have HA:=ab (show(cs.all dQ=true->dB cs.flatten=true->aO ep cs=true) from λh4 h5=>tR q0 q1 q2 q3 h4 h5);have HL3:=ab (show cs.length<=3 by simp at q3;omega)
   go_enter Tryz.func54,Tryz.ntmps54
   go_wp2_with fail
   go_loopw [3,32] (λsv i wr=>∃k:Nat,i= .int .i64 k/\k<=cs.length/\Hid ((cs.take k).all dQ=true)/\Hid (dB (cs.take k).flatten=true)/\Hid (Own wr w.heap.size sv (cs.take k).flatten)/\Hid ((cs.take k).flatten.length<=3 * k)/\Hid (Below w.heap.size w wr)) (λ_ i _=>cs.length - (intOf i).toNat)
   case atStart=>exact⟨0,rfl,Nat.zero_le _,ab rfl,ab rX,O0,ab (by simp),ab (B0.out.alloc (by simp) _)⟩
   case round=>
    obtain⟨k,rfl,hk,hS,hG,hO,hL,hBr⟩:=hrel;by_cases hlt:k < cs.length
    · obtain⟨b,o,u,rfl,hbl,hcu,hr⟩:=HC.out k hlt;obtain⟨hul,Au,cu,rfl,huc⟩:=cF hr;have hbw:b < w.heap.size:=Nat.lt_of_lt_of_le hbl HB.out;have hc1:=(hBr.out.cell (p:=⟨b,o+k,none⟩) hbw).trans hcu;have HU:=ab huc;have HSz:=ab (λ(h:dQ cs[k]=false)=>tS (ep:=ep) hlt h);have HUn:=ab (λ(j:Nat) (hj:j < cs[k].length) (h:fE ((cs.take k).flatten ++ cs[k].take j) cs[k][j]=false)=>tU (ep:=ep) hlt hj h);have HAl:=ab (show(dQ cs[k]=true->(cs.take (k+1)).all dQ=true) from λh=>by rw[List.take_succ_eq_append_getElem hlt,List.all_append,hS.out];simp[h]);have HFl:=ab (pQ cs k hlt);have i1:(k:Int) < (cs.length:Int):=by omega
      clear hr huc hcu;generalize cs[k]=cc at *;cases q4:decide ((cc.length:Int) < 1) with
      | true=>
        have HR:=ab (HSz.out (by unfold dQ;simp at q4;simp;omega))
        go_wp2_with fail
        go_ret
        exact⟨by rw[HR.out]<;>rfl,hBr.out⟩
      | false=>
      cases q5:decide ((3:Int) < (cc.length:Int)) with
      | true=>
        have HR:=ab (HSz.out (by unfold dQ;simp at q5;simp;omega))
        go_wp2_with fail
        go_ret
        exact⟨by rw[HR.out]<;>rfl,hBr.out⟩
      | false=>
        have HA2:=ab (HAl.out (by unfold dQ;simp at q4 q5;simp;omega));have HC3:=ab (show cc.length<=3 by simp at q5;omega)
        go_wp2_with fail
        go_loopw [3,46] (λsv i wr=>∃j:Nat,i= .int .i64 j/\j<=cc.length/\Hid (dB ((cs.take k).flatten ++ cc.take j)=true)/\Hid (Own wr w.heap.size sv ((cs.take k).flatten ++ cc.take j))/\Hid (Below w.heap.size w wr)) (λ_ i _=>cc.length - (intOf i).toNat)
        case atStart=>exact⟨0,rfl,Nat.zero_le _,ab (by rw[List.take_zero,List.append_nil];exact hG.out),ab (by rw[List.take_zero,List.append_nil];exact hO.out),hBr⟩
        case round=>
         clear hG hO;obtain⟨j,rfl,hj,hG,hO,hBr2⟩:=hrel;by_cases hjl:j < cc.length
         · obtain⟨b2,o2,rfl,hbl2,hcu⟩:=HU.out j hjl;have hbw2:b2 < w.heap.size:=Nat.lt_of_lt_of_le hbl2 HB.out;have hc2:=(hBr2.out.cell (p:=⟨b2,o2+j,none⟩) hbw2).trans hcu;have i2:(j:Int) < (cc.length:Int):=by omega
           have HUj:=ab (HUn.out j hjl);have HTk:=ab (take_one cc j hjl);clear hcu;generalize cc[j]=x at *;have CI:=ab (zg x _ _ _ _ hO.out.row);have HLn:=ab (show((cs.take k).flatten ++ cc.take j).length<=1000000 from by rw[List.length_append,List.length_take];have:=hL.out;have:=HC3.out;have:=HL3.out;omega);cases q6:decide (x < 0) with
           | true=>
             have HR:=ab (HUj.out (by unfold fE;simp at q6;rw[decide_eq_false (by omega)];rfl))
             go_wp2_with fail
             go_ret
             exact⟨by rw[HR.out]<;>rfl,hBr2.out⟩
           | false=>
           cases q7:decide (11 < x) with
           | true=>
             have HR:=ab (HUj.out (by unfold fE;simp at q7;rw[show decide (x < 12)=false from decide_eq_false (by omega)];simp))
             go_wp2_with fail
             go_ret
             exact⟨by rw[HR.out]<;>rfl,hBr2.out⟩
           | false=>
           cases q8:decide (x ∈ (cs.take k).flatten ++ cc.take j) with
           | true=>
             have HR:=ab (HUj.out (by unfold fE;rw[q8];simp));rw[q8]at CI;clear q8
             go_wp2_with fail
             refine CI.out.mono ?_;rintro e w' ⟨rfl,rfl⟩
             go_wp2_with fail
             go_ret
             exact⟨by rw[HR.out]<;>rfl,hBr2.out⟩
           | false=>
             have HGo:=ab (show dB ((cs.take k).flatten ++ cc.take (j+1))=true from by rw[HTk.out,<-List.append_assoc,nW,hG.out];unfold fE;rw[q8];simp at q6 q7;simp;omega);rw[q8]at CI;clear q8
             go_wp2_with fail
             refine CI.out.mono ?_;rintro e w' ⟨rfl,rfl⟩
             go_wp2_with (at_builtin;refine qf rfl (.tmp 61) (.tmp 63) rfl x rfl rfl hO.out HLn.out hBr2.out.size ?_)
             intro v9 w9 h1 _ h3;have O9:=ab h1;have B9:=ab (hBr2.out.trans h3);clear h1 h3
             go_wp2_with fail
             go_roundw
             case rel=>exact⟨j+1,by go_num,by omega,HGo,ab (by rw[HTk.out];exact O9.out),B9⟩
             case measure=>simp[intOf];omega
         · have HE:=ab (List.take_of_length_le (l:=cc) (i:=j) (by omega))
           go_wp2_with fail
           go_roundw
           case rel=>exact⟨k+1,by go_num,by omega,HA2,ab (by rw[HFl.out,<-HE.out];exact hG.out),ab (by rw[HFl.out,<-HE.out];exact hO.out),ab (by rw[HFl.out,List.length_append];have:=hL.out;have:=HC3.out;omega),hBr2⟩
           case measure=>simp[intOf];omega
    · have HR:=ab (show aO ep cs=true from HA.out (by rw[<-List.take_of_length_le (l:=cs) (i:=k) (by omega)];exact hS.out) (by rw[<-List.take_of_length_le (l:=cs) (i:=k) (by omega)];exact hG.out))
      go_wp2_with fail
      go_ret
      exact⟨by rw[HR.out]<;>rfl,hBr.out⟩
theorem Da (ep:Int) (cs:List (List Int)) (ts:List Int) (v u:Value) (B:Nat) (w:World) (hv:b7 w B v cs) (hu:Row w B u (az ts)) (hB:B<=w.heap.size) (hR:aO ep cs=true) (hts:ts.length<=1000000):
 Calls Tryz.prog 60 #[cA ep v,u] w λe w'=>e= .returned (.int .i64 (cO ep cs ts ts.length))/\Below w.heap.size w w':=by
 obtain⟨hlen,A,c,rfl,hcl⟩:=hv.form;obtain⟨hlu,A2,c2,rfl,hcu⟩:=cF hu;have hb0:=(Below.refl w.heap.size w).alloc (Nat.le_refl _) (.cells #[.int .i64 ep,.slice A cs.length c] 34);have B0:=ab hb0;have HC:=ab hcu;have HB:=ab hB;obtain⟨_,_,n1,n3,_⟩:=fh hR;have HS:=ab (show ∀k,cO ep cs ts (k+1)=max (cO ep cs ts k) (dq ep cs k (eT (ts.getD k 0))+1) from λk=>by rw[cO]);have HAd:=ab (show ∀k t,(k:Nat) < cs.length->dq ep cs k (eT t)+1=if 0 < t then(min t 4096 - 1) * cs.length+k+1 else 0 from λk t hk=>by
  unfold dq;by_cases ht:0 < t
  · rw[if_pos ht,if_pos ⟨hR,by omega,by omega,by unfold eT;omega,by unfold eT;omega⟩,show eT t=min t 4096 - 1 by unfold eT;omega]
  · rw[if_neg ht,if_neg (by unfold eT;omega)];rfl)
 have HOut:=ab (show ∀k,cs.length<=k->cO ep cs ts k=cO ep cs ts cs.length from λk hk=>by
  induction k with
  | zero=>have:cs.length=0:=by omega
          rw[this]
  | succ k ih=>
    by_cases e:cs.length=k+1
    · rw[e]
    · rw[cO,ih (by omega)];have h0:=(ng ep cs ts cs.length).1;unfold dq;rw[if_neg (by omega)];omega)
 have HTB:=ab (ng ep cs ts);have hcb:∀b o,b < w.heap.size->(w.alloc (.cells #[.int .i64 ep,.slice A cs.length c] 34)).cell? ⟨b,o,none⟩=w.cell? ⟨b,o,none⟩:=eH hb0;have HCB:=ab hcb;clear hv hB hcl hcu hu hb0 hcb hR;generalize cs.length=n at *
 go_enter Tryz.func60,Tryz.ntmps60
 go_wp2_with fail
 go_loop [6,7] (λt i=>∃k:Nat,i= .int .i64 k/\k<=n/\k<=ts.length/\t= .int .i64 (cO ep cs ts k)) (λ_ i=>n - (intOf i).toNat)
 case atStart=>exact⟨0,rfl,Nat.zero_le _,Nat.zero_le _,rfl⟩
 case round=>
  obtain⟨k,rfl,hk,hk2,rfl⟩:=hrel;by_cases h1:k < n
  · by_cases h2:k < ts.length
    · obtain⟨b,o,rfl,hbl,hcu⟩:=HC.out k h2;have hbw:b < w.heap.size:=Nat.lt_of_lt_of_le hbl HB.out;have hc1:=(HCB.out b (o+k) hbw).trans hcu;have i1:(k:Int) < (n:Int):=by omega
      have i2:(k:Int) < (ts.length:Int):=by omega
      have hS:=HS.out k;rw[List.getD_eq_getElem?_getD,List.getElem?_eq_getElem h2]at hS;have HS2:=ab (hS.trans (by rw[Option.getD_some,HAd.out k _ h1]));have tb:=HTB.out k;clear hcu hS;generalize ts[k]=x at *;generalize cO ep cs ts k=t at *;have kb:(k:Int)<=2:=by omega
      have hn:n=1\/n=2\/n=3:=by omega
      have three:x<=0\/(0 < x/\x<=4096)\/4096 < x:=by omega
      rcases three with hx|⟨hx,hx2⟩|hx
      · have hx3:¬4096 < x:=by omega
        have hx4:¬0 < x:=by omega
        have HS3:=ab (show cO ep cs ts (k+1)=t by rw[HS2.out,if_neg hx4];omega)
        go_wp2_with fail
        go_round
        case rel=>exact⟨k+1,by go_num,by omega,by omega,by rw[HS3.out]⟩
        case measure=>simp[intOf];omega
      · have hx3:¬4096 < x:=by omega
        have HS3:=ab (show cO ep cs ts (k+1)=max t ((x - 1) * (n:Int)+k+1) by rw[HS2.out,if_pos hx,Int.min_eq_left hx2]);rcases hn with rfl|rfl|rfl
        · by_cases hm:t < x - 1+(k:Int)+1
          · go_wp2_with fail
            go_round
            case rel=>exact⟨k+1,by go_num,by omega,by omega,by rw[HS3.out,Int.max_eq_right (by omega)];simp⟩
            case measure=>simp[intOf];omega
          · go_wp2_with fail
            go_round
            case rel=>exact⟨k+1,by go_num,by omega,by omega,by rw[HS3.out,Int.max_eq_left (by omega)]⟩
            case measure=>simp[intOf];omega
        · by_cases hm:t < (x - 1) * 2+(k:Int)+1
          · go_wp2_with fail
            go_round
            case rel=>exact⟨k+1,by go_num,by omega,by omega,by rw[HS3.out,Int.max_eq_right (by omega)];simp⟩
            case measure=>simp[intOf];omega
          · go_wp2_with fail
            go_round
            case rel=>exact⟨k+1,by go_num,by omega,by omega,by rw[HS3.out,Int.max_eq_left (by omega)]⟩
            case measure=>simp[intOf];omega
        · by_cases hm:t < (x - 1) * 3+(k:Int)+1
          · go_wp2_with fail
            go_round
            case rel=>exact⟨k+1,by go_num,by omega,by omega,by rw[HS3.out,Int.max_eq_right (by omega)];simp⟩
            case measure=>simp[intOf];omega
          · go_wp2_with fail
            go_round
            case rel=>exact⟨k+1,by go_num,by omega,by omega,by rw[HS3.out,Int.max_eq_left (by omega)]⟩
            case measure=>simp[intOf];omega
      · have hx4:0 < x:=by omega
        have HS3:=ab (show cO ep cs ts (k+1)=max t ((4096 - 1) * (n:Int)+k+1) by rw[HS2.out,if_pos hx4,Int.min_eq_right (by omega)]);rcases hn with rfl|rfl|rfl
        · by_cases hm:t < 4095+(k:Int)+1
          · go_wp2_with fail
            go_round
            case rel=>exact⟨k+1,by go_num,by omega,by omega,by rw[HS3.out,Int.max_eq_right (by omega)];simp⟩
            case measure=>simp[intOf];omega
          · go_wp2_with fail
            go_round
            case rel=>exact⟨k+1,by go_num,by omega,by omega,by rw[HS3.out,Int.max_eq_left (by omega)]⟩
            case measure=>simp[intOf];omega
        · by_cases hm:t < 8190+(k:Int)+1
          · go_wp2_with fail
            go_round
            case rel=>exact⟨k+1,by go_num,by omega,by omega,by rw[HS3.out,Int.max_eq_right (by omega)];simp⟩
            case measure=>simp[intOf];omega
          · go_wp2_with fail
            go_round
            case rel=>exact⟨k+1,by go_num,by omega,by omega,by rw[HS3.out,Int.max_eq_left (by omega)]⟩
            case measure=>simp[intOf];omega
        · by_cases hm:t < 12285+(k:Int)+1
          · go_wp2_with fail
            go_round
            case rel=>exact⟨k+1,by go_num,by omega,by omega,by rw[HS3.out,Int.max_eq_right (by omega)];simp⟩
            case measure=>simp[intOf];omega
          · go_wp2_with fail
            go_round
            case rel=>exact⟨k+1,by go_num,by omega,by omega,by rw[HS3.out,Int.max_eq_left (by omega)]⟩
            case measure=>simp[intOf];omega
    · have HE:=ab (show k=ts.length by omega);have i2:¬(k:Int) < (ts.length:Int):=by omega
      go_wp2_with fail
      go_ret
      exact⟨by rw[<-HE.out]<;>rfl,B0.out⟩
  · have HE:=ab (show cO ep cs ts ts.length=cO ep cs ts k by rw[HOut.out _ (by omega),HOut.out k (by omega)])
    go_wp2_with fail
    go_ret
    exact⟨by rw[HE.out]<;>rfl,B0.out⟩
end Go.Proofs.YtiafamacjpgjoaaGreatDoor
