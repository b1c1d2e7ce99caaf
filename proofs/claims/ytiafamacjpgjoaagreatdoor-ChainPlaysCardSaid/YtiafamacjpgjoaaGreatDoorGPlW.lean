import Derived.Test.YtiafamacjpgjoaaGreatDoorGPlR
import Derived.Test.YtiafamacjpgjoaaGreatDoorGKeep
import Derived.Test.YtiafamacjpgjoaaGreatDoorGErr
import Derived.Test.YtiafamacjpgjoaaGreatDoorGBits7
import Derived.Deep.QuietTactic
import Derived.BigQuiet
set_option maxHeartbeats 1000000
namespace Go.Proofs.YtiafamacjpgjoaaGreatDoor
open Go.RowKit Tide
def kO (w:World) (a:Nat->Addr):Prop:=w.cell? ⟨2,0,none⟩=some (ao (a 0))/\w.cell? ⟨1,0,none⟩=some (ao (a 3))/\2 < w.heap.size/\1 < w.heap.size
theorem kO.below {w w':World} {a:Nat->Addr} (h:kO w a) (hb:Below w.heap.size w w'):kO w' a:=
 ⟨(hb.cell (p:=⟨2,0,none⟩) h.2.2.1).trans h.1,(hb.cell (p:=⟨1,0,none⟩) h.2.2.2).trans h.2.1,by have:=h.2.2.1;have:=hb.size;omega,by have:=h.2.2.2;have:=hb.size;omega⟩
theorem qA (ep:Int) (cs:List (List Int)) (v:Value) (ch at':Int) (B:Nat) (w:World) (hv:b7 w B v cs) (hB:B<=w.heap.size):
 Calls Tryz.prog 74 #[cA ep v,.int .i64 ch,.int .i64 at'] w λe w'=>e= .returned (.int .i64 (dq ep cs ch at'))/\Below w.heap.size w w':=by
 obtain⟨hlen,A,c,rfl,hcl⟩:=hv.form;clear hcl;have B0:=ab ((Below.refl w.heap.size w).alloc (Nat.le_refl _) (.cells #[.int .i64 ep,.slice A cs.length c] 24));have P0:=ab (aI.new w 24 (.int .i64 ep) (.slice A cs.length c));have CR:=ab (λW (h:Below w.heap.size w W)=>kF ep cs _ B W (hv.below (h.mono hB)) (Nat.le_trans hB h.size));have HA:=ab (show dq ep cs ch at'=if aO ep cs=true/\0<=ch/\ch < cs.length/\0<=at'/\at'<=4096 then at' * cs.length+ch else -1 from rfl);have HP:=ab (λh=> @fh ep cs h);generalize dq ep cs ch at'=r at *;clear hv hB;cases hr:aO ep cs with
 | false=>
   rw[hr]at CR HA;have HR:=ab (show r= -1 from by rw[HA.out,if_neg (by simp)]);clear hr
   go_enter Tryz.func74,Tryz.ntmps74
   go_wp2_with fail
   refine(CR.out _ B0.out).mono ?_;rintro e w1 ⟨rfl,hb⟩;have HB:=ab (B0.out.trans (hb.mono B0.out.size));clear hb
   go_wp2_with fail
   go_ret
   exact⟨by rw[HR.out]<;>rfl,HB.out⟩
 | true=>
   rw[hr]at CR HA HP;have hn:=HP.out rfl;have n1:=hn.2.2.1;have n3:=hn.2.2.2.1;clear hn HP hr;have HP:=P0;generalize cs.length=n at *;cases q0:decide (ch < 0) with
   | true=>
     have HR:=ab (show r= -1 from by rw[HA.out,if_neg (by simp at q0;omega)])
     go_enter Tryz.func74,Tryz.ntmps74
     go_wp2_with fail
     refine(CR.out _ B0.out).mono ?_;rintro e w1 ⟨rfl,hb⟩;have HB:=ab (B0.out.trans (hb.mono B0.out.size));clear hb
     go_wp2_with fail
     go_ret
     exact⟨by rw[HR.out]<;>rfl,HB.out⟩
   | false=>
   cases q1:decide ((n:Int)<=ch) with
   | true=>
     have HR:=ab (show r= -1 from by rw[HA.out,if_neg (by simp at q1;omega)])
     go_enter Tryz.func74,Tryz.ntmps74
     go_wp2_with fail
     refine(CR.out _ B0.out).mono ?_;rintro e w1 ⟨rfl,hb⟩;have HB:=ab (B0.out.trans (hb.mono B0.out.size));obtain⟨_,hc0,hc1,_⟩:=(P0.out.below hb P0.out.lt).facts;clear hb
     go_wp2_with fail
     go_ret
     exact⟨by rw[HR.out]<;>rfl,HB.out⟩
   | false=>
   cases q2:decide (at' < 0) with
   | true=>
     have HR:=ab (show r= -1 from by rw[HA.out,if_neg (by simp at q2;omega)])
     go_enter Tryz.func74,Tryz.ntmps74
     go_wp2_with fail
     refine(CR.out _ B0.out).mono ?_;rintro e w1 ⟨rfl,hb⟩;have HB:=ab (B0.out.trans (hb.mono B0.out.size));obtain⟨_,hc0,hc1,_⟩:=(P0.out.below hb P0.out.lt).facts;clear hb
     go_wp2_with fail
     go_ret
     exact⟨by rw[HR.out]<;>rfl,HB.out⟩
   | false=>
   cases q3:decide (4096 < at') with
   | true=>
     have HR:=ab (show r= -1 from by rw[HA.out,if_neg (by simp at q3;omega)])
     go_enter Tryz.func74,Tryz.ntmps74
     go_wp2_with fail
     refine(CR.out _ B0.out).mono ?_;rintro e w1 ⟨rfl,hb⟩;have HB:=ab (B0.out.trans (hb.mono B0.out.size));obtain⟨_,hc0,hc1,_⟩:=(P0.out.below hb P0.out.lt).facts;clear hb
     go_wp2_with fail
     go_ret
     exact⟨by rw[HR.out]<;>rfl,HB.out⟩
   | false=>
     have i0:0<=ch:=by simp at q0;omega
     have i1:ch < (n:Int):=by simp at q1;omega
     have i2:0<=at':=by simp at q2;omega
     have i3:at'<=4096:=by simp at q3;omega
     have HR:=ab (show r=at' * n+ch from by rw[HA.out,if_pos ⟨rfl,i0,i1,i2,i3⟩]);have hn:n=1\/n=2\/n=3:=by omega
     clear HA;rcases hn with rfl|hn
     · have HR1:=ab (show r=at'+ch from by rw[HR.out];omega)
       go_enter Tryz.func74,Tryz.ntmps74
       go_wp2_with fail
       refine(CR.out _ B0.out).mono ?_;rintro e w1 ⟨rfl,hb⟩;have HB:=ab (B0.out.trans (hb.mono B0.out.size));obtain⟨_,hc0,hc1,_⟩:=(P0.out.below hb P0.out.lt).facts;clear hb
       go_wp2_with fail
       go_ret
       exact⟨by rw[HR1.out]<;>rfl,HB.out⟩
     rcases hn with rfl|rfl
     all_goals
      go_enter Tryz.func74,Tryz.ntmps74
      go_wp2_with fail
      refine(CR.out _ B0.out).mono ?_;rintro e w1 ⟨rfl,hb⟩;have HB:=ab (B0.out.trans (hb.mono B0.out.size));obtain⟨_,hc0,hc1,_⟩:=(P0.out.below hb P0.out.lt).facts;clear hb
      go_wp2_with fail
      go_ret
      exact⟨by rw[HR.out]<;>rfl,HB.out⟩
theorem iq {B:Nat} {a w:World} (h:Below B a w) (n:Nat):Below B a (w.drewN n):=⟨h.os,h.tape,h.output,h.size,h.block⟩
def qt (E:Nat->Addr) (ep:Int) (cs:List (List Int)) (a:Int) (v:Value):Prop:=
 (aO ep cs=false/\v= .tuple #[.int .i64 0,.int .i64 0,ao (E 3)])\/(aO ep cs=true/\¬(0<=a/\a<=4095)/\v= .tuple #[.int .i64 0,.int .i64 0,ao (E 0)])\/
   (aO ep cs=true/\0<=a/\a<=4095/\v= .tuple #[.int .i64 (a % cs.length),.int .i64 (a / cs.length),.nilIface])
theorem Bt (E:Nat->Addr) (ep:Int) (cs:List (List Int)) (v:Value) (a:Int) (B:Nat) (w:World) (hv:b7 w B v cs) (hB:B<=w.heap.size) (hE:kO w E):
 Calls Tryz.prog 68 #[cA ep v,.int .i64 a] w λe w'=>∃x,e= .returned x/\qt E ep cs a x/\Below w.heap.size w w':=by
 obtain⟨hlen,A,c,rfl,hcl⟩:=hv.form;clear hcl;have B0:=ab ((Below.refl w.heap.size w).alloc (Nat.le_refl _) (.cells #[.int .i64 ep,.slice A cs.length c] 24));have P0:=ab (aI.new w 24 (.int .i64 ep) (.slice A cs.length c));have CR:=ab (λW (h:Below w.heap.size w W)=>kF ep cs _ B W (hv.below (h.mono hB)) (Nat.le_trans hB h.size));have HE:=ab hE;have HP:=ab (λh=> @fh ep cs h);clear hv hB hE;cases hr:aO ep cs with
 | false=>
   rw[hr]at CR;have HR:=ab hr;clear hr
   go_enter Tryz.func68,Tryz.ntmps68
   go_wp2_with fail
   refine(CR.out _ B0.out).mono ?_;rintro e w1 ⟨rfl,hb⟩;have HB:=ab (B0.out.trans (hb.mono B0.out.size));obtain⟨e0,e3,_,_⟩:=HE.out.below HB.out;clear hb
   go_wp2_with fail
   go_quiet (fail)
   go_wp2_with fail
   go_ret3
   exact⟨_,rfl,.inl ⟨HR.out,rfl⟩,iq HB.out _⟩
 | true=>
   rw[hr]at CR HP;have hn:=HP.out rfl;have n1:=hn.2.2.1;have n3:=hn.2.2.2.1;have HR:=ab hr;clear hn HP hr;cases q0:decide (a < 0) with
   | true=>
     go_enter Tryz.func68,Tryz.ntmps68
     go_wp2_with fail
     refine(CR.out _ B0.out).mono ?_;rintro e w1 ⟨rfl,hb⟩;have HB:=ab (B0.out.trans (hb.mono B0.out.size));obtain⟨e0,e3,_,_⟩:=HE.out.below HB.out;clear hb
     go_wp2_with fail
     go_quiet (fail)
     go_wp2_with fail
     go_ret3
     exact⟨_,rfl,.inr (.inl ⟨HR.out,by simp at q0;omega,rfl⟩),iq HB.out _⟩
   | false=>
   cases q1:decide (4096<=a) with
   | true=>
     go_enter Tryz.func68,Tryz.ntmps68
     go_wp2_with fail
     refine(CR.out _ B0.out).mono ?_;rintro e w1 ⟨rfl,hb⟩;have HB:=ab (B0.out.trans (hb.mono B0.out.size));obtain⟨e0,e3,_,_⟩:=HE.out.below HB.out;clear hb
     go_wp2_with fail
     go_quiet (fail)
     go_wp2_with fail
     go_ret3
     exact⟨_,rfl,.inr (.inl ⟨HR.out,by simp at q1;omega,rfl⟩),iq HB.out _⟩
   | false=>
     have i0:0<=a:=by simp at q0;omega
     have i1:a < 4096:=by simp at q1;omega
     have HX:=ab (λ(x:Value) (h:x= .tuple #[.int .i64 (a % cs.length),.int .i64 (a / cs.length),.nilIface])=>(show qt E ep cs a x from .inr (.inr ⟨HR.out,i0,by omega,h⟩)));generalize cs.length=n at *;have nz:(0:Int)<=(n:Int):=by omega
     have nq:((n:Int) == 0)=false:=by simp;omega
     go_enter Tryz.func68,Tryz.ntmps68
     go_wp2_with fail
     refine(CR.out _ B0.out).mono ?_;rintro e w1 ⟨rfl,hb⟩;have HB:=ab (B0.out.trans (hb.mono B0.out.size));obtain⟨_,hc0,hc1,_⟩:=(P0.out.below hb P0.out.lt).facts;clear hb
     go_wp2_with fail
     go_quiet (fail)
     go_wp2_with fail
     go_ret3
     exact⟨_,rfl,HX.out _ rfl,iq HB.out _⟩
end Go.Proofs.YtiafamacjpgjoaaGreatDoor
namespace Go.Proofs.YtiafamacjpgjoaaGreatDoor
open Go.RowKit Tide
theorem DX (ep:Int) (cs:List (List Int)) (ts:List Int) (v u:Value) (B:Nat) (w:World) (hv:b7 w B v cs) (hu:Row w B u (az ts)) (hB:B<=w.heap.size):
 Calls Tryz.prog 58 #[cA ep v,u] w λe w'=>e= .returned (.int .i64 (cO ep cs ts ts.length))/\Below w.heap.size w w':=by
 obtain⟨hlen,A,c,rfl,hcl⟩:=hv.form;obtain⟨hlu,A2,c2,rfl,hcu⟩:=cF hu;have B0:=ab ((Below.refl w.heap.size w).alloc (Nat.le_refl _) (.cells #[.int .i64 ep,.slice A cs.length c] 24));have P0:=ab (aI.new w 24 (.int .i64 ep) (.slice A cs.length c));have HC:=ab hcu;have HB:=ab hB;have CA:=ab (λch at' W (h:Below w.heap.size w W)=>qA ep cs _ ch at' B W (hv.below (h.mono hB)) (Nat.le_trans hB h.size));clear hv hB hcl hcu hu
 go_enter Tryz.func58,Tryz.ntmps58
 go_wp2_with fail
 go_loopw [5,11] (λt i wr=>∃k:Nat,i= .int .i64 k/\k<=ts.length/\t= .int .i64 (cO ep cs ts k)/\Hid (aI wr w.heap.size 24 (.int .i64 ep) (.slice A cs.length c))/\Hid (Below w.heap.size w wr)) (λ_ i _=>ts.length - (intOf i).toNat)
 case atStart=>exact⟨0,rfl,Nat.zero_le _,rfl,P0,B0⟩
 case round=>
  obtain⟨k,rfl,hk,rfl,hP,hBr⟩:=hrel;by_cases hlt:k < ts.length
  · obtain⟨b,o,rfl,hbl,hcu⟩:=HC.out k hlt;have hbw:b < w.heap.size:=Nat.lt_of_lt_of_le hbl HB.out;have hc1:=(hBr.out.cell (p:=⟨b,o+k,none⟩) hbw).trans hcu;obtain⟨_,hc2,hc3,_⟩:=hP.out.facts;have i1:(k:Int) < (ts.length:Int):=by omega
    have HS:=ab (show cO ep cs ts (k+1)=max (cO ep cs ts k) (dq ep cs k (eT ts[k])+1) from by rw[cO,List.getD_eq_getElem?_getD,List.getElem?_eq_getElem hlt];rfl);have tb:=ng ep cs ts k;have HAb:=ab (λx=>qB ep cs k x);clear hcu;generalize ts[k]=x at *;generalize cO ep cs ts k=t at *;have three:x < 0\/(0<=x/\x<=4096)\/4096 < x:=by omega
    obtain⟨y,hy⟩:=aa (eT x);rcases three with hx|⟨hx,hx2⟩|hx
    · have HL:=ab (show eT x= -1 from by unfold eT;omega);clear hy
      go_wp2_with fail
      have HS2:=ab (show cO ep cs ts (k+1)=max t (dq ep cs k (-1)+1) from by rw[HS.out,HL.out]);have hab:=HAb.out (-1);have CA1:=ab (CA.out k (-1) _ hBr.out);generalize dq ep cs k (-1)=r at *;clear HL;refine CA1.out.mono ?_;rintro e w1 ⟨rfl,hb⟩;have HB1:=ab (hBr.out.trans (hb.mono hBr.out.size));have HP1:=ab (hP.out.below hb hP.out.lt);clear hb hc1 hc2 hc3;by_cases qm:t < r+1
      · go_wp2_with fail
        go_roundw
        case rel=>exact⟨k+1,by go_num,by omega,by rw[HS2.out,Int.max_eq_right (by omega)]<;>rfl,HP1,HB1⟩
        case measure=>simp[intOf];omega
      · go_wp2_with fail
        go_roundw
        case rel=>exact⟨k+1,by go_num,by omega,by rw[HS2.out,Int.max_eq_left (by omega)]<;>rfl,HP1,HB1⟩
        case measure=>simp[intOf];omega
    · have HL:=ab (show eT x=x - 1 from by unfold eT;omega);clear hy;have hx3:¬x < 0:=by omega
      go_wp2_with fail
      have HS2:=ab (show cO ep cs ts (k+1)=max t (dq ep cs k (x - 1)+1) from by rw[HS.out,HL.out]);have hab:=HAb.out (x - 1);have CA1:=ab (CA.out k (x - 1) _ hBr.out);generalize dq ep cs k (x - 1)=r at *;clear HL;refine CA1.out.mono ?_;rintro e w1 ⟨rfl,hb⟩;have HB1:=ab (hBr.out.trans (hb.mono hBr.out.size));have HP1:=ab (hP.out.below hb hP.out.lt);clear hb hc1 hc2 hc3;by_cases qm:t < r+1
      · go_wp2_with fail
        go_roundw
        case rel=>exact⟨k+1,by go_num,by omega,by rw[HS2.out,Int.max_eq_right (by omega)]<;>rfl,HP1,HB1⟩
        case measure=>simp[intOf];omega
      · go_wp2_with fail
        go_roundw
        case rel=>exact⟨k+1,by go_num,by omega,by rw[HS2.out,Int.max_eq_left (by omega)]<;>rfl,HP1,HB1⟩
        case measure=>simp[intOf];omega
    · have HL:=ab (show eT x=4095 from by unfold eT;omega);clear hy;have hx3:¬x < 0:=by omega
      go_wp2_with fail
      have HS2:=ab (show cO ep cs ts (k+1)=max t (dq ep cs k (4095)+1) from by rw[HS.out,HL.out]);have hab:=HAb.out (4095);have CA1:=ab (CA.out k (4095) _ hBr.out);generalize dq ep cs k (4095)=r at *;clear HL;refine CA1.out.mono ?_;rintro e w1 ⟨rfl,hb⟩;have HB1:=ab (hBr.out.trans (hb.mono hBr.out.size));have HP1:=ab (hP.out.below hb hP.out.lt);clear hb hc1 hc2 hc3;by_cases qm:t < r+1
      · go_wp2_with fail
        go_roundw
        case rel=>exact⟨k+1,by go_num,by omega,by rw[HS2.out,Int.max_eq_right (by omega)]<;>rfl,HP1,HB1⟩
        case measure=>simp[intOf];omega
      · go_wp2_with fail
        go_roundw
        case rel=>exact⟨k+1,by go_num,by omega,by rw[HS2.out,Int.max_eq_left (by omega)]<;>rfl,HP1,HB1⟩
        case measure=>simp[intOf];omega
  · have HE:=ab (show k=ts.length from by omega)
    go_wp2_with fail
    go_ret
    exact⟨by rw[<-HE.out]<;>rfl,hBr.out⟩
end Go.Proofs.YtiafamacjpgjoaaGreatDoor
