import Derived.Test.YtdilnodbfnlhdaaGreatDoorGWrS
import Derived.Test.YtdilnodbfnlhdaaGreatDoorGPlCa
import Derived.Test.YtdilnodbfnlhdaaGreatDoorGTkL
import Derived.Test.YtdilnodbfnlhdaaGreatDoorGPlR
import Derived.Test.YtdilnodbfnlhdaaGreatDoorGErr
import Derived.Test.YtdilnodbfnlhdaaGreatDoorGBits7
import Derived.Test.YtdilnodbfnlhdaaGreatDoorGKinO
import Derived.Deep.RegionHeld3
set_option maxHeartbeats 8000000
set_option maxRecDepth 100000
namespace Go.Proofs.YtdilnodbfnlhdaaGreatDoor
open Go.RowKit Tide
def iy (cs:List (List Int)):Bool:=decide (10 < cs.length) || cs.any λc=>decide (10 < c.length)
theorem yX (ep:Int) (cs:List (List Int)) (v:Value) (B:Nat) (w:World) (hv:cO w B v cs) (hB:B<=w.heap.size):
 Calls Tryz.prog 7 #[cL ep v] w λe w'=>e= .returned (.bool (iy cs))/\Below w.heap.size w w':=by
 obtain⟨hlen,A,c,rfl,hcell⟩:=hv.form;have HC:=ab hcell;have HB:=ab hB;have B0:=ab ((Below.refl w.heap.size w).alloc (Nat.le_refl _) (.cells #[.int .i64 ep,.slice A cs.length c] 24));clear hv hcell hB;cases q0:decide ((10:Int) < (cs.length:Int)) with
 | true=>
   have HR:=ab (show iy cs=true from by unfold iy;simp at q0;rw[decide_eq_true (by omega)];rfl)
   go_enter Tryz.func7,Tryz.ntmps7
   go_wp2_with fail
   go_ret
   exact⟨by rw[HR.out]<;>rfl,B0.out⟩
 | false=>
   have HL:=ab (show iy cs=cs.any λc=>decide (10 < c.length) from by unfold iy;simp at q0;rw[decide_eq_false (by omega)];rfl);have hcb:Below w.heap.size w (w.alloc (.cells #[.int .i64 ep,.slice A cs.length c] 24)):=B0.out;have HCW:=ab (show ∀b o,b < w.heap.size->(w.alloc (.cells #[.int .i64 ep,.slice A cs.length c] 24)).cell? ⟨b,o,none⟩=w.cell? ⟨b,o,none⟩from ew hcb);clear hcb
   go_enter Tryz.func7,Tryz.ntmps7
   go_wp2_with fail
   go_loop [12] (λi=>∃k:Nat,i= .int .i64 k/\k<=cs.length/\Hid (((cs.take k).any λc=>decide (10 < c.length))=false)) (λi=>cs.length - (intOf i).toNat)
   case atStart=>exact⟨0,rfl,Nat.zero_le _,ab rfl⟩
   case round=>
    obtain⟨k,rfl,hk,hS⟩:=hrel;by_cases hlt:k < cs.length
    · obtain⟨b,o,u,rfl,hbl,hcu,hr⟩:=HC.out k hlt;obtain⟨hul,Au,cu,rfl,huc⟩:=dn hr;have hbw:b < w.heap.size:=Nat.lt_of_lt_of_le hbl HB.out;have hc1:=(HCW.out b (o+k) hbw).trans hcu;have i1:(k:Int) < (cs.length:Int):=by omega
      have HX:=ab (show(decide (10 < cs[k].length)=true->iy cs=true) from λh=>by rw[HL.out,List.any_eq_true];exact⟨_,List.getElem_mem hlt,h⟩);have HY:=ab (show(decide (10 < cs[k].length)=false->((cs.take (k+1)).any λc=>decide (10 < c.length))=false) from λh=>by rw[List.take_succ_eq_append_getElem hlt,List.any_append,hS.out];simpa using h);clear hr huc hcu;generalize cs[k]=cc at *;cases q4:decide ((10:Int) < (cc.length:Int)) with
      | true=>
        have HR:=ab (HX.out (by simp at q4;simp;omega))
        go_wp2_with fail
        go_ret
        exact⟨by rw[HR.out]<;>rfl,B0.out⟩
      | false=>
        have HR:=ab (HY.out (by simp at q4;simp;omega))
        go_wp2_with fail
        go_round
        case rel=>exact⟨k+1,by go_num,by omega,HR⟩
        case measure=>simp[intOf];omega
    · have HR:=ab (show iy cs=false from by rw[HL.out];have:=hS.out;rwa[List.take_of_length_le (by omega)]at this)
      go_wp2_with fail
      go_ret
      exact⟨by rw[HR.out]<;>rfl,B0.out⟩
theorem yW (e:aD) (vo vd:Value) (B:Nat) (w:World) (hi:dY w B e vo vd) (hB:B<=w.heap.size):
 Calls Tryz.prog 10 #[.agg (cj e vo vd)] w λen w'=>en= .returned (.bool (iT e))/\Below w.heap.size w w':=by
 obtain⟨A,c,rfl,hn,hcell⟩:=eV hi.1;obtain⟨Ad,cd,rfl,_,_,_⟩:=hi.2.form;have HC:=ab hcell;have HE:=ab (show iT e=((decide ((20:Int) < (e.ops.length:Int)) || (decide ((300:Int) < (e.key.size:Int)) || decide ((600:Int) < (e.data.length:Int)))) || e.ops.any fQ) from rfl);have B0:=ab (show Below w.heap.size w (bG w e (.slice A e.ops.length c) (.slice Ad e.data.length cd)) from(Below.refl _ _).alloc (Nat.le_refl _) _);clear hi hcell;unfold bG cj at *;cases h0:decide ((20:Int) < (e.ops.length:Int)) with
 | true=>
   go_enter Tryz.func10,Tryz.ntmps10
   go_wp2_with fail
   go_ret
   exact⟨by rw[HE.out,h0];rfl,B0.out⟩
 | false=>
   cases h1:decide ((300:Int) < (e.key.size:Int)) with
   | true=>
     go_enter Tryz.func10,Tryz.ntmps10
     go_wp2_with fail
     go_ret
     exact⟨by rw[HE.out,h0,h1];rfl,B0.out⟩
   | false=>
     cases h2:decide ((600:Int) < (e.data.length:Int)) with
     | true=>
       go_enter Tryz.func10,Tryz.ntmps10
       go_wp2_with fail
       go_ret
       exact⟨by rw[HE.out,h0,h1,h2];rfl,B0.out⟩
     | false=>
       have HR:=ab (show iT e=e.ops.any fQ by rw[HE.out,h0,h1,h2];rfl);clear HE
       go_enter Tryz.func10,Tryz.ntmps10
       go_wp2_with fail
       go_loopw [24] (λi wr=>∃k:Nat,i= .int .i64 k/\k<=e.ops.length/\Hid (e.ops.any fQ=(e.ops.drop k).any fQ)/\Below w.heap.size w wr) (λi _=>e.ops.length - (intOf i).toNat)
       case atStart=>exact⟨0,rfl,Nat.zero_le _,ab (by simp),B0.out⟩
       case round=>
        obtain⟨k,rfl,hk,hall,hb⟩:=hrel;have HBr:=ab hb;clear hb;by_cases hlt:k < e.ops.length
        · obtain⟨b,o,rfl,hbl,d0,d1,d2,d3,d4⟩:=HC.out k hlt;have hbw:b < w.heap.size:=Nat.lt_of_lt_of_le hbl hB;have f0:=(HBr.out.cell (p:=⟨b,o+k * 5,none⟩) hbw).trans d0;have f1:=(HBr.out.cell (p:=⟨b,o+k * 5+1,none⟩) hbw).trans d1;have f2:=(HBr.out.cell (p:=⟨b,o+k * 5+2,none⟩) hbw).trans d2;have f3:=(HBr.out.cell (p:=⟨b,o+k * 5+3,none⟩) hbw).trans d3;have f4:=(HBr.out.cell (p:=⟨b,o+k * 5+4,none⟩) hbw).trans d4;have HOA:=ab (show(e.ops.drop k).any fQ=(fQ e.ops[k] || (e.ops.drop (k+1)).any fQ) by rw[List.drop_eq_getElem_cons hlt,List.any_cons]);have hr2:=HBr.out.size;clear d0 d1 d2 d3 d4;generalize e.ops[k]=op at *;have HOP:=ab (show fQ op=(decide ((300:Int) < (op.key.size:Int)) || (decide ((300:Int) < (op.value.size:Int)) || decide ((300:Int) < (op.old.size:Int)))) from rfl);have HB3:=ab (HBr.out.alloc hr2 (.cells #[.int .i64 op.kind,.string op.key,.string op.value,.string op.old,.int .i64 op.version] 91));cases r0:decide ((300:Int) < (op.key.size:Int)) with
          | true=>
            go_wp2_with fail
            go_ret
            exact⟨by rw[HR.out,hall.out,HOA.out,HOP.out,r0];rfl,HB3.out⟩
          | false=>
            cases r1:decide ((300:Int) < (op.value.size:Int)) with
            | true=>
              go_wp2_with fail
              go_ret
              exact⟨by rw[HR.out,hall.out,HOA.out,HOP.out,r0,r1];rfl,HB3.out⟩
            | false=>
              cases r2:decide ((300:Int) < (op.old.size:Int)) with
              | true=>
                go_wp2_with fail
                go_ret
                exact⟨by rw[HR.out,hall.out,HOA.out,HOP.out,r0,r1,r2];rfl,HB3.out⟩
              | false=>
                have HA2:=ab (show e.ops.any fQ=(e.ops.drop (k+1)).any fQ by rw[hall.out,HOA.out,HOP.out,r0,r1,r2];rfl)
                go_wp2_with fail
                go_roundw
                case rel=>
                 first
                 | exact⟨k+1,by go_num,by omega,HA2,HB3.out⟩
                 | ((repeat apply Exists.intro);exact⟨⟨k+1,by go_num,by omega,HA2,HB3.out⟩,rfl⟩)
                case measure=>simp[intOf];omega
        · have HR2:=ab (show iT e=false by rw[HR.out,hall.out,List.drop_eq_nil_of_le (by omega)];rfl);clear HC HR hall
          go_wp2_with fail
          go_ret
          exact⟨by rw[HR2.out];rfl,HBr.out⟩
end Go.Proofs.YtdilnodbfnlhdaaGreatDoor
namespace Go.Proofs.YtdilnodbfnlhdaaGreatDoor
open Go Go.RowKit Go.Shelf Tide
theorem AB {W:World} {base:Nat} {T:TypeId} {v:Value} {n:Nat} {xs:List Value} (h:W.ownsRow base T 1 v n xs) (hn:0 < n):∃g c,v= .slice (some ⟨g,0,none⟩) n c/\base<=g/\g < W.heap.size:=by
 have hl:=h.1;rcases h.2 with⟨_,e⟩|⟨g,cap,cur,e,hg,h2,_⟩
 · rw[e]at hl;simp at hl;omega
 · refine⟨g,cap,e,hg,?_⟩;rcases Nat.lt_or_ge g W.heap.size with hlt|hge
   · exact hlt
   · rw[Array.getElem?_eq_none hge]at h2;cases h2
theorem AZ {gs:List Nat} (h:gs.length=12):fl gs=gH 12 dK (λi=>gs.getD i 0):=by
 show gs.map (λg=>Value.pointer (some ⟨g,0,none⟩))=(List.range 12).map (jv dK (λi=>gs.getD i 0));refine List.ext_getElem (by simp[h]) λi h1 h2=> ?_;have hi:i < gs.length:=by simpa using h1
 simp only[List.getElem_map,List.getElem_range];unfold jv dK;rw[if_pos rfl];show _=Value.pointer (some ⟨gs.getD i 0,0,none⟩);rw[List.getD_eq_getElem?_getD,List.getElem?_eq_getElem hi];rfl
theorem rF:gF ((0:Nat):Int) []:=⟨λb hb=>(by cases hb),decide_eq_true λi h=>absurd h (Nat.not_lt_zero i)⟩
theorem zk {ep:Int} (h0:0<=ep) (h1:ep<=1073741824):eD ep 0 []=0:=by unfold eD;rw[if_neg (by omega),if_neg (by decide)];exact if_pos rF
def uo (D:az) (w W:World) (ep:Int) (cs:List (List Int)) (vp:Value) (e:Ending) (w':World):Prop:=
 ∃X S H u vq m,e= .returned (.pointer (some ⟨X,0,none⟩))/\S.vp=vp/\S.cs=cs/\bl D w w' S H (λ_=>fE) ⟨ep,0,db []⟩ 0/\Below W.heap.size W w'/\W.heap.size<=X/\X < S.lo/\bT w' X S.vu u ep vp vq (.pointer (some ⟨S.t,0,none⟩)) m
theorem pJ {D:az} {a:Nat->Addr} {w W:World} (hD:aC (three a) D) (hE:ar w a) (hb:Below w.heap.size w W) (ep:Int) (cs:List (List Int)) (vg:Value) (B:Nat) (hg:cO W B vg cs) (hB:B<=W.heap.size) (hl2:cs.length<=1000/\∀c ∈ cs,c.length<=1000) (h0:0<=ep) (h1:ep<=1073741824):
 Calls Tryz.prog 9 #[cL ep vg] W (uo D w W ep cs vg):=by
 have HD:=ab hD;have HE:=ab hE;have HB:=ab hb;have HGv:=ab hg;have HBl:=ab hB;have HEp:=ab (And.intro h0 h1);have B0:=ab ((Below.refl W.heap.size W).alloc (Nat.le_refl _) (.cells #[.int .i64 ep,vg] 24));have P0:=ab (aH.new W 24 (.int .i64 ep) vg);have CC:=ab (show Calls Tryz.prog 25 #[.agg #[.int .i64 ep,vg]] (W.alloc (.cells #[.int .i64 ep,vg] 24)).drew _ from AJ ep cs vg B (W.alloc (.cells #[.int .i64 ep,vg] 24)).drew (hg.below ((B0.out.drew).mono hB)) (Nat.le_trans hB B0.out.size) hl2.1 hl2.2);obtain⟨_,A,c,rfl,_⟩:=hg.form;have K1:=ab (show(W.alloc (.cells #[.int .i64 ep,.slice A cs.length c] 24)).cell? ⟨W.heap.size,0,none⟩=some (.int .i64 ep)/\(W.alloc (.cells #[.int .i64 ep,.slice A cs.length c] 24)).cell? ⟨W.heap.size,1,none⟩=some (.slice A cs.length c) from by obtain⟨_,h0,h1,_⟩:=P0.out.facts;exact⟨h0,h1⟩);have HZ:=ab (show W.heap.size < (W.alloc (.cells #[.int .i64 ep,.slice A cs.length c] 24)).heap.size by rw[World.size_alloc];omega);unfold cL at *;clear hD hE hb hg hl2 hB h0 h1
 go_enter Tryz.func9,Tryz.ntmps9
 go_wp2_with fail
 go_region_held3 (λY=>Y.cell? ⟨W.heap.size,0,none⟩=some (.int .i64 ep)/\Y.cell? ⟨W.heap.size,1,none⟩=some (.slice A cs.length c))
  (first|exact K1.out|exact K2.out|exact⟨(World.cell?_alloc_lt w3 _ ⟨W.heap.size,0,none⟩ HZ3.out).trans K2.out.1,(World.cell?_alloc_lt w3 _ ⟨W.heap.size,1,none⟩ HZ3.out).trans K2.out.2⟩)
  (first
    | ((with_reducible refine CC.out.mono ?_);rintro en w3 ⟨v',vs,rfl,hG,hb3⟩;have K2:=ab (And.intro ((hb3.cell (p:=⟨W.heap.size,0,none⟩) HZ.out).trans K1.out.1) ((hb3.cell (p:=⟨W.heap.size,1,none⟩) HZ.out).trans K1.out.2));have HZ3:=ab (show W.heap.size < w3.heap.size from Nat.lt_of_lt_of_le HZ.out hb3.size)))
 have HB3:=ab (show Below W.heap.size W w3 from(B0.out.drew).trans (hb3.mono B0.out.size));have HG3:=ab hG;clear hG hb3 CC K1
 go_wp2_with fail
 obtain⟨W4,hW4⟩:∃W4,W4=w3.alloc (.cells #[.slice none 0 0,.slice none 0 0,.int .i64 ep,.slice A cs.length c,.int .i64 ep,v',.pointer none,.pointer none] 61):=⟨_,rfl⟩;obtain⟨X,hX⟩:∃X,X=w3.heap.size:=⟨_,rfl⟩;have h4:bT W4 X (.slice none 0 0) (.slice none 0 0) ep (.slice A cs.length c) v' (.pointer none) (.pointer none):=by rw[hW4,hX];exact heap_alloc_new w3 _
 have hb4:Below w3.heap.size w3 W4:=by rw[hW4];exact(Below.refl _ _).alloc (Nat.le_refl _) _
 have hb04:Below W.heap.size W W4:=HB3.out.trans (hb4.mono HB3.out.size);rw[<-hW4,<-hX];have HX4:=ab hX;have HB4:=ab hb4;have HB04:=ab hb04;have P4:=ab (show W4.cell? ⟨W.heap.size,0,none⟩=some (.int .i64 ep) from(hb4.cell (p:=⟨W.heap.size,0,none⟩) HZ3.out).trans K2.out.1);have HS0:=ab (ig.start (D:=D) (w:=w) h4 (by rw[hX];exact Nat.le_trans HB.out.size HB3.out.size));clear hW4 h4 hb4 hb04 hX K2
 go_wp2_with fail
 go_loopw [16] (λi wr=>∃ (v u:Value) (gs:List Nat) (lr:List Value) (F:Nat->Nat->Prop),i= .int .i64 (gs.length:Nat)/\gs.length<=12/\Hid (ig D w W4 X ep (.slice A cs.length c) v' wr v u gs lr F)) (λi _=>12 - (intOf i).toNat)
 case atStart=>exact⟨_,_, [], [],_,rfl,Nat.zero_le _,HS0⟩
 case round=>
  obtain⟨v,u,gs,lr,F,rfl,hk,hN⟩:=hrel;obtain⟨k,hkk⟩:=aa gs.length;have HK:=ab hkk;rw[hkk]at hk ⊢;have HLa:=ab (show(fl gs).length<=100000 by rw[oe];omega);have HLr:=ab (show lr.length<=100000 by rw[hN.out.len];omega);clear hkk;by_cases hlt:k < 12
  · have i1:(k:Int) < 12:=by omega
    have HBr:=ab (show Below w.heap.size w wr from by have h1:=HB.out.trans (HB04.out.mono HB.out.size);exact h1.trans ⟨hN.out.kept.os,hN.out.kept.tape,hN.out.kept.output,hN.out.kept.size,λj hj=>hN.out.kept.block j (by have:=h1.size;omega) (λe=>by have:=hN.out.at_.1;omega)⟩);have CN:=ab (show Calls Tryz.prog 26 #[.int .i64 192] wr λe w'=>∃dev,e= .returned (.tuple #[.pointer (some ⟨dev,0,none⟩),.nilIface])/\UO D w (gO wr (λ_=>False)) (iL wr (λ_=>False)) dev (64 * 3) 0 ⟨⟨3, []⟩, [],0,0,0⟩ w' from Eh HD.out HBr.out 3 (by omega) (by omega))
    go_wp2_with fail
    refine CN.out.mono ?_;rintro en w2 ⟨dev,rfl,hd⟩;have CO:=ab (Ei HD.out HE.out HBr.out (by omega) (by omega) hd);clear hd CN
    go_wp2_with fail
    refine CO.out.mono ?_;rintro en w5 ⟨g,F',rfl,h1,hF,b1⟩;have HU:=ab h1;have HF:=ab hF;have HB1:=ab b1;have HP0:=ab (show bJ w5 (λk=>v.ownBlock=some k\/u.ownBlock=some k) W4.heap.size v u (fl gs) lr [] w5.drew from by have hR:∀k,v.ownBlock=some k\/u.ownBlock=some k->W4.heap.size<=k/\k < wr.heap.size:=λk e=>e.elim (hN.out.a.lt k) (hN.out.r.lt k);have hz:=b1.size;have ha:=bp hN.out.a b1;rw[<-oe gs]at ha;exact bJ.drew ⟨Kept.refl _ _,λk e=>by have:=(hR k e).2;omega,Nat.le_trans hN.out.kept.size hz,ha,bp hN.out.r b1,λk e=> .inl e,λx hx=>by cases hx⟩);have HT:=ab (λ(Y:World) (hk:Kept (λk=>v.ownBlock=some k\/u.ownBlock=some k) w5 Y)=>(show Y.cell? ⟨X,0,none⟩=some v/\Y.cell? ⟨X,1,none⟩=some u from by have h5:=(hN.out.box.below b1).kept hk (λe=>by have h6:=e.elim (hN.out.a.lt X) (hN.out.r.lt X);have:=hN.out.at_.2;omega);exact⟨h5.cell rfl,h5.cell rfl⟩))
    have HFr:=ab (λ(Y:World) (hk:Kept (λk=>v.ownBlock=some k\/u.ownBlock=some k) w5 Y) (i:Nat)=>(show Y.frozen? ⟨X,i,none⟩=false from
     ((hN.out.box.below b1).kept hk (λe=>by have h6:=e.elim (hN.out.a.lt X) (hN.out.r.lt X);have:=hN.out.at_.2;omega)).free i))
    obtain⟨Av,nv,cv,hv⟩:∃A n c,v= .slice A n c:=by obtain⟨A,c,e⟩:=kH hN.out.a;exact⟨A,_,c,e⟩
    obtain⟨Au,nu,cu,hu⟩:∃A n c,u= .slice A n c:=by obtain⟨A,c,e⟩:=kH hN.out.r;exact⟨A,_,c,e⟩
    subst hv hu;have HFin:=ab (λ(v' u':Value) (y:Nat) (sm:List (Nat × Value)) (W9:World) hp=>ig.step HD.out hN.out HU.out HF.out HB1.out (v':=v') (u':=u') (y:= .pointer (some ⟨y,0,none⟩)) (sm:=sm) (W9:=W9) hp);clear h1 hF b1 CO
    go_wp2_with fail
    refine wp_region_any (by kernel_rfl) ?_;change wpAny _ _ _ _ 22 #[false,false,false,false,false,false,false,false,false,false,false,false,false,false,false,false,false,false,false,false,false,false] _ (World.drew _);refine gZ 0 35 (v:= ?v1) rfl rfl (by kernel_rfl) (by kernel_rfl) (by kernel_rfl) (λ_ _ _ h=>h) (Or.inl ⟨by rfl,?h1⟩) ?r1
    case h1=>
     intro w
     go_simp
     try with_reducible rfl
    simp only[List.setIfInBounds_toArray,List.set_cons_zero,List.set_cons_succ];refine gZ 1 36 (v:= ?v2) rfl rfl (by kernel_rfl) (by kernel_rfl) (by kernel_rfl) (λ_ _ _ h=>h) (Or.inl ⟨by rfl,?h2⟩) ?r2
    case h2=>
     intro w
     go_simp
     try with_reducible rfl
    simp only[List.setIfInBounds_toArray,List.set_cons_zero,List.set_cons_succ];refine gZ 2 37 (v:= ?v3) rfl rfl (by kernel_rfl) (by kernel_rfl) (by kernel_rfl) (λ_ _ _ h=>h) (Or.inl ⟨by rfl,?h3⟩) ?r3
    case h3=>
     intro w
     go_simp
     try with_reducible rfl
    simp only[List.setIfInBounds_toArray,List.set_cons_zero,List.set_cons_succ];refine gZ 3 38 (v:= ?v4) rfl rfl (by kernel_rfl) (by kernel_rfl) (by kernel_rfl) (λ_ _ _ h=>h) (Or.inl ⟨by rfl,?h4⟩) ?r4
    case h4=>
     intro w
     go_simp
     try with_reducible rfl
    simp only[List.setIfInBounds_toArray,List.set_cons_zero,List.set_cons_succ];refine gZ 4 39 (v:= ?v5) rfl rfl (by kernel_rfl) (by kernel_rfl) (by kernel_rfl) (λ_ _ _ h=>h) (Or.inl ⟨by rfl,?h5⟩) ?r5
    case h5=>
     intro w
     go_simp
     try with_reducible rfl
    simp only[List.setIfInBounds_toArray,List.set_cons_zero,List.set_cons_succ];refine gZ 6 41 (v:= ?v6) rfl rfl (by kernel_rfl) (by kernel_rfl) (by kernel_rfl) (λ_ _ _ h=>h) (Or.inl ⟨by rfl,?h6⟩) ?r6
    case h6=>
     intro w
     go_simp
     try with_reducible rfl
    simp only[List.setIfInBounds_toArray,List.set_cons_zero,List.set_cons_succ];refine gZ 9 44 (v:= ?v7) rfl rfl (by kernel_rfl) (by kernel_rfl) (by kernel_rfl) (λ_ _ _ h=>h) (Or.inl ⟨by rfl,?h7⟩) ?r7
    case h7=>
     intro w
     go_simp
     try with_reducible rfl
    simp only[List.setIfInBounds_toArray,List.set_cons_zero,List.set_cons_succ];refine gZ 10 45 (v:= ?v8) rfl rfl (by kernel_rfl) (by kernel_rfl) (by kernel_rfl) (λ_ _ _ h=>h) (Or.inl ⟨by rfl,?h8⟩) ?r8
    case h8=>
     intro w
     go_simp
     try with_reducible rfl
    simp only[List.setIfInBounds_toArray,List.set_cons_zero,List.set_cons_succ];refine gZ 11 46 (v:= ?v9) rfl rfl (by kernel_rfl) (by kernel_rfl) (by kernel_rfl) (λ_ _ _ h=>h) (Or.inl ⟨by rfl,?h9⟩) ?r9
    case h9=>
     intro w
     go_simp
     try with_reducible rfl
    simp only[List.setIfInBounds_toArray,List.set_cons_zero,List.set_cons_succ];refine pC (T:=λW'=>W'.cell? ⟨X,0,none⟩=some (.slice Av nv cv)/\W'.cell? ⟨X,1,none⟩=some (.slice Au nu cu)) (st:=18) _ _ _ _ ?_;have hT0:=HT.out _ HP0.out.kept;refine tA 5 40 (v:= .slice Av nv cv) rfl rfl (by kernel_rfl) (by kernel_rfl) (by kernel_rfl) (by decide) (by kernel_rfl) (λ_ _ _ h=>h) (Or.inl ⟨by rfl,?h10⟩) hT0 (by kernel_rfl) ?r10
    case h10=>
     intro w hSw;obtain⟨t1,t2⟩:=hSw
     go_simp
     try with_reducible rfl
    simp only[List.setIfInBounds_toArray,List.set_cons_zero,List.set_cons_succ];refine tA 12 47 (v:= .slice Au nu cu) rfl rfl (by kernel_rfl) (by kernel_rfl) (by kernel_rfl) (by decide) (by kernel_rfl) (λ_ _ _ h=>h) (Or.inl ⟨by rfl,?h11⟩) hT0 (by kernel_rfl) ?r11
    case h11=>
     intro w hSw;obtain⟨t1,t2⟩:=hSw
     go_simp
     try with_reducible rfl
    simp only[List.setIfInBounds_toArray,List.set_cons_zero,List.set_cons_succ];have P:=HP0;clear HP0 hT0
    repeat' (first
     | (have t:=w8
        clear t;have t:=w15;clear t;have hT1:=HT.out _ P.out.kept;refine ja (rs:= [16]) (by kernel_rfl) (by simp) ?_;refine dG.cons rfl (λK hK=> ?_) dG.nil
        go_simp
        refine hK.out _ _ (HT.out _ P.out.kept) ?_;clear hK K;refine ja (rs:= [17]) (by kernel_rfl) (by simp) ?_;refine dG.cons rfl (λK hK=> ?_) dG.nil
        go_simp
        refine hK.out _ _ (HT.out _ P.out.kept) ?_;clear hK K;simp only[List.setIfInBounds_toArray,List.set_cons_zero,List.set_cons_succ];have fz0:=HFr.out _ P.out.kept 0;have fz1:=HFr.out _ P.out.kept 1;obtain⟨t1,t2⟩:=hT1;refine storeT (by kernel_rfl) rfl (λK hK=> ?_)
        go_simp
        refine hK.out _ _ ?_;clear hK K;refine wpAny_ready (rs:= [19]) (by kernel_rfl) (by simp) ?_;refine AllReady.cons rfl (λK hK=> ?_) AllReady.nil
        go_simp
        refine hK _ _ ?_;clear hK K;refine wpAny_ready (rs:= [20]) (by kernel_rfl) (by simp) ?_;refine AllReady.cons rfl (λK hK=> ?_) AllReady.nil
        go_simp
        refine hK _ _ ?_;clear hK K;simp only[List.setIfInBounds_toArray,List.set_cons_zero,List.set_cons_succ];refine wpAny_ready (rs:= [21]) (by kernel_rfl) (by simp) ?_;refine AllReady.cons rfl (λK hK=> ?_) AllReady.nil
        go_simp
        refine hK _ _ ?_;clear hK K t1 t2 fz0 fz1;refine wpAny_done (by kernel_rfl) ?_ _;have HB9:=ab (HFin.out _ _ _ _ _ P.out);clear P
        go_wp2_with fail
        go_roundw
        case rel=>exact⟨_,_,_,_,_,by rw[List.length_append,List.length_singleton,HK.out]<;>go_num,by rw[List.length_append,List.length_singleton,HK.out];omega,HB9⟩
        case measure=>simp[intOf];omega)
     | (have hK:=h7;clear h7;refine bJ.DH P.out (by exact rfl) (.tmp 41) (by exact rfl) g (by exact rfl) ?_;intro g7 w7 hp;refine hK.out _ _ (HT.out _ hp.kept) ?_;replace P:=ab hp;clear hp hK K;change eI _ _ _ _ _ _ _ _ ⟨Array.setIfInBounds _ 42 _,_⟩ _;simp only[List.setIfInBounds_toArray,List.set_cons_zero,List.set_cons_succ])
     | (have hK:=h8;clear h8;refine bJ.DF P.out (λk e=> .inl e) HLa.out (by exact rfl) (.tmp 40) (.tmp 42) (by exact rfl) g7 g (by simp) (by exact rfl) (by exact rfl) ?_;intro g8 c8 w8 hp;refine hK.out _ _ (HT.out _ hp.kept) ?_;replace P:=ab hp;clear hp hK K;change eI _ _ _ _ _ _ _ _ ⟨Array.setIfInBounds _ 43 _,_⟩ _;simp only[List.setIfInBounds_toArray,List.set_cons_zero,List.set_cons_succ])
     | (have hK:=h13;clear h13;refine bJ.dN P.out (by exact rfl) 3 (by exact rfl) ?_;intro g13 w13 hp;refine hK.out _ _ (HT.out _ hp.kept) ?_;replace P:=ab hp;clear hp hK K;change eI _ _ _ _ _ _ _ _ ⟨Array.setIfInBounds _ 48 _,_⟩ _;simp only[List.setIfInBounds_toArray,List.set_cons_zero,List.set_cons_succ])
     | (have hK:=h14;clear h14;refine bJ.DG P.out (by exact rfl) (.tmp 48) (by exact rfl) g13 (by exact rfl) ?_;intro g14 w14 hp;refine hK.out _ _ (HT.out _ hp.kept) ?_;replace P:=ab hp;clear hp hK K;change eI _ _ _ _ _ _ _ _ ⟨Array.setIfInBounds _ 49 _,_⟩ _;simp only[List.setIfInBounds_toArray,List.set_cons_zero,List.set_cons_succ])
     | (have hK:=h15;clear h15;refine bJ.DI P.out (λk e=> .inr e) HLr.out (by exact rfl) (.tmp 47) (.tmp 49) (by exact rfl) g14 g13 (by simp) (by exact rfl) (by exact rfl) ?_;intro g15 c15 w15 hp;refine hK.out _ _ (HT.out _ hp.kept) ?_;replace P:=ab hp;clear hp hK K;change eI _ _ _ _ _ _ _ _ ⟨Array.setIfInBounds _ 50 _,_⟩ _;simp only[List.setIfInBounds_toArray,List.set_cons_zero,List.set_cons_succ])
     | (have t:=w14;clear t;refine ja (rs:= [15]) (by kernel_rfl) (by simp) ?_;refine dG.cons rfl (λK h15=> ?_) dG.nil)
     | (have t:=w13;clear t;refine ja (rs:= [14]) (by kernel_rfl) (by simp) ?_;refine dG.cons rfl (λK h14=> ?_) dG.nil)
     | (have t:=w8;clear t;refine ja (rs:= [13]) (by kernel_rfl) (by simp) ?_;refine dG.cons rfl (λK h13=> ?_) dG.nil)
     | (have t:=w7;clear t;refine ja (rs:= [8]) (by kernel_rfl) (by simp) ?_;refine dG.cons rfl (λK h8=> ?_) dG.nil)
     | (refine ja (rs:= [7]) (by kernel_rfl) (by simp) ?_;refine dG.cons rfl (λK h7=> ?_) dG.nil))
  · have hke:k=12:=by omega
    subst hke;have hw4:w.heap.size<=W4.heap.size:=by have:=hN.out.at_;omega
    have HBr:=ab (show Below w.heap.size w wr from by have h1:=HB.out.trans (HB04.out.mono HB.out.size);exact h1.trans ⟨hN.out.kept.os,hN.out.kept.tape,hN.out.kept.output,hN.out.kept.size,λj hj=>hN.out.kept.block j (by have:=h1.size;omega) (λe=>by have:=hN.out.at_.1;omega)⟩);have hXW:W.heap.size < X:=by rw[HX4.out];exact HZ3.out
    have p0:=(hN.out.kept.cell (p:=⟨W.heap.size,0,none⟩) (by have h1:=hN.out.at_.2;show W.heap.size < W4.heap.size;omega) (by show ¬W.heap.size=X;omega)).trans P4.out;have ha:=hN.out.a;rw[HK.out]at ha;obtain⟨bu,cu,hv,hbu,hbu2⟩:=AB ha (by decide);have hrow:fl gs=gH 12 dK (λi=>gs.getD i 0):=AZ HK.out;have CT:=ab (zm ep 0 [] (.slice none 0 0) 0 wr (E5.iV (HE.out.below HBr.out)) (dX.nil _ _) (Nat.zero_le _) (by decide) HEp.out.1 HEp.out.2 (by decide));have CR:=ab (λW6=>zo ep 0 [] (.slice none 0 0) 0 W6 (dX.nil _ _) (Nat.zero_le _) (by decide));have HOk:=ab rF;have HKn:=ab (zk HEp.out.1 HEp.out.2);have HHv:=ab hv;have HHa:=ab ha;have HBu:=ab (And.intro hbu hbu2);have HRow:=ab hrow;have HXW:=ab hXW;have HW4:=ab hw4;clear hw4 hXW ha hv hbu hbu2 hrow
    go_wp2_with fail
    refine CT.out.mono ?_;rintro en w6 ⟨hb6,hc6⟩;obtain⟨t,ht,rfl,hT⟩:∃t,wr.heap.size<=t/\en= .returned (.tuple #[.pointer (some ⟨t,0,none⟩),.nilIface])/\cE w6 t ⟨ep,0,db []⟩:=by
     rcases hc6 with⟨_,g,h1,h2,h3⟩|⟨h,_⟩
     · exact⟨g,h1,h2,h3⟩
     · exact absurd HOk.out h
    have p6:=(hb6.cell (p:=⟨W.heap.size,0,none⟩) (by have:=HXW.out;have h2:=hN.out.at_.2;have h3:=hN.out.kept.size;show W.heap.size < wr.heap.size;omega)).trans p0;have HB6:=ab hb6;have HT6:=ab hT;have HTl:=ab ht;have CR6:=ab (CR.out w6);clear hb6 hc6 ht hT CT CR p0
    go_wp2_with fail
    refine CR6.out.mono ?_;rintro en w7 ⟨hb7,hc7⟩;obtain rfl:en= .returned (.tuple #[.pointer (some ⟨w6.heap.size,0,none⟩),.int .i64 0]):=by
     rcases hc7 with⟨_,h,_⟩|⟨h,_⟩
     · exact h
     · exact absurd HKn.out h
    have HB7:=ab (show Below wr.heap.size wr w7 from HB6.out.trans (hb7.mono HB6.out.size));have hbox:=hN.out.box.below HB7.out;have c6:=hbox.cell (j:=6) rfl;have c7:=hbox.cell (j:=7) rfl;have f6:=hbox.free 6;have f7:=hbox.free 7;have HBox:=ab hbox;have HT7:=ab (HT6.out.below hb7);have HTl7:=ab (show t < w6.heap.size from HT6.out.lt);clear hb7 hc7 hbox CR6 p6
    go_wp2_with fail
    go_ret
    obtain⟨W8,hW8⟩:=aa ((w7.setCell ⟨X,6,none⟩ (.pointer (some ⟨t,0,none⟩))).setCell ⟨X,7,none⟩ (.pointer (some ⟨w6.heap.size,0,none⟩)));rw[hW8];have hK8:Kept (λk=>k=X) w7 W8:=by rw[<-hW8];exact((Kept.refl (λk=>k=X) w7).setCell (p:=⟨X,6,none⟩) (.inl rfl) _).setCell (p:=⟨X,7,none⟩) (.inl rfl) _
    have hBox:bT W8 X v u ep (.slice A cs.length c) v' (.pointer (some ⟨t,0,none⟩)) (.pointer (some ⟨w6.heap.size,0,none⟩)):=by rw[<-hW8];exact(HBox.out.Cv _).Cw _
    have hXl:=hN.out.at_;have hXW:=HXW.out;have z4:=hN.out.kept.size;have z7:=HB7.out.size;have z8:=hK8.size;have htl:=HTl.out;have hbu:=HBu.out;have hlen:=HK.out;have hk48:Kept (λk=>k=X) W4 W8:=(hN.out.kept.trans (Kept.al HB7.out (F:=λk=>k=X)) (λ_ h=> .inl h)).trans hK8 (λ_ h=> .inl h);have hbW:Below W.heap.size W W8:=HB04.out.trans ⟨hk48.os,hk48.tape,hk48.output,hk48.size,λj hj=>hk48.block j (by have:=HB04.out.size;omega) (by omega)⟩;have hv:=HHv.out;have hrow:=HRow.out;refine⟨X,⟨W4.heap.size,bu,cu,t,λi=>gs.getD i 0,.slice A cs.length c,cs⟩,F,u,v',.pointer (some ⟨w6.heap.size,0,none⟩),rfl,rfl,rfl,{ bP:=⟨λi hi=> ?_,λi j hi hj hn=>hN.out.apart i j (by omega) (by omega) hn,HB.out.trans (hbW.mono HB.out.size)⟩,ru:= ?_,tok:=(HT7.out).kept hK8 (λe=>by have e:t=X:=e;omega),di:=((HGv.out.below (hbW.mono HBl.out)).more (Nat.le_trans HBl.out HB04.out.size)),low:=⟨by show w.heap.size<=W4.heap.size;omega,by show W4.heap.size<=W8.heap.size;omega⟩,ne:=by show bu≠t;omega,fv:=by show W4.heap.size<=t;omega,free:=λk e=> ?_,dz:=λk ⟨i,hi,e⟩=>hN.out.lo i (by omega) k e },hbW,by omega,hXl.2,?_⟩
    · have h5:=((hN.out.un i (by omega)).below HD.out HB7.out).kept HD.out hK8 (λk e=>⟨λhf=>by have:=hN.out.lo i (by omega) k hf;omega,by omega⟩);show cZ D w W8 (F i) (gs.getD i 0) _ _ _;rw[List.getD_eq_getElem?_getD,List.getElem?_eq_getElem (show i < gs.length by omega)];exact h5
    · have h5:=hK8.own (bp HHa.out HB7.out) (λk e e2=>by have:=(HHa.out.lt k e).1;have e2:k=X:=e2;omega);rw[hv,hrow]at h5;exact h5
    · have e:k=bu\/k=t:=e;rcases e with rfl|rfl
      · exact⟨λ⟨i,hi,e2⟩=>hN.out.free k (.inl (by rw[hv];rfl)) i (by omega) e2,by omega⟩
      · exact⟨λ⟨i,hi,e2⟩=>by have:=((hN.out.un i (by omega)).2 k e2).2;omega,by have:=HT7.out.lt;omega⟩
    · show bT W8 X (.slice (some ⟨bu,0,none⟩) _ cu) u ep _ v' _ _;rw[<-hv];exact hBox
end Go.Proofs.YtdilnodbfnlhdaaGreatDoor
namespace Go.Proofs.YtdilnodbfnlhdaaGreatDoor
open Go Go.RowKit Go.Shelf Tide
theorem EA {W:World} {b:Nat} {e:aD} {vo vd x vp:Value} {st asks ep q cp:Int} (h:bh W b e vo vd st x asks ep q vp cp):
 Calls Tryz.prog 13 #[.pointer (some ⟨b,0,none⟩)] W λen w'=>en= .returned (.int .i64 q)/\w'=W:=by
 have d4:=h.rest.2.2.2.2.1;clear h
 go_enter Tryz.func13,Tryz.ntmps13
 go_wp2_with fail
 go_ret
 exact⟨rfl,rfl⟩
def eB:aD:=⟨4,1,2,0,0,0, [],⟨#[]⟩,0,0,0, []⟩
theorem qn:eh eB:=⟨λo ho=>(by cases ho),by decide,by decide,by decide⟩
theorem lx (K:ByteArray->Nat):(bO K eB).2=0:=by
 have hr:aS K eB=true:=by rw[kM (e:=eB) rfl];decide
 have hl:(aG eB).length<=1848:=by rw[ng (e:=eB) rfl];have l1:=bH (n:=4) (by decide);have l2:=bH (n:=eB.au.toNat) (by decide);have l3:=bH (n:=eB.other.toNat) (by decide);simp only[List.length_append];omega
 unfold bO;rw[if_pos hr,if_neg (by omega)]
theorem pQ:bU [[0]] ((0:Nat):Int)= [0]:=by decide
theorem B6:aP 0 [[0]]=true:=by decide
theorem DK {pg:List UInt8} (h1:1<=pg.length) (h2:pg.length<=2048):(dN dK 0 [[0]] ((0:Nat):Int) ((0:Nat):Int) pg (λ_=>fE)).2=0:=by
 unfold dN;rw[if_neg (by decide),pQ,if_neg (by decide)];show(eZ dK 0 0 pg (λ_=>fE) 0 true).2=0;unfold eZ;rw[if_neg (by decide),if_pos (.inr rfl)];show(cw fE 0 0 pg).2=0;have hlen:1<=(aV ⟨1,(0:Int).toNat,0,pg⟩).length/\(aV ⟨1,(0:Int).toNat,0,pg⟩).length<=3968:=by have l1:=kB 1;have l2:=bH (n:=1) (by decide);have l3:=bH (n:=(0:Int).toNat) (by decide);have l4:=bH (n:=pg.length) (by omega);unfold aV;rw[if_pos rfl];simp only[List.length_append];omega
 have hp:(bY fE ⟨1,(0:Int).toNat,0,pg⟩).2.2=0:=by unfold bY cJ;rw[if_neg (by omega)];have hf:fB fE.store.ag (aV ⟨1,(0:Int).toNat,0,pg⟩).length=false:=rfl;rw[hf,if_neg (by decide)];have ht:Tide.takeD fE.store=some ⟨3, [⟨0,0,0, []⟩]⟩:=rfl;rw[ht]
 unfold cw;rw[if_neg (by decide),if_neg (by omega),if_neg (by decide),if_neg (by decide),if_neg (by rw[hp];decide)]
theorem xJ (W:World):cO ((W.alloc (.cells #[.int .i64 0] 3)).alloc (.cells #[.slice (some ⟨W.heap.size,0,none⟩) 1 1] 71)) (W.heap.size+2) (.slice (some ⟨W.heap.size+1,0,none⟩) 1 1) [[0]]:=by
 have h1:=Row.new (W.alloc (.cells #[.int .i64 0] 3)) 71 #[.slice (some ⟨W.heap.size,0,none⟩) 1 1] (0,0) (W.heap.size+1) 1 (by simp) rfl (by decide);have h0:=Row.new W 3 #[.int .i64 0] (0,0) W.heap.size 1 rfl rfl (by decide);rw[World.size_alloc]at h1;refine⟨_,h1,rfl,λi u c hu hc=> ?_⟩;have hi:i=0:=by have:=(List.getElem?_eq_some_iff.1 hu).1;simpa using this
 subst hi;simp at hu hc;subst hu hc;exact(Row.an h0 (λb o hb=>World.cell?_alloc_lt _ _ ⟨b,o,none⟩ (by show b < (W.alloc _).heap.size;rw[World.size_alloc];exact hb))).more (by omega)
theorem nn:gK 0 (db []):=λl hl=>by
 have:l= []:=by have h:l ∈ List.replicate 13 ([]:List Int):=hl;exact List.eq_of_mem_replicate h
 rw[this];rfl
theorem rG (cs:List (List Int)):gn cs 0 (λ_=>fE):=xE cs (λ_=>⟨rfl,rfl,rfl⟩)
section
variable {D:az} {a:Nat->Addr} {w W:World} {T:World->Prop} {K:ByteArray->Nat}
theorem uL (hD:aC (three a) D) (hL:dI a T K w) (hb:Below w.heap.size w W):
 Calls Tryz.prog 6 #[] W λe w'=>e= .returned (.bool true)/\Below W.heap.size W w':=by
 have B0:=ab (show Below W.heap.size W ((W.alloc (.cells #[.int .i64 0] 3)).alloc (.cells #[.slice (some ⟨W.heap.size,0,none⟩) 1 1] 71)) from((Below.refl W.heap.size W).alloc (Nat.le_refl _) _).alloc (by simp) _)
 have CB:=ab (show Calls Tryz.prog 9 #[.agg #[.int .i64 0,.slice (some ⟨W.heap.size+1,0,none⟩) 1 1]] ((W.alloc (.cells #[.int .i64 0] 3)).alloc (.cells #[.slice (some ⟨W.heap.size,0,none⟩) 1 1] 71)) _ from
  pJ hD hL.bq (hb.trans (B0.out.mono hb.size)) 0 [[0]] (.slice (some ⟨W.heap.size+1,0,none⟩) 1 1) (W.heap.size+2) (xJ W) (by simp) ⟨by decide,λc hc=>by simp at hc;subst hc;decide⟩ (by decide) (by decide))
 have HD:=ab hD;have HL:=ab hL;have HB:=ab hb;clear hD hL hb
 go_enter Tryz.func6,Tryz.ntmps6
 go_wp2_with fail
 refine CB.out.mono ?_;rintro en w1 ⟨X,S,H,u,vq,m,rfl,hvp,hcs,hs1,hb1,hX,hXl,hbox⟩;have HB1:=ab (B0.out.trans (hb1.mono B0.out.size));have HX:=ab (Nat.le_trans B0.out.size hX);have HXl:=ab hXl;have HS1:=ab hs1;have HVp:=ab hvp;have HCs:=ab hcs;have HBox:=ab hbox
 have CN:=ab (show Calls Tryz.prog 22 #[.agg #[.int .i64 4,.int .i64 1,.int .i64 2,.int .i64 0,.int .i64 0,.int .i64 0,.slice none 0 0,.string ⟨#[]⟩,.int .i64 0,.int .i64 0,.int .i64 0,.slice none 0 0]] w1 _ from
  ua a T K eB (.slice none 0 0) (.slice none 0 0) 0 w1 ⟨⟨by decide,none,0,rfl,λh=>absurd rfl h⟩,⟨by decide,none,0,rfl,by decide,by decide,λh=>absurd rfl h⟩⟩ (Nat.zero_le _) qn (HL.out.below hs1.bP.since))
 clear hvp hcs hs1 hb1 hX hXl hbox CB
 go_wp2_with fail
 refine CN.out.mono ?_;rintro en w2 ⟨hb2,hcase⟩;rcases hcase with⟨hk,Y,vo,vd,rfl,hY,hwb,hl,hap⟩|⟨hk,_⟩
 rotate_left
 · exact absurd (lx K) hk
 have HS2:=ab (HS1.out.below HD.out hb2);have HW2:=ab (rH (w1:=w2) HS1.out.fresh hY (Nat.le_refl _) hwb hl hap);have HBox2:=ab (HBox.out.below hb2);have HBt:=ab (HB1.out.trans (hb2.mono HB1.out.size));have HYX:=ab (show Y≠X from by have:=HBox.out.lt;omega);clear hb2 hk hY hwb hl hap CN;have K1:=ab (show w2.cell? ⟨X,0,none⟩=some S.vu/\w2.cell? ⟨X,2,none⟩=some (.int .i64 0)/\w2.cell? ⟨X,3,none⟩=some (.slice (some ⟨W.heap.size+1,0,none⟩) 1 1)/\w2.cell? ⟨X,6,none⟩=some (.pointer (some ⟨S.t,0,none⟩)) from⟨HBox2.out.cell rfl,HBox2.out.cell rfl,HBox2.out.cell rfl,HBox2.out.cell rfl⟩);have CS1:=ab (show Calls Tryz.prog 23 #[.pointer (some ⟨Y,0,none⟩),S.vu,.agg #[.int .i64 0,.slice (some ⟨W.heap.size+1,0,none⟩) 1 1],.pointer (some ⟨S.t,0,none⟩)] w2.drew (mT D w w2.drew S H (λ_=>fE) ⟨0,0,db []⟩ 0 Y K eB vo vd .nilIface 0 0) from by have h:=tl HD.out HL.out (HS2.out.below HD.out (Below.refl _ _).drew) (HW2.out.below (Below.refl _ _).drew) (by decide) (by decide) qn (lx K) (by decide) nn;rw[HVp.out]at h;exact h)
 have CS2:=ab (λ(w3:World) (vp:Value) (hs3:bl D w w3 S H (λ_=>fE) (fY ⟨0,0,db []⟩ (bI eB)) 0) (hw3:cz w3 S H Y eB vo vd 2 .nilIface (0+1) 0 ((0:Nat):Int) vp ((0:Nat):Int) (eN K eB (gx ⟨0,0,db []⟩ eB)).1)=>
  show Calls Tryz.prog 23 #[.pointer (some ⟨Y,0,none⟩),S.vu,.agg #[.int .i64 0,.slice (some ⟨W.heap.size+1,0,none⟩) 1 1],.pointer (some ⟨S.t,0,none⟩)] w3 (λen w4=>en= .returned (.int .i64 3)/\Kept (λk=>aJ 12 H k\/k=Y) w3 w4/\bh w4 Y eB vo vd 3 .nilIface (0+1) 0 ((0:Nat):Int) vp ((0+1:Nat):Int)) from by
  have hr:aP 0 S.cs=true:=by rw[HCs.out];exact B6
  have hch:bU S.cs ((0:Nat):Int)= [0]:=by rw[HCs.out];exact pQ
  have hok:=n8 (lx K) (mB (nx:=0) (all:=db []) (by decide) (mA (kj (lx K)).1) nn).1;have h:=tt (nx:=0) (j:=0) HD.out HL.out.bq hs3 (by decide) hw3 hr (by decide) hok.2 (by rw[hch];decide) ((rG S.cs).rD (fm hr).2.2.1);rw[HVp.out]at h;refine h.mono ?_;rintro en w4 ⟨H',us',_,_,hk,hcase⟩;rcases hcase with⟨y,_,_,h13,_⟩|⟨he,_,hw4⟩
  · have h14:=DK (pg:=(eN K eB (gx ⟨0,0,db []⟩ eB)).1) hok.2.1 hok.2.2;rw[HCs.out]at h13;have h15:=h13.symm.trans h14;cases h15
  · rw[hch,if_pos (show 0+1=([0]:List Int).length from rfl)]at he hw4;exact⟨he,hk,hw4.box⟩)
 have HXt:=ab (show X≠S.t/\¬aJ 12 H X from⟨by have:=HS1.out.fv;have:=HXl.out;omega,λh=>by have:=HS1.out.dz X h;have:=HXl.out;omega⟩);have HXz:=ab HBox2.out.lt
 go_wp2_with fail
 go_region_held3 (λY'=>Y'.cell? ⟨X,0,none⟩=some S.vu/\Y'.cell? ⟨X,2,none⟩=some (.int .i64 0)/\Y'.cell? ⟨X,3,none⟩=some (.slice (some ⟨W.heap.size+1,0,none⟩) 1 1)/\Y'.cell? ⟨X,6,none⟩=some (.pointer (some ⟨S.t,0,none⟩)))
  (first|exact K1.out|exact K2.out|exact K3.out)
  (first
    | ((with_reducible refine CS1.out.mono ?_);rintro en w3 ⟨rfl,hk3,hs3,vp3,hw3⟩;have HK3:=ab hk3;have CS2':=ab (CS2.out w3 vp3 hs3 hw3);have HXz3:=ab (Nat.lt_of_lt_of_le HXz.out hk3.size);have K2:=ab (And.intro ((hk3.cell (p:=⟨X,0,none⟩) HXz.out (λe=>e.elim (λe=>HYX.out e.symm) HXt.out.1)).trans K1.out.1) (And.intro ((hk3.cell (p:=⟨X,2,none⟩) HXz.out (λe=>e.elim (λe=>HYX.out e.symm) HXt.out.1)).trans K1.out.2.1) (And.intro ((hk3.cell (p:=⟨X,3,none⟩) HXz.out (λe=>e.elim (λe=>HYX.out e.symm) HXt.out.1)).trans K1.out.2.2.1) ((hk3.cell (p:=⟨X,6,none⟩) HXz.out (λe=>e.elim (λe=>HYX.out e.symm) HXt.out.1)).trans K1.out.2.2.2))));clear hk3 hs3 hw3 CS1)
    | ((with_reducible refine CS2'.out.mono ?_);rintro en w4 ⟨rfl,hk4,hw4⟩;have HK4:=ab hk4;have CA:=ab (EA hw4);have K3:=ab (And.intro ((hk4.cell (p:=⟨X,0,none⟩) HXz3.out (λe=>e.elim HXt.out.2 (λe=>HYX.out e.symm))).trans K2.out.1) (And.intro ((hk4.cell (p:=⟨X,2,none⟩) HXz3.out (λe=>e.elim HXt.out.2 (λe=>HYX.out e.symm))).trans K2.out.2.1) (And.intro ((hk4.cell (p:=⟨X,3,none⟩) HXz3.out (λe=>e.elim HXt.out.2 (λe=>HYX.out e.symm))).trans K2.out.2.2.1) ((hk4.cell (p:=⟨X,6,none⟩) HXz3.out (λe=>e.elim HXt.out.2 (λe=>HYX.out e.symm))).trans K2.out.2.2.2))));clear hk4 hw4 CS2')
    | ((with_reducible refine CA.out.mono ?_);rintro en w5 ⟨rfl,rfl⟩))
 have hbF:Below W.heap.size W w5:=by have hX:=HX.out;have hXl:=HXl.out;have h1:=HK3.out;have h2:=HK4.out;have hYl:W.heap.size<=Y:=Nat.le_trans hX (Nat.le_of_lt (Nat.lt_of_lt_of_le hXl HW2.out.self.1));have ht:=HS1.out.fv;have hz:=HBt.out.size;exact HBt.out.trans ⟨h2.os.trans h1.os,h2.tape.trans h1.tape,h2.output.trans h1.output,Nat.le_trans h1.size h2.size,λk hk=>(h2.block k (Nat.lt_of_lt_of_le (show k < w2.heap.size by omega) h1.size) (λe=>e.elim (λe=>by have:=HS1.out.dz k e;omega) (λe=>by omega))).trans (h1.block k (show k < w2.heap.size by omega) (λe=>e.elim (λe=>by omega) (λe=>by omega)))⟩
 go_wp2_with fail
 go_ret
 exact⟨rfl,hbF⟩
end
end Go.Proofs.YtdilnodbfnlhdaaGreatDoor
namespace Go.Proofs.YtdilnodbfnlhdaaGreatDoor
open Go Go.RowKit Go.Shelf Tide
structure kV where
 kind:Int
 j8:Int
 n:Int
 e:aD
def pz (x:kV) (vo vd:Value):Array Value:= #[.int .i64 x.kind,.int .i64 x.j8,.int .i64 x.n,.int .i64 x.e.kind,.int .i64 x.e.au,.int .i64 x.e.other,.int .i64 x.e.server,.int .i64 x.e.bF,.int .i64 x.e.seq,vo,.string x.e.key,.int .i64 x.e.upto,.int .i64 x.e.part,.int .i64 x.e.parts,vd]
def o8 (w:World) (B:Nat) (v:Value) (ks:List kV):Prop:=
 ks.length<=9223372036854775807/\∃A c,v= .slice A ks.length c/\∀k (h:k < ks.length),∃b o vo vd,A=some ⟨b,o,none⟩/\b < B/\(∀ (j:Nat) (u:Value),(pz ks[k] vo vd)[j]? =some u->w.cell? ⟨b,o+k * 15+j,none⟩=some u)/\dY w B ks[k].e vo vd
section
variable {D:az} {a:Nat->Addr} {W:World} {T:World->Prop} {K:ByteArray->Nat}
structure po (D:az) (W w1:World) (S:ei) (wr:World) (H:Nat->Nat->Prop) (us:Nat->av) (s:bZ) (ep:Int) (k:Nat):Prop where
 sys:bl D W wr S H us s (9 * k)
 fresh:gn S.cs s.nx us
 nj:gK s.nx s.all
 ep:s.ep=ep
 nx:s.nx<=k
 kept:Kept (λj=>S.lo<=j) w1 wr
theorem EX (hD:aC (three a) D) (hL:dI a T K W) (ep:Int) (cs:List (List Int)) (ks:List kV) (vp vl:Value) (hg:cO W W.heap.size vp cs) (hl:o8 W W.heap.size vl ks):
 Calls Tryz.prog 5 #[cL ep vp,vl] W λen w'=>en= .returned (.bool true)/\Below W.heap.size W w':=by
 obtain⟨hgl,A,c,rfl,hgc⟩:=hg.form;obtain⟨hll,Al,cl,rfl,hact⟩:=hl;have B0:=ab (show Below W.heap.size W (W.alloc (.cells #[.int .i64 ep,.slice A cs.length c] 24)) from(Below.refl W.heap.size W).alloc (Nat.le_refl _) _);have P0:=ab (aH.new W 24 (.int .i64 ep) (.slice A cs.length c));have CA:=ab (uL hD hL B0.out);have CLo:=ab (λ(W1:World) (h:Below W.heap.size W W1)=>yX ep cs (.slice A cs.length c) W.heap.size W1 (hg.below h) h.size);have CRi:=ab (λ(W1:World) (h:Below W.heap.size W W1)=>sC ep cs (.slice A cs.length c) W.heap.size W1 (hg.below h) h.size);have CB:=ab (λ(hr:aP ep cs=true) (W1:World) (h:Below W.heap.size W W1)=>pJ hD hL.bq h ep cs (.slice A cs.length c) W.heap.size (hg.below h) h.size ⟨by have:=(fm hr).2.2.2.1;omega,λc hc=>by have:=((fm hr).2.2.2.2.1 c hc).2;omega⟩ (fm hr).1 (fm hr).2.1);have HD:=ab hD;have HL:=ab hL;have HAct:=ab hact;clear hD hL hg hgc hact;unfold cL at *
 go_enter Tryz.func5,Tryz.ntmps5
 go_wp2_with fail
 refine CA.out.mono ?_;rintro en w1 ⟨rfl,hb⟩;have HB1:=ab (B0.out.trans (hb.mono B0.out.size));have P1:=ab (P0.out.below hb P0.out.lt);obtain⟨_,p0,p1,_⟩:=P1.out.facts;have CL1:=ab (CLo.out w1 HB1.out);clear hb CA CLo
 go_wp2_with fail
 refine CL1.out.mono ?_;rintro en w2 ⟨rfl,hb⟩;have HB2:=ab (HB1.out.trans (hb.mono HB1.out.size));have P2:=ab (P1.out.below hb P1.out.lt);obtain⟨_,p0,p1,_⟩:=P2.out.facts;have CR2:=ab (CRi.out w2 HB2.out);clear hb CL1 CRi;cases hlp:iy cs with
 | true=>
   go_wp2_with fail
   go_ret
   exact⟨rfl,HB2.out⟩
 | false=>
   by_cases h40:(ks.length:Int) > 40
   · go_wp2_with fail
     go_ret
     exact⟨rfl,HB2.out⟩
   · have H40:=ab (show ks.length<=40 by omega)
     go_wp2_with fail
     refine CR2.out.mono ?_;rintro en w3 ⟨rfl,hb⟩;have HB3:=ab (HB2.out.trans (hb.mono HB2.out.size));have P3:=ab (P2.out.below hb P2.out.lt);clear hb CR2 p0 p1;cases hr:aP ep cs with
     | false=>
       go_wp2_with fail
       go_ret
       exact⟨rfl,HB3.out⟩
     | true=>
       obtain⟨_,p0,p1,_⟩:=P3.out.facts;have CB3:=ab (CB.out hr w3 HB3.out);have HR:=ab hr;clear hr CB
       go_wp2_with fail
       refine CB3.out.mono ?_;rintro en w4 ⟨X,S,H,u,vq,m,rfl,hvp,hcs,hs1,hb1,hX,hXl,hbox⟩;have HBx:=ab hbox;have HS4:=ab hs1;have HVp:=ab hvp;have HCs:=ab hcs;have HX:=ab (And.intro hX hXl);have P4:=ab (P3.out.below hb1 P3.out.lt);have HP3:=ab P3.out.lt;have HStart:=ab (show po D W w4 S w4 H (λ_=>fE) ⟨ep,0,db []⟩ ep 0 from⟨hs1,rG S.cs,nn,rfl,Nat.le_refl _,Kept.refl _ _⟩);clear hvp hcs hs1 hb1 hX hXl hbox CB3 p0 p1
       go_wp2_with fail
       go_loopw [33,6] (λi n wr=>∃ (k:Nat) (H':Nat->Nat->Prop) (us':Nat->av) (s:bZ),i= .int .i64 k/\n= .int .i64 (s.nx:Int)/\k<=ks.length/\Hid (po D W w4 S wr H' us' s ep k)) (λi _ _=>ks.length - (intOf i).toNat)
       case atStart=>exact⟨0,H,_,⟨ep,0,db []⟩,rfl,rfl,Nat.zero_le _,HStart⟩
       case round=>
        obtain⟨k,H',us',s,rfl,rfl,hk,hR⟩:=hrel;have hK:=hR.out.kept;have hsince:=hR.out.sys.bP.since;have hXr:X < w4.heap.size:=HBx.out.lt;have hbx:=HBx.out.kept hK (λh=>by have:=HX.out.2;have h:S.lo<=X:=h;omega);have hPr:W.heap.size < X:=Nat.lt_of_lt_of_le HP3.out HX.out.1;obtain⟨_,q0,q1,_⟩:=P4.out.facts;have p0:=(hK.cell (p:=⟨W.heap.size,0,none⟩) (by show W.heap.size < w4.heap.size;omega) (by show ¬S.lo<=W.heap.size;have:=HX.out.2;omega)).trans q0;have p1:=(hK.cell (p:=⟨W.heap.size,1,none⟩) (by show W.heap.size < w4.heap.size;omega) (by show ¬S.lo<=W.heap.size;have:=HX.out.2;omega)).trans q1;have HBr:=ab hbx;have HPP:=ab (And.intro p0 p1);have HSi:=ab hsince;have HXr:=ab (And.intro hPr (Nat.lt_of_lt_of_le hXr hK.size));clear q0 q1 hbx;by_cases hlt:k < ks.length
        · obtain⟨b,o,vo,vd,rfl,hbl,hcell,hlist⟩:=HAct.out k hlt;obtain⟨x,hx⟩:=aa (ks[k]);rw[hx]at hcell hlist;clear hx;obtain⟨Ao,co,rfl,_,_⟩:=eV hlist.1;obtain⟨Ad,cd,rfl,_,_,_⟩:=hlist.2.form;have f0:wr.cell? ⟨b,o+k * 15,none⟩=some (.int .i64 x.kind):=(hsince.cell (p:=⟨b,o+k * 15,none⟩) hbl).trans (hcell 0 _ rfl);have f1:wr.cell? ⟨b,o+k * 15+1,none⟩=some (.int .i64 x.j8):=(hsince.cell (p:=⟨b,o+k * 15+1,none⟩) hbl).trans (hcell 1 _ rfl);have f2:wr.cell? ⟨b,o+k * 15+2,none⟩=some (.int .i64 x.n):=(hsince.cell (p:=⟨b,o+k * 15+2,none⟩) hbl).trans (hcell 2 _ rfl);have f3:wr.cell? ⟨b,o+k * 15+3,none⟩=some (.int .i64 x.e.kind):=(hsince.cell (p:=⟨b,o+k * 15+3,none⟩) hbl).trans (hcell 3 _ rfl);have f4:wr.cell? ⟨b,o+k * 15+4,none⟩=some (.int .i64 x.e.au):=(hsince.cell (p:=⟨b,o+k * 15+4,none⟩) hbl).trans (hcell 4 _ rfl);have f5:wr.cell? ⟨b,o+k * 15+5,none⟩=some (.int .i64 x.e.other):=(hsince.cell (p:=⟨b,o+k * 15+5,none⟩) hbl).trans (hcell 5 _ rfl);have f6:wr.cell? ⟨b,o+k * 15+6,none⟩=some (.int .i64 x.e.server):=(hsince.cell (p:=⟨b,o+k * 15+6,none⟩) hbl).trans (hcell 6 _ rfl);have f7:wr.cell? ⟨b,o+k * 15+7,none⟩=some (.int .i64 x.e.bF):=(hsince.cell (p:=⟨b,o+k * 15+7,none⟩) hbl).trans (hcell 7 _ rfl);have f8:wr.cell? ⟨b,o+k * 15+8,none⟩=some (.int .i64 x.e.seq):=(hsince.cell (p:=⟨b,o+k * 15+8,none⟩) hbl).trans (hcell 8 _ rfl);have f9:wr.cell? ⟨b,o+k * 15+9,none⟩=some (.slice Ao x.e.ops.length co):=(hsince.cell (p:=⟨b,o+k * 15+9,none⟩) hbl).trans (hcell 9 _ rfl);have f10:wr.cell? ⟨b,o+k * 15+10,none⟩=some (.string x.e.key):=(hsince.cell (p:=⟨b,o+k * 15+10,none⟩) hbl).trans (hcell 10 _ rfl);have f11:wr.cell? ⟨b,o+k * 15+11,none⟩=some (.int .i64 x.e.upto):=(hsince.cell (p:=⟨b,o+k * 15+11,none⟩) hbl).trans (hcell 11 _ rfl);have f12:wr.cell? ⟨b,o+k * 15+12,none⟩=some (.int .i64 x.e.part):=(hsince.cell (p:=⟨b,o+k * 15+12,none⟩) hbl).trans (hcell 12 _ rfl);have f13:wr.cell? ⟨b,o+k * 15+13,none⟩=some (.int .i64 x.e.parts):=(hsince.cell (p:=⟨b,o+k * 15+13,none⟩) hbl).trans (hcell 13 _ rfl);have f14:wr.cell? ⟨b,o+k * 15+14,none⟩=some (.slice Ad x.e.data.length cd):=(hsince.cell (p:=⟨b,o+k * 15+14,none⟩) hbl).trans (hcell 14 _ rfl);have i1:(k:Int) < (ks.length:Int):=by omega
          have HLi:=ab hlist;have HLt:=ab hlt;have hb5:Below wr.heap.size wr (wr.alloc (.cells #[.int .i64 x.kind,.int .i64 x.j8,.int .i64 x.n,.int .i64 x.e.kind,.int .i64 x.e.au,.int .i64 x.e.other,.int .i64 x.e.server,.int .i64 x.e.bF,.int .i64 x.e.seq,.slice Ao x.e.ops.length co,.string x.e.key,.int .i64 x.e.upto,.int .i64 x.e.part,.int .i64 x.e.parts,.slice Ad x.e.data.length cd] 42)):=(Below.refl _ _).alloc (Nat.le_refl _) _;have CLE:=ab (yW x.e (.slice Ao x.e.ops.length co) (.slice Ad x.e.data.length cd) W.heap.size (wr.alloc (.cells #[.int .i64 x.kind,.int .i64 x.j8,.int .i64 x.n,.int .i64 x.e.kind,.int .i64 x.e.au,.int .i64 x.e.other,.int .i64 x.e.server,.int .i64 x.e.bF,.int .i64 x.e.seq,.slice Ao x.e.ops.length co,.string x.e.key,.int .i64 x.e.upto,.int .i64 x.e.part,.int .i64 x.e.parts,.slice Ad x.e.data.length cd] 42)) (hlist.below (hsince.trans (hb5.mono hsince.size))) (Nat.le_trans hsince.size hb5.size));have HB5:=ab hb5;have A5:=ab (show(wr.alloc (.cells #[.int .i64 x.kind,.int .i64 x.j8,.int .i64 x.n,.int .i64 x.e.kind,.int .i64 x.e.au,.int .i64 x.e.other,.int .i64 x.e.server,.int .i64 x.e.bF,.int .i64 x.e.seq,.slice Ao x.e.ops.length co,.string x.e.key,.int .i64 x.e.upto,.int .i64 x.e.part,.int .i64 x.e.parts,.slice Ad x.e.data.length cd] 42)).heap[wr.heap.size]? =some (.cells #[.int .i64 x.kind,.int .i64 x.j8,.int .i64 x.n,.int .i64 x.e.kind,.int .i64 x.e.au,.int .i64 x.e.other,.int .i64 x.e.server,.int .i64 x.e.bF,.int .i64 x.e.seq,.slice Ao x.e.ops.length co,.string x.e.key,.int .i64 x.e.upto,.int .i64 x.e.part,.int .i64 x.e.parts,.slice Ad x.e.data.length cd] 42 (0,0)) from heap_alloc_new wr _);clear hK hsince hXr hPr p0 p1 hcell hlist hlt hb5;unfold cj at CLE
          go_wp2_with fail
          refine CLE.out.mono ?_;rintro en w6 ⟨rfl,hb⟩;have HB6:=ab (HB5.out.trans (hb.mono HB5.out.size));have hA6:=(hb.block wr.heap.size (by rw[World.size_alloc];exact Nat.lt_succ_self _)).trans A5.out;clear hb CLE f0 f1 f2 f3 f4 f5 f6 f7 f8 f9 f10 f11 f12 f13 f14;cases hle:iT x.e with
          | true=>
            clear hA6
            go_wp2_with fail
            go_ret
            exact⟨rfl,HSi.out.trans (HB6.out.mono HSi.out.size)⟩
          | false=>
            have HZ:=ab (De hle);have K6:=ab (show w6.cell? ⟨X,0,none⟩=some (S.vu)/\w6.cell? ⟨X,6,none⟩=some (.pointer (some ⟨S.t,0,none⟩))/\w6.cell? ⟨W.heap.size,0,none⟩=some (.int .i64 ep)/\w6.cell? ⟨W.heap.size,1,none⟩=some (.slice A cs.length c)/\w6.cell? ⟨wr.heap.size,3,none⟩=some (.int .i64 x.e.kind)/\w6.cell? ⟨wr.heap.size,4,none⟩=some (.int .i64 x.e.au)/\w6.cell? ⟨wr.heap.size,5,none⟩=some (.int .i64 x.e.other)/\w6.cell? ⟨wr.heap.size,6,none⟩=some (.int .i64 x.e.server)/\w6.cell? ⟨wr.heap.size,7,none⟩=some (.int .i64 x.e.bF)/\w6.cell? ⟨wr.heap.size,8,none⟩=some (.int .i64 x.e.seq)/\w6.cell? ⟨wr.heap.size,9,none⟩=some (.slice Ao x.e.ops.length co)/\w6.cell? ⟨wr.heap.size,10,none⟩=some (.string x.e.key)/\w6.cell? ⟨wr.heap.size,11,none⟩=some (.int .i64 x.e.upto)/\w6.cell? ⟨wr.heap.size,12,none⟩=some (.int .i64 x.e.part)/\w6.cell? ⟨wr.heap.size,13,none⟩=some (.int .i64 x.e.parts)/\w6.cell? ⟨wr.heap.size,14,none⟩=some (.slice Ad x.e.data.length cd) from⟨((HBr.out.below HB6.out).cell rfl),((HBr.out.below HB6.out).cell rfl),((HB6.out.cell (p:=⟨W.heap.size,0,none⟩) (by show W.heap.size < wr.heap.size;have:=HXr.out;omega)).trans HPP.out.1),((HB6.out.cell (p:=⟨W.heap.size,1,none⟩) (by show W.heap.size < wr.heap.size;have:=HXr.out;omega)).trans HPP.out.2),(cell_of_row _ _ 3 _ _ _ hA6),(cell_of_row _ _ 4 _ _ _ hA6),(cell_of_row _ _ 5 _ _ _ hA6),(cell_of_row _ _ 6 _ _ _ hA6),(cell_of_row _ _ 7 _ _ _ hA6),(cell_of_row _ _ 8 _ _ _ hA6),(cell_of_row _ _ 9 _ _ _ hA6),(cell_of_row _ _ 10 _ _ _ hA6),(cell_of_row _ _ 11 _ _ _ hA6),(cell_of_row _ _ 12 _ _ _ hA6),(cell_of_row _ _ 13 _ _ _ hA6),(cell_of_row _ _ 14 _ _ _ hA6)⟩)
            have CAp:=ab (show Calls Tryz.prog 19 #[S.vu,.agg #[.int .i64 ep,.slice A cs.length c],.pointer (some ⟨S.t,0,none⟩),.agg #[.int .i64 x.e.kind,.int .i64 x.e.au,.int .i64 x.e.other,.int .i64 x.e.server,.int .i64 x.e.bF,.int .i64 x.e.seq,.slice Ao x.e.ops.length co,.string x.e.key,.int .i64 x.e.upto,.int .i64 x.e.part,.int .i64 x.e.parts,.slice Ad x.e.data.length cd]] w6.drew (λen w7=>∃xa xe,en= .returned (.tuple #[.int .i64 xa,xe])/\Kept (λj=>aJ 12 H' j\/j=S.t) w6 w7/\
             ((∃q,bf a xe q/\q≠13/\q≠0/\bl D W w7 S H' us' s (9 * k))\/bf a xe 13\/(xa=(s.nx:Int)/\xe= .nilIface/\∃H2 us2,bl D W w7 S H2 us2 (fY s (bI x.e)) (9 * k+9)/\gn S.cs (s.nx+1) us2/\gK (s.nx+1) (fY s (bI x.e)).all))) from by
             have hs6:=hR.out.sys.below HD.out (HB6.out.drew);have hep:=hR.out.ep;have h40:=H40.out;have hlt:=HLt.out;have hnx:=hR.out.nx;have hrr:aP s.ep S.cs=true:=by rw[hep,HCs.out];exact HR.out
             have h:=EB (e:=x.e) (vo:= .slice Ao x.e.ops.length co) (vd:= .slice Ad x.e.data.length cd) HD.out HL.out hs6 (by omega) W.heap.size (HLi.out.below hs6.bP.since) hs6.bP.since.size HZ.out hrr (by omega) hR.out.nj hR.out.fresh;rw[HVp.out,hep]at h;refine h.mono ?_;rintro en w7 (⟨hk0,⟨y,rfl,hy⟩,hb7⟩|⟨⟨y,rfl,hy⟩,hk7⟩|⟨rfl,hk7,H2,us2,_,hs7,hfr,hk0⟩)
             · refine⟨0,y,rfl,Kept.al (show Below w6.heap.size w6 w7 from((Below.refl _ _).drew).trans hb7),.inl ⟨_,hy,?_,hk0,hs6.below HD.out hb7⟩⟩;rcases vP (K:=K) (e:=x.e) with h|h|h<;>rw[h]<;>decide
             · exact⟨0,y,rfl,⟨hk7.os,hk7.tape,hk7.output,hk7.size,hk7.block⟩,.inr (.inl hy)⟩
             · refine⟨_,_,rfl,⟨hk7.os,hk7.tape,hk7.output,hk7.size,hk7.block⟩,.inr (.inr ⟨rfl,rfl,H2,us2,hs7,hfr,?_⟩)⟩;exact(mB (by omega) (mA (kj hk0).1) hR.out.nj).2)
            have HN:=ab (show X < w6.heap.size/\W.heap.size < w6.heap.size/\wr.heap.size < w6.heap.size/\(¬(aJ 12 H' X\/X=S.t))/\(¬(aJ 12 H' W.heap.size\/W.heap.size=S.t))/\(¬(aJ 12 H' wr.heap.size\/wr.heap.size=S.t)) from by have h1:=HXr.out;have h2:=HB6.out.size;have h3:=(Array.getElem?_eq_some_iff.1 hA6).1;have h4:=HX.out.2;have h5:=hR.out.sys.fv;have h6:=(hR.out.sys.free S.t (.inr rfl)).2;exact⟨by omega,by omega,h3,λe=>e.elim (λe=>by have:=hR.out.sys.dz _ e;omega) (λe=>by omega),λe=>e.elim (λe=>by have:=hR.out.sys.dz _ e;omega) (λe=>by omega),λe=>e.elim (λe=>by have:=(hR.out.sys.bP.lt _ e).2;omega) (λe=>by omega)⟩);clear hle hA6
            go_wp2_with fail
            go_region_held3 (λY=>Y.cell? ⟨X,0,none⟩=some (S.vu)/\Y.cell? ⟨X,6,none⟩=some (.pointer (some ⟨S.t,0,none⟩))/\Y.cell? ⟨W.heap.size,0,none⟩=some (.int .i64 ep)/\Y.cell? ⟨W.heap.size,1,none⟩=some (.slice A cs.length c)/\Y.cell? ⟨wr.heap.size,3,none⟩=some (.int .i64 x.e.kind)/\Y.cell? ⟨wr.heap.size,4,none⟩=some (.int .i64 x.e.au)/\Y.cell? ⟨wr.heap.size,5,none⟩=some (.int .i64 x.e.other)/\Y.cell? ⟨wr.heap.size,6,none⟩=some (.int .i64 x.e.server)/\Y.cell? ⟨wr.heap.size,7,none⟩=some (.int .i64 x.e.bF)/\Y.cell? ⟨wr.heap.size,8,none⟩=some (.int .i64 x.e.seq)/\Y.cell? ⟨wr.heap.size,9,none⟩=some (.slice Ao x.e.ops.length co)/\Y.cell? ⟨wr.heap.size,10,none⟩=some (.string x.e.key)/\Y.cell? ⟨wr.heap.size,11,none⟩=some (.int .i64 x.e.upto)/\Y.cell? ⟨wr.heap.size,12,none⟩=some (.int .i64 x.e.part)/\Y.cell? ⟨wr.heap.size,13,none⟩=some (.int .i64 x.e.parts)/\Y.cell? ⟨wr.heap.size,14,none⟩=some (.slice Ad x.e.data.length cd))
             (first|exact K6.out|exact K7.out)
             (first
               | ((with_reducible refine CAp.out.mono ?_);rintro en w7 ⟨xa,xe,rfl,hk7,hcase⟩;have K7:=ab (show w7.cell? ⟨X,0,none⟩=some (S.vu)/\w7.cell? ⟨X,6,none⟩=some (.pointer (some ⟨S.t,0,none⟩))/\w7.cell? ⟨W.heap.size,0,none⟩=some (.int .i64 ep)/\w7.cell? ⟨W.heap.size,1,none⟩=some (.slice A cs.length c)/\w7.cell? ⟨wr.heap.size,3,none⟩=some (.int .i64 x.e.kind)/\w7.cell? ⟨wr.heap.size,4,none⟩=some (.int .i64 x.e.au)/\w7.cell? ⟨wr.heap.size,5,none⟩=some (.int .i64 x.e.other)/\w7.cell? ⟨wr.heap.size,6,none⟩=some (.int .i64 x.e.server)/\w7.cell? ⟨wr.heap.size,7,none⟩=some (.int .i64 x.e.bF)/\w7.cell? ⟨wr.heap.size,8,none⟩=some (.int .i64 x.e.seq)/\w7.cell? ⟨wr.heap.size,9,none⟩=some (.slice Ao x.e.ops.length co)/\w7.cell? ⟨wr.heap.size,10,none⟩=some (.string x.e.key)/\w7.cell? ⟨wr.heap.size,11,none⟩=some (.int .i64 x.e.upto)/\w7.cell? ⟨wr.heap.size,12,none⟩=some (.int .i64 x.e.part)/\w7.cell? ⟨wr.heap.size,13,none⟩=some (.int .i64 x.e.parts)/\w7.cell? ⟨wr.heap.size,14,none⟩=some (.slice Ad x.e.data.length cd) from⟨((hk7.cell (p:=⟨X,0,none⟩) HN.out.1 HN.out.2.2.2.1).trans K6.out.1),((hk7.cell (p:=⟨X,6,none⟩) HN.out.1 HN.out.2.2.2.1).trans K6.out.2.1),((hk7.cell (p:=⟨W.heap.size,0,none⟩) HN.out.2.1 HN.out.2.2.2.2.1).trans K6.out.2.2.1),((hk7.cell (p:=⟨W.heap.size,1,none⟩) HN.out.2.1 HN.out.2.2.2.2.1).trans K6.out.2.2.2.1),((hk7.cell (p:=⟨wr.heap.size,3,none⟩) HN.out.2.2.1 HN.out.2.2.2.2.2).trans K6.out.2.2.2.2.1),((hk7.cell (p:=⟨wr.heap.size,4,none⟩) HN.out.2.2.1 HN.out.2.2.2.2.2).trans K6.out.2.2.2.2.2.1),((hk7.cell (p:=⟨wr.heap.size,5,none⟩) HN.out.2.2.1 HN.out.2.2.2.2.2).trans K6.out.2.2.2.2.2.2.1),((hk7.cell (p:=⟨wr.heap.size,6,none⟩) HN.out.2.2.1 HN.out.2.2.2.2.2).trans K6.out.2.2.2.2.2.2.2.1),((hk7.cell (p:=⟨wr.heap.size,7,none⟩) HN.out.2.2.1 HN.out.2.2.2.2.2).trans K6.out.2.2.2.2.2.2.2.2.1),((hk7.cell (p:=⟨wr.heap.size,8,none⟩) HN.out.2.2.1 HN.out.2.2.2.2.2).trans K6.out.2.2.2.2.2.2.2.2.2.1),((hk7.cell (p:=⟨wr.heap.size,9,none⟩) HN.out.2.2.1 HN.out.2.2.2.2.2).trans K6.out.2.2.2.2.2.2.2.2.2.2.1),((hk7.cell (p:=⟨wr.heap.size,10,none⟩) HN.out.2.2.1 HN.out.2.2.2.2.2).trans K6.out.2.2.2.2.2.2.2.2.2.2.2.1),((hk7.cell (p:=⟨wr.heap.size,11,none⟩) HN.out.2.2.1 HN.out.2.2.2.2.2).trans K6.out.2.2.2.2.2.2.2.2.2.2.2.2.1),((hk7.cell (p:=⟨wr.heap.size,12,none⟩) HN.out.2.2.1 HN.out.2.2.2.2.2).trans K6.out.2.2.2.2.2.2.2.2.2.2.2.2.2.1),((hk7.cell (p:=⟨wr.heap.size,13,none⟩) HN.out.2.2.1 HN.out.2.2.2.2.2).trans K6.out.2.2.2.2.2.2.2.2.2.2.2.2.2.2.1),((hk7.cell (p:=⟨wr.heap.size,14,none⟩) HN.out.2.2.1 HN.out.2.2.2.2.2).trans K6.out.2.2.2.2.2.2.2.2.2.2.2.2.2.2.2)⟩)))
            have HKK:=ab (show Kept (λj=>S.lo<=j) w4 w7 from(hR.out.kept.trans (Kept.al HB6.out (F:=λj=>S.lo<=j)) (λ_ h=> .inl h)).trans hk7 (λj e=> .inl (e.elim (λe=>hR.out.sys.dz j e) (λe=>by rw[e];exact hR.out.sys.fv))));have HBW:=ab (show Below W.heap.size W w7 from by have h1:=HSi.out.trans (HB6.out.mono HSi.out.size);have h4:=HX.out;have h5:=HXr.out;exact h1.trans ⟨hk7.os,hk7.tape,hk7.output,hk7.size,λj hj=>hk7.block j (Nat.lt_of_lt_of_le hj h1.size) (λe=>e.elim (λe=>by have:=hR.out.sys.dz j e;omega) (λe=>by have:=hR.out.sys.fv;omega))⟩);clear hk7 CAp K6 K7 HN;rcases hcase with⟨q,hq,h13,h0,hs7⟩|hq|⟨rfl,rfl,H2,us2,hs7,hfr,hfa⟩
            · have hE7:ar w7 a:=HL.out.bq.below HBW.out;have CN:=ab (nR a xe q w7 hE7 hq);obtain⟨mm,hmm,hme,rfl⟩:∃m,m < 19/\q=m+1/\xe=ai (a m):=by
               rcases hq with⟨h,_⟩|h
               · exact absurd h h0
               · exact h
              have HS7:=ab hs7;have i13:¬(q:Int)=13:=by omega
              clear hE7 hq h13 h0 hs7 hme hmm
              go_wp2_with fail
              refine CN.out.mono ?_;rintro en w8 ⟨rfl,hb8⟩;have HB8:=ab hb8;clear hb8 CN
              go_wp2_with fail
              go_roundw
              case rel=>have hlt:=HLt.out;exact⟨k+1,H',us',s,by go_num,rfl,by omega,ab ⟨(HS7.out.below HD.out HB8.out).mono (by omega),hR.out.fresh,hR.out.nj,hR.out.ep,Nat.le_succ_of_le hR.out.nx,HKK.out.trans (Kept.al HB8.out (F:=λj=>S.lo<=j)) (λ_ h=> .inl h)⟩⟩
              case measure=>have hlt:=HLt.out;simp[intOf];omega
            · have hE7:ar w7 a:=HL.out.bq.below HBW.out;have CN:=ab (nR a xe 13 w7 hE7 hq);obtain⟨mm,hmm,hme,rfl⟩:∃m,m < 19/\13=m+1/\xe=ai (a m):=by
               rcases hq with⟨h,_⟩|h
               · cases h
               · exact h
              clear hE7 hq hme hmm
              go_wp2_with fail
              refine CN.out.mono ?_;rintro en w8 ⟨rfl,hb8⟩;have HB8:=ab hb8;clear hb8 CN
              go_wp2_with fail
              go_ret
              exact⟨rfl,HBW.out.trans (HB8.out.mono HBW.out.size)⟩
            · have hE7:ar w7 a:=HL.out.bq.below HBW.out;have CN:=ab (nR a .nilIface 0 w7 hE7 (ec a));have HS7:=ab hs7;have HFr:=ab hfr;have HFa:=ab hfa;have hnx:=hR.out.nx;have h40:=H40.out;have hlt:=HLt.out;have j1: -9223372036854775808<=(s.nx:Int)+1:=by omega
              have j2:(s.nx:Int)+1<=9223372036854775807:=by omega
              clear hE7 hs7 hfr hfa hnx h40 hlt
              go_wp2_with fail
              refine CN.out.mono ?_;rintro en w8 ⟨rfl,hb8⟩;have HB8:=ab hb8;clear hb8 CN
              go_wp2_with fail
              go_roundw
              case rel=>have hlt:=HLt.out;exact⟨k+1,H2,us2,fY s (bI x.e),by go_num,rfl,by omega,ab ⟨(HS7.out.below HD.out HB8.out).mono (by omega),HFr.out,HFa.out,hR.out.ep,Nat.succ_le_succ hR.out.nx,HKK.out.trans (Kept.al HB8.out (F:=λj=>S.lo<=j)) (λ_ h=> .inl h)⟩⟩
              case measure=>have hlt:=HLt.out;simp[intOf];omega
        · have hke:k=ks.length:=by omega
          subst hke;have hsd:=hR.out.sys.below HD.out (Below.refl wr.heap.size wr).drew;have CNx:=ab (show Calls Tryz.prog 21 #[.pointer (some ⟨S.t,0,none⟩),.int .i64 ep] wr.drew (λe w'=>e= .returned (.tuple #[.int .i64 (s.nx:Int),.nilIface])/\Below wr.heap.size wr w') from by have h:=rI hsd.tok (E5.iV (hsd.bq HL.out.bq)) ep;rw[if_pos hR.out.ep.symm,if_pos hR.out.ep.symm]at h;exact h.mono λe w' ⟨h1,h2⟩=>⟨h1,((Below.refl wr.heap.size wr).drew).trans h2⟩);have K6:=ab (show wr.cell? ⟨X,6,none⟩=some (.pointer (some ⟨S.t,0,none⟩))/\wr.cell? ⟨W.heap.size,0,none⟩=some (.int .i64 ep) from⟨HBr.out.cell rfl,p0⟩);have HXw:=ab (show X < wr.heap.size/\W.heap.size < wr.heap.size from⟨HXr.out.2,by have:=HXr.out;omega⟩);have i1:¬((ks.length:Nat):Int) < (ks.length:Int):=by omega
          clear hK hsince hXr hPr p0 p1 hlt hsd
          go_wp2_with fail
          go_region_held3 (λY=>Y.cell? ⟨X,6,none⟩=some (.pointer (some ⟨S.t,0,none⟩))/\Y.cell? ⟨W.heap.size,0,none⟩=some (.int .i64 ep))
           (first|exact K6.out|exact K7.out)
           (first
             | ((with_reducible refine CNx.out.mono ?_);rintro en w7 ⟨rfl,hb7⟩;have K7:=ab (And.intro ((hb7.cell (p:=⟨X,6,none⟩) HXw.out.1).trans K6.out.1) ((hb7.cell (p:=⟨W.heap.size,0,none⟩) HXw.out.2).trans K6.out.2))))
          have HB7:=ab hb7;clear hb7 CNx K6 K7
          go_wp2_with fail
          go_ret
          exact⟨rfl,HSi.out.trans (HB7.out.mono HSi.out.size)⟩
end
end Go.Proofs.YtdilnodbfnlhdaaGreatDoor
