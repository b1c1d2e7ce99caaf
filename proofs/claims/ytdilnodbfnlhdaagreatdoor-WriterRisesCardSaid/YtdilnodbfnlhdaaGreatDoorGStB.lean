import Derived.Test.YtdilnodbfnlhdaaGreatDoorGSsR
import Derived.Test.YtdilnodbfnlhdaaGreatDoorGSsO
import Derived.Test.YtdilnodbfnlhdaaGreatDoorGSgT
import Derived.Deep.RegionLaw
import Derived.Deep.RegionHeld3
import Derived.Deep.MidRow
set_option maxRecDepth 100000
set_option maxHeartbeats 4000000
namespace Go.Proofs.YtdilnodbfnlhdaaGreatDoor
open Go.RowKit Tide
theorem Db {l:List ah} {j:Nat} (h:j+1 < l.length) (hlt:(l[j+1]).no < (l[j]'(by omega)).no):fq l (j+1)=fq ((l.set (j+1) (l[j]'(by omega))).set j l[j+1]) j:=by rw[fq,List.getElem?_eq_getElem h,List.getElem?_eq_getElem (by omega)];simp only;rw[if_pos hlt]
theorem Dc {l:List ah} {j:Nat} (h:j+1 < l.length) (hlt:¬(l[j+1]).no < (l[j]'(by omega)).no):fq l (j+1)=l:=by rw[fq,List.getElem?_eq_getElem h,List.getElem?_eq_getElem (by omega)];simp only;rw[if_neg hlt]
theorem tS:∀ (us:List ah) (i:Nat) (x:ah),i < us.length->(((us.flatMap ah.cells).set (i * 3) (.int .i64 (x.no:Int))).set (i * 3+1) (.int .i64 (x.first:Int))).set (i * 3+2) (.int .i64 (x.fin:Int))=(us.set i x).flatMap ah.cells
 | [],_,_,h=>by simp at h
 | v :: r,0,x,_=>rfl
 | v :: r,i+1,x,h=>by have ih:=tS r i x (by simpa using h);rw[List.set_cons_succ,List.flatMap_cons,List.flatMap_cons,<-ih,show(i+1) * 3=(i * 3)+3 by omega];rfl
theorem oF {W:World} {us:List ah} {b c n i:Nat} (x:ah) (h:W.ownsRow 0 224 3 (.slice (some ⟨b,0,none⟩) n c) n (us.flatMap ah.cells)) (hi:i < us.length):
 (W.setCells b (i * 3) [.int .i64 (x.no:Int),.int .i64 (x.first:Int),.int .i64 (x.fin:Int)]).ownsRow 0 224 3 (.slice (some ⟨b,0,none⟩) n c) n ((us.set i x).flatMap ah.cells):=by
 have h1:=lU h (i * 3) (.int .i64 (x.no:Int));have h2:=lU h1 (i * 3+1) (.int .i64 (x.first:Int));have h3:=lU h2 (i * 3+2) (.int .i64 (x.fin:Int));rw[tS us i x hi]at h3;exact h3
theorem oE {W:World} {us:List ah} {b c n:Nat} (h:W.ownsRow 0 224 3 (.slice (some ⟨b,0,none⟩) n c) n (us.flatMap ah.cells)) (i:Nat) (hi:i < us.length):
 W.cell? ⟨b,i * 3,none⟩=some (.int .i64 ((us[i]).no:Int))/\W.cell? ⟨b,i * 3+1,none⟩=some (.int .i64 ((us[i]).first:Int))/\W.cell? ⟨b,i * 3+2,none⟩=some (.int .i64 ((us[i]).fin:Int))/\∀j,W.frozen? ⟨b,j,none⟩=false:=by
 have hat:∀j u,((us[i]).cells)[j]? =some u->j < 3->W.cell? ⟨b,i * 3+j,none⟩=some u:=λj u hu hj=>by
  have h1:=h.cells (g:=b) rfl (i * 3+j) u (by rw[oW us i j hi hj];exact hu)
  rwa[da,Nat.zero_add]at h1
 refine⟨hat 0 _ rfl (by omega),hat 1 _ rfl (by omega),hat 2 _ rfl (by omega),λj=> ?_⟩;obtain⟨cur,ho⟩:=fG h (k:=b) rfl;unfold World.frozen?;rw[show W.heap[(⟨b,j,none⟩:Addr).block]? =_ from ho];simp
theorem lD:(Tryz.prog.info? 224).map (·.size)=some 3:=by kernel_rfl
theorem mz {ops:Array Oper} {o:Oper} {a:Act} {w:World} {K:Act->World->Prop} {Q:Exit->Act->World->Prop} {E:Prop} (hg:o.guard=none) (t:TypeId) (p v:Operand) (ho:o.op= .store t p v)
 {l:List ah} {b c n:Nat} (i:Nat) (hown:w.ownsRow 0 224 3 (.slice (some ⟨b,0,none⟩) n c) n (l.flatMap ah.cells)) (hi:i < l.length) (x:ah) (hp:a.eval p= .pointer (some ⟨b,i * 3,none⟩))
 (hv:a.eval v= .agg #[.int .i64 (x.no:Int),.int .i64 (x.first:Int),.int .i64 (x.fin:Int)]) (hsz:(Tryz.prog.info? t).map (·.size)=some 3)
 (h:∀w',w'.ownsRow 0 224 3 (.slice (some ⟨b,0,none⟩) n c) n ((l.set i x).flatMap ah.cells)->Kept (λk=>k=b) w w'->K (a.put o.dst undef) w'):
 if Region.wanted o (yielded ops a.tmps)=true then Oper.wp Tryz.prog o a w K Q else E:=by
 have hw:Region.wanted o (yielded ops a.tmps)=true:=by simp[Region.wanted,hg]
 rw[if_pos hw];obtain⟨c0,c1,c2,fz⟩:=oE hown i hi;refine wp_store_mid t p v ho b (i * 3) #[.int .i64 (x.no:Int),.int .i64 (x.first:Int),.int .i64 (x.fin:Int)] hp hv ?_ hsz (by simp[Value.oneCell']) (h _ (oF x hown hi) (sV b _ _ _));intro j hj;have:j=0\/j=1\/j=2:=by simp at hj;omega
 refine⟨?_,fz _⟩;rcases this with rfl|rfl|rfl
 · simp[c0]
 · simp[c1]
 · simp[c2]
section
variable {W:World} {us:List ah} {b c n:Nat}
theorem yu (h:W.ownsRow 0 224 3 (.slice (some ⟨b,0,none⟩) n c) n (us.flatMap ah.cells)) (hn:us.length=n) (hmax:n<=1000):
 Calls Tryz.prog 169 #[.slice (some ⟨b,0,none⟩) n c,.int .i64 0,.int .i64 (n:Nat),.func (.func 117) #[] #[]] W λe w'=>e= .returned (.tuple #[])/\w'.ownsRow 0 224 3 (.slice (some ⟨b,0,none⟩) n c) n ((dE us n).flatMap ah.cells)/\Kept (λk=>k=b) W w':=by
 have H:=ab h;have HN:=ab hn;have hcl:n<=c:=by
  rcases h.2 with⟨h0,_⟩|⟨_,_,_,h0,_,_,h1,_⟩
  · cases h0
  · injection h0 with _ _ h0;omega
 clear h hn
 go_enter Tryz.func169,Tryz.ntmps169
 go_wp2_with fail
 go_loopw [8] (λi wr=>∃k:Nat,i= .int .i64 (k:Int)/\1<=k/\(k<=n\/k=1)/\Hid (wr.ownsRow 0 224 3 (.slice (some ⟨b,0,none⟩) n c) n ((dE us k).flatMap ah.cells))/\Hid (Kept (λk=>k=b) W wr)) (λi _=>n - (intOf i).toNat)
 case atStart=>exact⟨1,rfl,by omega,.inr rfl,ab H.out,ab (Kept.refl _ _)⟩
 case round=>
  obtain⟨k,rfl,hk1,hk2,ho,hkp⟩:=hrel;by_cases hlt:k < n
  · go_wp2_with fail
    go_loopw [9] (λju wr2=>∃ (j:Nat) (l:List ah),ju= .int .i64 (j:Int)/\j<=k/\l.length=n/\Hid (fq l j=dE us (k+1))/\Hid (wr2.ownsRow 0 224 3 (.slice (some ⟨b,0,none⟩) n c) n (l.flatMap ah.cells))/\Hid (Kept (λk=>k=b) W wr2)) (λju _=>(intOf ju).toNat)
    case atStart=>exact⟨k,dE us k,rfl,Nat.le_refl _,by rw[oN];exact HN.out,ab rfl,ho,hkp⟩
    case round=>
     obtain⟨j,l,rfl,hj,hl,hs,ho2,hk2⟩:=hrel;by_cases hj0:j=0
     · subst hj0;have HS:=ab (show l=dE us (k+1) from by have:=hs.out;rwa[fq]at this)
       go_wp2_with fail
       go_quiet (fail)
       go_wp2_with fail
       go_roundw
       case rel=>exact⟨k+1,by go_num,by omega,.inl (by omega),by rw[<-HS.out];exact ab ho2.out,ab (hk2.out.trans (Kept.al (F:=λ_=>False) (dp _ _)) (λ_ h=>h.elim))⟩
       case measure=>simp[intOf];omega
     · obtain⟨m,hm⟩:∃m,j=m+1:=⟨j - 1,by omega⟩;have hjl:j < l.length:=by omega
       have hml:m < l.length:=by omega
       obtain⟨x0,x1,x2,fz⟩:=oE ho2.out j hjl;obtain⟨y0,y1,y2,_⟩:=oE ho2.out m hml;have CM:=ab (wj l[j] l[m] wr.drew);have HGo:=ab (λ(hq:(l[j]).no < (l[m]).no)=>show fq ((l.set j l[m]).set m l[j]) m=dE us (k+1) from by have h2:=hs.out;subst hm;rw[Db hjl hq]at h2;exact h2);have HSt:=ab (λ(hq:¬(l[j]).no < (l[m]).no)=>show l=dE us (k+1) from by have h2:=hs.out;subst hm;rw[Dc hjl hq]at h2;exact h2);have HXY:=ab (And.intro (oF (i:=m) l[j] (oF (i:=j) l[m] ho2.out hjl) (by rw[List.length_set];exact hml)) hm);generalize l[j]=x at *;generalize l[m]=y at *;obtain⟨xn,xf,xe⟩:=x;obtain⟨yn,yf,ye⟩:=y;dsimp only at x0 x1 x2 y0 y1 y2 CM HGo HSt HXY;have HJ:=ab (And.intro hjl hml);have hbl:b < wr.drew.heap.size:=(ho2.out.lt b rfl).2;have q0:decide ((0:Int) < (j:Int))=true:=decide_eq_true (by omega);have q0n:decide (0 < j)=true:=decide_eq_true (by omega);have q0p:0 < j:=by omega
       have qm:(j:Int) - 1=(m:Int):=by omega
       have j0:(0:Int)<=(j:Int):=by omega
       have jn:(j:Int) < (n:Int):=by omega
       have m0:(0:Int)<=(m:Int):=by omega
       have mn:(m:Int) < (n:Int):=by omega
       have HWm:=ab (eC (m:Int) (by omega) (by omega));cases hc:decide (xn < yn) with
       | false=>
         have HS:=ab (HSt.out (of_decide_eq_false hc));have qc:decide (gy xn yn < 0)=false:=decide_eq_false (by unfold gy;have:=of_decide_eq_false hc;(repeat' split)<;>omega);generalize gy xn yn=cv at *;clear HGo HSt HXY hc hm hjl hml;obtain⟨wm,vm⟩:=HWm.out;have HKeep:=ab (λ(w3:World) (hb3:Below wr.drew.heap.size wr.drew w3)=>(show w3.cell? ⟨b,j * 3,none⟩=some (.int .i64 (xn:Int))/\w3.cell? ⟨b,j * 3+1,none⟩=some (.int .i64 (xf:Int))/\w3.cell? ⟨b,j * 3+2,none⟩=some (.int .i64 (xe:Int))/\w3.cell? ⟨b,m * 3,none⟩=some (.int .i64 (yn:Int))/\w3.cell? ⟨b,m * 3+1,none⟩=some (.int .i64 (yf:Int))/\w3.cell? ⟨b,m * 3+2,none⟩=some (.int .i64 (ye:Int)) from⟨(hb3.cell (p:=⟨b,_,none⟩) hbl).trans x0,(hb3.cell (p:=⟨b,_,none⟩) hbl).trans x1,(hb3.cell (p:=⟨b,_,none⟩) hbl).trans x2,(hb3.cell (p:=⟨b,_,none⟩) hbl).trans y0,(hb3.cell (p:=⟨b,_,none⟩) hbl).trans y1,(hb3.cell (p:=⟨b,_,none⟩) hbl).trans y2⟩));clear hbl
         go_wp2_with fail
         go_region_held3 (λw'=>w'.cell? ⟨b,j * 3,none⟩=some (.int .i64 (xn:Int))/\w'.cell? ⟨b,j * 3+1,none⟩=some (.int .i64 (xf:Int))/\w'.cell? ⟨b,j * 3+2,none⟩=some (.int .i64 (xe:Int))/\w'.cell? ⟨b,m * 3,none⟩=some (.int .i64 (yn:Int))/\w'.cell? ⟨b,m * 3+1,none⟩=some (.int .i64 (yf:Int))/\w'.cell? ⟨b,m * 3+2,none⟩=some (.int .i64 (ye:Int))) (first|assumption|exact HKeep.out _ (Below.refl _ _)|exact HS5) (first
          | (with_reducible refine(CM.out).mono ?_);rintro en3 w3 ⟨rfl,hb3⟩;have HS5:=HKeep.out _ hb3)
         have HB3:=ab (show Below wr.heap.size wr w3 from((Below.refl wr.heap.size wr).drew).trans hb3);clear hb3 x0 x1 x2 y0 y1 y2 CM HS5 HKeep
         go_wp2_with fail
         go_roundw
         case rel=>exact⟨k+1,by go_num,by omega,.inl (by omega),by rw[<-HS.out];exact ab (bp ho2.out HB3.out),ab (hk2.out.trans (Kept.al (F:=λ_=>False) HB3.out) (λ_ h=>h.elim))⟩
         case measure=>simp[intOf];omega
       | true=>
         have HG2:=ab (HGo.out (of_decide_eq_true hc));have qc:decide (gy xn yn < 0)=true:=decide_eq_true (by unfold gy;have:=of_decide_eq_true hc;(repeat' split)<;>omega);generalize gy xn yn=cv at *;clear HGo HSt hc hm hjl hml;obtain⟨wm,vm⟩:=HWm.out;have HKeep:=ab (λ(w3:World) (hb3:Below wr.drew.heap.size wr.drew w3)=>(show w3.cell? ⟨b,j * 3,none⟩=some (.int .i64 (xn:Int))/\w3.cell? ⟨b,j * 3+1,none⟩=some (.int .i64 (xf:Int))/\w3.cell? ⟨b,j * 3+2,none⟩=some (.int .i64 (xe:Int))/\w3.cell? ⟨b,m * 3,none⟩=some (.int .i64 (yn:Int))/\w3.cell? ⟨b,m * 3+1,none⟩=some (.int .i64 (yf:Int))/\w3.cell? ⟨b,m * 3+2,none⟩=some (.int .i64 (ye:Int)) from⟨(hb3.cell (p:=⟨b,_,none⟩) hbl).trans x0,(hb3.cell (p:=⟨b,_,none⟩) hbl).trans x1,(hb3.cell (p:=⟨b,_,none⟩) hbl).trans x2,(hb3.cell (p:=⟨b,_,none⟩) hbl).trans y0,(hb3.cell (p:=⟨b,_,none⟩) hbl).trans y1,(hb3.cell (p:=⟨b,_,none⟩) hbl).trans y2⟩));clear hbl
         go_wp2_with fail
         go_region_held3 (λw'=>w'.cell? ⟨b,j * 3,none⟩=some (.int .i64 (xn:Int))/\w'.cell? ⟨b,j * 3+1,none⟩=some (.int .i64 (xf:Int))/\w'.cell? ⟨b,j * 3+2,none⟩=some (.int .i64 (xe:Int))/\w'.cell? ⟨b,m * 3,none⟩=some (.int .i64 (yn:Int))/\w'.cell? ⟨b,m * 3+1,none⟩=some (.int .i64 (yf:Int))/\w'.cell? ⟨b,m * 3+2,none⟩=some (.int .i64 (ye:Int))) (first|assumption|exact HKeep.out _ (Below.refl _ _)|exact HS5) (first
          | (with_reducible refine(CM.out).mono ?_);rintro en3 w3 ⟨rfl,hb3⟩;have HS5:=HKeep.out _ hb3)
         have HB3:=ab (show Below wr.heap.size wr w3 from((Below.refl wr.heap.size wr).drew).trans hb3);clear hb3 x0 x1 x2 y0 y1 y2 CM HKeep;obtain⟨x0,x1,x2,y0,y1,y2⟩:=HS5;have R3:=ab (show w3.drew.ownsRow 0 224 3 (.slice (some ⟨b,0,none⟩) n c) n (l.flatMap ah.cells) from bp ho2.out HB3.out.drew)
         go_wp2_with fail
         refine wp_region_any (by kernel_rfl) ?_;change wpAny _ _ _ _ _ _ _ (World.drew _);refine wpAny_take (i:=0) (v:= ?v11) rfl (by kernel_rfl) (by kernel_rfl) (by kernel_rfl) (λ_ _ _ h=>h) (Or.inl ⟨by rfl,?h11⟩) ?r11
         case h11=>
          intro w
          go_simp
          try with_reducible rfl
         (try simp only[Act.put])
         refine wpAny_take (i:=1) (v:= ?v12) rfl (by kernel_rfl) (by kernel_rfl) (by kernel_rfl) (λ_ _ _ h=>h) (Or.inl ⟨by rfl,?h12⟩) ?r12
         case h12=>
          intro w
          go_simp
          try with_reducible rfl
         (try simp only[Act.put])
         refine wpAny_take (i:=2) (v:= ?v13) rfl (by kernel_rfl) (by kernel_rfl) (by kernel_rfl) (λ_ _ _ h=>h) (Or.inl ⟨by rfl,?h13⟩) ?r13
         case h13=>
          intro w
          go_simp
          try with_reducible rfl
         (try simp only[Act.put])
         refine wpAny_take (i:=3) (v:= ?v14) rfl (by kernel_rfl) (by kernel_rfl) (by kernel_rfl) (λ_ _ _ h=>h) (Or.inl ⟨by rfl,?h14⟩) ?r14
         case h14=>
          intro w
          go_simp
          try with_reducible rfl
         (try simp only[Act.put])
         refine wpAny_take (i:=4) (v:= ?v15) rfl (by kernel_rfl) (by kernel_rfl) (by kernel_rfl) (λ_ _ _ h=>h) (Or.inl ⟨by rfl,?h15⟩) ?r15
         case h15=>
          intro w
          go_simp
          try with_reducible rfl
         (try simp only[Act.put])
         refine wpAny_take (i:=5) (v:= ?v16) rfl (by kernel_rfl) (by kernel_rfl) (by kernel_rfl) (λ_ _ _ h=>h) (Or.inl ⟨by rfl,?h16⟩) ?r16
         case h16=>
          intro w
          go_simp
          try with_reducible rfl
         (try simp only[Act.put])
         refine wpAny_take (i:=6) (v:= ?v17) rfl (by kernel_rfl) (by kernel_rfl) (by kernel_rfl) (λ_ _ _ h=>h) (Or.inl ⟨by rfl,?h17⟩) ?r17
         case h17=>
          intro w
          go_simp
          try with_reducible rfl
         (try simp only[Act.put])
         refine wpAny_take (i:=7) (v:= ?v18) rfl (by kernel_rfl) (by kernel_rfl) (by kernel_rfl) (λ_ _ _ h=>h) (Or.inl ⟨by rfl,?h18⟩) ?r18
         case h18=>
          intro w
          go_simp
          try with_reducible rfl
         (try simp only[Act.put])
         refine wpAny_take (i:=8) (v:= ?v19) rfl (by kernel_rfl) (by kernel_rfl) (by kernel_rfl) (λ_ _ _ h=>h) (Or.inl ⟨by rfl,?h19⟩) ?r19
         case h19=>
          intro w
          go_simp
          try with_reducible rfl
         (try simp only[Act.put])
         refine wpAny_take (i:=10) (v:= ?v20) rfl (by kernel_rfl) (by kernel_rfl) (by kernel_rfl) (λ_ _ _ h=>h) (Or.inl ⟨by rfl,?h20⟩) ?r20
         case h20=>
          intro w
          go_simp
          try with_reducible rfl
         (try simp only[Act.put])
         refine wpAny_take (i:=11) (v:= ?v21) rfl (by kernel_rfl) (by kernel_rfl) (by kernel_rfl) (λ_ _ _ h=>h) (Or.inl ⟨by rfl,?h21⟩) ?r21
         case h21=>
          intro w
          go_simp
          try with_reducible rfl
         (try simp only[Act.put])
         refine wpAny_take (i:=12) (v:= ?v22) rfl (by kernel_rfl) (by kernel_rfl) (by kernel_rfl) (λ_ _ _ h=>h) (Or.inl ⟨by rfl,?h22⟩) ?r22
         case h22=>
          intro w
          go_simp
          try with_reducible rfl
         (try simp only[Act.put])
         refine wpAny_ready (rs:= [9,13]) (by kernel_rfl) (by simp) ?_;refine AllReady.cons rfl (λK hK=> ?_) (AllReady.cons rfl (λK hK=> ?_) AllReady.nil)
         · go_simp
           refine hK _ _ ?_;clear hK K;refine wpAny_ready (rs:= [13]) (by kernel_rfl) (by simp) ?_;refine AllReady.cons rfl (λK hK=> ?_) AllReady.nil
           go_simp
           refine hK _ _ ?_;clear hK K;refine wpAny_take (i:=14) (v:= ?v23) rfl (by kernel_rfl) (by kernel_rfl) (by kernel_rfl) (λ_ _ _ h=>h) (Or.inl ⟨by rfl,?h23⟩) ?r23
           case h23=>
            intro w
            go_simp
            try with_reducible rfl
           (try simp only[Act.put])
           refine wpAny_ready (rs:= [15]) (by kernel_rfl) (by simp) ?_;refine AllReady.cons rfl (λK hK=> ?_) AllReady.nil;refine mz rfl _ _ _ rfl j R3.out HJ.out.1 ⟨yn,yf,ye⟩ rfl rfl lD ?_;intro w4 rw4 kw4;refine hK _ _ ?_;clear hK K;refine wpAny_take (i:=16) (v:= ?v24) rfl (by kernel_rfl) (by kernel_rfl) (by kernel_rfl) (λ_ _ _ h=>h) (Or.inl ⟨by rfl,?h24⟩) ?r24
           case h24=>
            intro w
            go_simp
            try with_reducible rfl
           (try simp only[Act.put])
           refine wpAny_ready (rs:= [17]) (by kernel_rfl) (by simp) ?_;refine AllReady.cons rfl (λK hK=> ?_) AllReady.nil;refine mz rfl _ _ _ rfl m rw4 (by rw[List.length_set];exact HJ.out.2) ⟨xn,xf,xe⟩ rfl rfl lD ?_;intro w5 rw5 kw5;refine hK _ _ ?_;clear hK K;refine wpAny_done (by kernel_rfl) ?_ _;have R5:=ab rw5;have K5:=ab (kw4.trans kw5 (λk h=> .inl h));clear rw4 rw5 kw4 kw5
           go_wp2_with fail
           go_roundw
           case rel=>exact⟨m,_,rfl,by have:=HXY.out.2;omega,by rw[List.length_set,List.length_set];exact hl,HG2,R5,ab ((hk2.out.trans (Kept.al (F:=λ_=>False) HB3.out.drew) (λ_ h=>h.elim)).trans K5.out (λk h=> .inl h))⟩
           case measure=>have:=HXY.out.2;simp[intOf];omega
         · go_simp
           refine hK _ _ ?_;clear hK K;refine wpAny_ready (rs:= [9]) (by kernel_rfl) (by simp) ?_;refine AllReady.cons rfl (λK hK=> ?_) AllReady.nil
           go_simp
           refine hK _ _ ?_;clear hK K;refine wpAny_take (i:=14) (v:= ?v25) rfl (by kernel_rfl) (by kernel_rfl) (by kernel_rfl) (λ_ _ _ h=>h) (Or.inl ⟨by rfl,?h25⟩) ?r25
           case h25=>
            intro w
            go_simp
            try with_reducible rfl
           (try simp only[Act.put])
           refine wpAny_ready (rs:= [15]) (by kernel_rfl) (by simp) ?_;refine AllReady.cons rfl (λK hK=> ?_) AllReady.nil;refine mz rfl _ _ _ rfl j R3.out HJ.out.1 ⟨yn,yf,ye⟩ rfl rfl lD ?_;intro w4 rw4 kw4;refine hK _ _ ?_;clear hK K;refine wpAny_take (i:=16) (v:= ?v26) rfl (by kernel_rfl) (by kernel_rfl) (by kernel_rfl) (λ_ _ _ h=>h) (Or.inl ⟨by rfl,?h26⟩) ?r26
           case h26=>
            intro w
            go_simp
            try with_reducible rfl
           (try simp only[Act.put])
           refine wpAny_ready (rs:= [17]) (by kernel_rfl) (by simp) ?_;refine AllReady.cons rfl (λK hK=> ?_) AllReady.nil;refine mz rfl _ _ _ rfl m rw4 (by rw[List.length_set];exact HJ.out.2) ⟨xn,xf,xe⟩ rfl rfl lD ?_;intro w5 rw5 kw5;refine hK _ _ ?_;clear hK K;refine wpAny_done (by kernel_rfl) ?_ _;have R5:=ab rw5;have K5:=ab (kw4.trans kw5 (λk h=> .inl h));clear rw4 rw5 kw4 kw5
           go_wp2_with fail
           go_roundw
           case rel=>exact⟨m,_,rfl,by have:=HXY.out.2;omega,by rw[List.length_set,List.length_set];exact hl,HG2,R5,ab ((hk2.out.trans (Kept.al (F:=λ_=>False) HB3.out.drew) (λ_ h=>h.elim)).trans K5.out (λk h=> .inl h))⟩
           case measure=>have:=HXY.out.2;simp[intOf];omega
  · have q:decide ((k:Int) < (n:Int))=false:=decide_eq_false (by omega);have HE:=ab (show dE us k=dE us n from by
     by_cases hkn:k=n
     · rw[hkn]
     · have h1:k=1:=by omega
       have h0:n=0:=by omega
       rw[h1,h0];rfl)
    go_wp2_with fail
    go_end0
    exact⟨rfl,by rw[<-HE.out];exact ho.out,hkp.out⟩
end
end Go.Proofs.YtdilnodbfnlhdaaGreatDoor
