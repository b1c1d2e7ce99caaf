import Derived.Test.YtdilnodbfnlhdaaGreatDoorGTkA
import Derived.Deep.AppendLies
import Derived.Deep.RegionLaw
set_option maxRecDepth 100000
set_option maxHeartbeats 2000000
namespace Go.Proofs.YtdilnodbfnlhdaaGreatDoor
open Go Go.RowKit Tide
def stepT (nx:Nat) (p:List (Int × List Int) × List (List Int)) (x:Int):List (Int × List Int) × List (List Int):=
 (p.1 ++ [(x,(p.2.getD x.toNat []).take 4)],p.2.set x.toNat ((nx:Int) :: p.2.getD x.toNat []))
def cB (nx:Nat) (all:List (List Int)) (l:List Int):List (Int × List Int) × List (List Int):=l.foldl (stepT nx) ([],all)
theorem DR (nx:Nat) (all:List (List Int)) (l:List Int) (x:Int):cB nx all (l ++ [x])=stepT nx (cB nx all l) x:=by simp[cB]
def eQ (p:Int × Value):List Value:= [.int .i64 p.1,p.2]
theorem yl:(Tryz.prog.info? 157).map (λi=>(i.zero,i.size,i.bytes))=some (some (.agg #[.int .i64 0,.slice none 0 0]),2,32):=by kernel_rfl
theorem vx (l:List (Int × Value)):(l.flatMap eQ).length=l.length * 2:=by
 induction l with
 | nil=>rfl
 | cons t l ih=>rw[List.flatMap_cons,List.length_append,ih,List.length_cons];simp[eQ];omega
theorem pK:∀ (l:List (Int × Value)) (i j:Nat) (h:i < l.length),j < 2->(l.flatMap eQ)[i * 2+j]? =(eQ l[i])[j]?
 | [],_,_,h,_=>by simp at h
 | t :: l,0,j,_,hj=>by rw[List.flatMap_cons,List.getElem?_append_left (by simp[eQ];omega)];simp
 | t :: l,i+1,j,h,hj=>by have hl:(eQ t).length=2:=rfl;rw[List.flatMap_cons,List.getElem?_append_right (by omega),hl,show(i+1) * 2+j - 2=i * 2+j by omega];exact pK l i j (by simpa using h) hj
def dJ (w:World) (lo:Nat) (v:Value) (bs:List (Int × List Int)):Prop:=
 ∃ps:List (Int × Value),w.ownsRow lo 157 2 v ps.length (ps.flatMap eQ)/\ps.length=bs.length/\∀ (i:Nat) (p:Int × Value) (b:Int × List Int),ps[i]? =some p->bs[i]? =some b->p.1=b.1/\Own w lo p.2 b.2/\∀k,v.ownBlock=some k->p.2.ownBlock≠some k
section
variable {w w':World} {lo:Nat} {v:Value} {bs:List (Int × List Int)} {F:Nat->Prop}
theorem dJ.kept (h:dJ w lo v bs) (hk:Kept F w w') (hF:∀k,F k->k < lo\/w.heap.size<=k):dJ w' lo v bs:=by
 obtain⟨ps,h1,h2,h3⟩:=h;refine⟨ps,hk.own h1 (λk e f=> ?_),h2,λi p b hp hb=>⟨(h3 i p b hp hb).1,hk.own (h3 i p b hp hb).2.1 (λk e f=> ?_),(h3 i p b hp hb).2.2⟩⟩
 · have:=h1.lt k e;have:=hF k f;omega
 · have:=(h3 i p b hp hb).2.1.lt k e;have:=hF k f;omega
theorem dJ.below (h:dJ w lo v bs) (hb:Below w.heap.size w w'):dJ w' lo v bs:=h.kept (Kept.al (F:=λ_=>False) hb) (λ_ h=>h.elim)
theorem dJ.lt (h:dJ w lo v bs) (k:Nat) (hk:v.ownBlock=some k):lo<=k/\k < w.heap.size:=by obtain⟨ps,h1,_⟩:=h;exact h1.lt k hk
theorem dJ.vj (h:dJ w lo v bs):dX w w.heap.size v bs:=by
 obtain⟨ps,h1,h2,h3⟩:=h;have hn:ps.length<=9223372036854775807:=by
  rcases h1.2 with⟨_,h0⟩|⟨g,cap,cur,_,_,_,h4,h5,_⟩
  · omega
  · unfold maxLen at h5;omega
 refine⟨ps.map eQ,⟨by simpa using hn,?_⟩,by simp[h2],λi hi=> ?_⟩
 · have h1':=h1;rcases h1.2 with⟨rfl,h0⟩|⟨g,cap,cur,rfl,h4,h5,_⟩
   · have:ps= []:=List.eq_nil_of_length_eq_zero h0;subst this;exact⟨none,0,rfl,λe=>absurd rfl e⟩
   · refine⟨some ⟨g,0,none⟩,cap,by simp,λ_=>⟨g,0,rfl,(Array.getElem?_eq_some_iff.1 h5).1,λi j e u he hu=> ?_⟩⟩;rw[List.getElem?_map]at he;obtain⟨p,hp,rfl⟩:=Option.map_eq_some_iff.1 he;have hi:=(List.getElem?_eq_some_iff.1 hp).1;have hj:j < 2:=(List.getElem?_eq_some_iff.1 hu).1;have:=World.ownsRow.cells h1' (g:=g) rfl (i * 2+j) u (by rw[pK ps i j hi hj,<-hu];congr 2;exact(List.getElem?_eq_some_iff.1 hp).2)
     rwa[show(⟨g,0,none⟩:Addr).add (i * 2+j)=⟨g,0+(i * 2+j),none⟩from by unfold Addr.add;split<;>simp_all]at this
 · have hp:ps[i]? =some ps[i]:=List.getElem?_eq_getElem (by omega);obtain⟨e,ho,_⟩:=h3 i _ _ hp (List.getElem?_eq_getElem hi);exact⟨(ps[i]'(by omega)).2,by rw[List.getElem?_map,hp,<-e];rfl,ho.row⟩
end
theorem cW.push {W w':World} {R:Nat->Prop} {g:Nat} {s:bZ} {vs:List Value} (h:cW W R g s vs) {x:Nat} (hx:x < 13) {v':Value} {m l:List Int} (hm:m=l) (ho:Own w' W.heap.size v' l) (hb:Below W.heap.size W w'):
 g < w'.heap.size/\(∃v,w'.cell? ⟨g,2+x,none⟩=some v)/\w'.frozen? ⟨g,2+x,none⟩=false/\
   Hid (cW (w'.setCell ⟨g,2+x,none⟩ v') (λk=>R k\/v'.ownBlock=some k) g { s with all:=s.all.set x m } (vs.set x v')/\Kept (λk=>k=g) W (w'.setCell ⟨g,2+x,none⟩ v')/\∀k,v'.ownBlock=some k->W.heap.size<=k):=by
 subst hm;have h':=h.below hb;obtain⟨v,_,hc,_⟩:=h'.stream hx;have hg:=h.low g h.jD;refine⟨h'.low g h'.jD,⟨v,hc⟩,h'.free _,ab ⟨h'.setRow (eW ho (Nat.zero_le _)) (λe=> ?_),(Kept.al (F:=λk=>k=g) hb).setCell (p:=⟨g,2+x,none⟩) (.inl rfl) v',λk hk=>(ho.lt k hk).1⟩⟩;have:=(ho.lt g e).1;omega
theorem Own.form {w:World} {base:Nat} {v:Value} {l:List Int} (h:Own w base v l):∃A n c,v= .slice A n c:=by
 rcases h.2 with⟨rfl,_⟩|⟨g,cap,cur,rfl,_⟩
 · exact⟨_,_,_,rfl⟩
 · exact⟨_,_,_,rfl⟩
end Go.Proofs.YtdilnodbfnlhdaaGreatDoor
namespace Go.Proofs.YtdilnodbfnlhdaaGreatDoor
open Go Go.RowKit Tide
end Go.Proofs.YtdilnodbfnlhdaaGreatDoor
namespace Go.Proofs.YtdilnodbfnlhdaaGreatDoor
open Go Go.RowKit Tide
end Go.Proofs.YtdilnodbfnlhdaaGreatDoor
namespace Go.Proofs.YtdilnodbfnlhdaaGreatDoor
open Go Go.RowKit Tide
def fF (nx:Int) (a:List Int) (j:Nat):Prop:=a.length<=4/\∀i,∀h:i < a.length,i < j->0<=a[i]/\a[i] < nx/\(0 < i->a[i] < a[i - 1]'(by omega))
def iA (nx:Int) (a:List Int):Prop:=fF nx a a.length
theorem zI {nx:Int} {a:List Int} {j:Nat} (h:j < a.length):fF nx a (j+1)<->fF nx a j/\0<=a[j]/\a[j] < nx/\(0 < j->a[j] < a[j - 1]'(by omega)):=by
 constructor
 · rintro⟨h1,h2⟩;exact⟨⟨h1,λi hi hj=>h2 i hi (by omega)⟩,h2 j h (by omega)⟩
 · rintro⟨⟨h1,h2⟩,h3⟩;refine⟨h1,λi hi hj=> ?_⟩;rcases Nat.lt_or_ge i j with hlt|hge
   · exact h2 i hi hlt
   · obtain rfl:i=j:=by omega
     exact h3
def gF (nx:Int) (bs:List (Int × List Int)):Prop:=(∀b ∈ bs,iA nx b.2)/\dt (bs.map (·.1))=true
def db (bs:List (Int × List Int)):List (List Int):=bs.foldl (λall b=>all.set b.1.toNat b.2) (List.replicate 13 [])
theorem qw (bs:List (Int × List Int)) (b:Int × List Int):db (bs ++ [b])=(db bs).set b.1.toNat b.2:=by simp[db]
theorem cW.new (w:World) (ep:Int) (nx:Nat):cW (w.alloc (jW ep nx (List.replicate 13 (.slice none 0 0)))) (λk=>k=w.heap.size) w.heap.size ⟨ep,nx,List.replicate 13 []⟩ (List.replicate 13 (.slice none 0 0)):=by
 refine⟨by simp,by simp,heap_alloc_new w _,rfl,λk h=>by rw[World.size_alloc];omega,λi v l hv hl=> ?_,λi v k hv hk=> ?_⟩
 · rw[List.getElem?_replicate]at hv hl;split at hv<;>simp_all;subst hv hl;exact World.ownsRow_nil _ _ _ 1
 · rw[List.getElem?_replicate]at hv;split at hv
   · injection hv with hv;subst hv;cases hk
   · cases hv
theorem zn (ep:Int) (nx:Nat) (bs:List (Int × List Int)) (v:Value) (B:Nat) (w:World) (hv:dX w B v bs) (hB:B<=w.heap.size) (hlen:bs.length<=20) (h0:0<=ep) (h1:ep<=1073741824) (h3:nx<=4096):
 Calls Tryz.prog 30 #[.int .i64 ep,.int .i64 (nx:Int),v] w λe w'=>Below w.heap.size w w'/\
  ((gF nx bs/\e= .returned (.tuple #[.pointer (some ⟨w.heap.size,0,none⟩),.int .i64 0])/\∃R,pv w' R w.heap.size ⟨ep,nx,db bs⟩/\∀k,R k->w.heap.size<=k)\/(¬gF nx bs/\e= .returned (.tuple #[.pointer none,.int .i64 4]))):=by
 have HV:=ab (λW (h:Below w.heap.size w W)=>(hv.below (h.mono hB)));obtain⟨hl,A,c,rfl,_⟩:=hv.form;have i1:¬ep < 0:=by omega
 have i2:¬1073741824 < ep:=by omega
 have i3:¬(nx:Int) < 0:=by omega
 have i4:¬(4096:Int) < (nx:Int):=by omega
 have HB:=ab hB;clear hv hB
 go_enter Tryz.func30,Tryz.ntmps30
 go_wp2_with fail
 have S0:=ab (cW.new w ep nx);have E0:jW ep nx (List.replicate 13 (.slice none 0 0))= .cells #[.int .i64 ep,.int .i64 nx,.slice none 0 0,.slice none 0 0,.slice none 0 0,.slice none 0 0,.slice none 0 0,.slice none 0 0,.slice none 0 0,.slice none 0 0,.slice none 0 0,.slice none 0 0,.slice none 0 0,.slice none 0 0,.slice none 0 0] 161:=rfl;rw[<-E0];clear E0;obtain⟨W1,hW1⟩:=aa (w.alloc (jW ep nx (List.replicate 13 (.slice none 0 0))));have hz1:W1.heap.size=w.heap.size+1:=by rw[<-hW1,World.size_alloc]
 have HW1:=ab (show Below w.heap.size w W1 from by rw[<-hW1];exact(Below.refl _ _).alloc (Nat.le_refl _) _);rw[hW1]at S0;have O0:=ab (Own.new W1 W1.heap.size (Nat.le_refl _) _ rfl);have B0:=ab ((Below.refl W1.heap.size W1).alloc (Nat.le_refl _) (.cells #[] 3));have HZ1:=ab hz1;rw[hz1]at O0;rw[hW1];clear hW1 hz1
 go_loopw [9,36] (λu z wr=>∃k:Nat,z= .int .i64 k/\k<=bs.length/\Hid (Own wr (w.heap.size+1) u ((bs.take k).map (·.1)))/\Hid (Below W1.heap.size W1 wr)/\Hid (∀b ∈ bs.take k,iA nx b.2)) (λ_ z _=>bs.length - (intOf z).toNat)
 case atStart=>exact⟨0,rfl,Nat.zero_le _,O0,B0,ab (by simp)⟩
 case round=>
  clear O0 B0;obtain⟨k,rfl,hk,hO,hBr,hS⟩:=hrel;have BW:=ab (HW1.out.trans (hBr.out.mono HW1.out.size));by_cases hlt:k < bs.length
  · obtain⟨_,A1,c1,e1,hcA⟩:=(HV.out wr BW.out).form;injection e1 with e1 _ e1c;subst e1 e1c;obtain⟨b,o,ux,rfl,hbB,hx0,hx1,hr1⟩:=hcA k hlt;have hr:=ab hr1;obtain⟨_,Au,cu,rfl,hcell⟩:=dn hr1;have i5:(k:Int) < (bs.length:Int):=by omega
    have HM:=ab (List.getElem_mem hlt);have HT:=ab (List.take_succ_eq_append_getElem hlt);have hlk:((bs.take k).map (·.1)).length<=20:=by rw[List.length_map,List.length_take];omega
    clear hr1 hcA;generalize bs[k]=x at *;obtain⟨st,a⟩:=x;simp only[]at hx0 hx1 hr hcell;obtain⟨wa,hwa⟩:=aa (wr.alloc (.cells #[.int .i64 st,.slice Au a.length cu] 157));have HA:=ab (show Below wr.heap.size wr wa from by rw[<-hwa];exact(Below.refl _ _).alloc (Nat.le_refl _) _);have HAZ:=ab (show wa.heap.size=wr.heap.size+1 from by rw[<-hwa,World.size_alloc]);have HA0:=ab (show wa.heap[wr.heap.size]? =some (.cells #[.int .i64 st,.slice Au a.length cu] 157 (0,0)) from by rw[<-hwa];exact heap_alloc_new wr _);have HBr1:w.heap.size+1<=wa.heap.size:=by have:=HAZ.out;have:=hBr.out.size;have:=HZ1.out;omega
    have HOA:=ab (hO.out.below HA.out);have d0:=cell_of_row _ _ 0 _ _ _ HA0.out;have d1:=cell_of_row _ _ 1 _ _ _ HA0.out
    go_wp2_with (at_builtin;refine uf rfl (.tmp 40) (.tmp 43) rfl st rfl rfl HOA.out (by omega) HBr1 ?_;intro u3 w3 h1 h2 h3;have O3:=ab h1;have F3:=ab (h2.heap HA0.out (λe=>by have:=(hO.out.lt _ e).2;omega));have B3:=ab (h3.mono (Nat.le_of_eq HZ1.out));have K3:=ab h2;have e0:=cell_of_row _ _ 0 _ _ _ F3.out;have e1:=cell_of_row _ _ 1 _ _ _ F3.out;clear h1 h2 h3)
    clear d0 d1;have R3:=ab (show Row w3 B (.slice Au a.length cu) (ay a) from hr.out.an (λb' o' hb'=>by
     have hlt1:b' < wr.heap.size:=by have:=HB.out;have:=BW.out.size;omega
     rw[K3.out.cell (p:=⟨b',o',none⟩) (by show b' < wa.heap.size;have:=HAZ.out;omega) (λe=>by have:=(hO.out.lt _ e).1;have:w.heap.size+1<=b':=this;have:=HB.out;omega)];exact HA.out.cell (p:=⟨b',o',none⟩) hlt1))
    obtain⟨_,A3,c3,e3,hc3⟩:=dn R3.out;injection e3 with e3 _ e3c;subst e3 e3c;have B9:=ab (show Below w.heap.size w w3 from HW1.out.trans ((hBr.out.trans (((HA.out).mono hBr.out.size).trans B3.out)).mono HW1.out.size))
    go_loop [12,52] (λok z=>∃j:Nat,z= .int .i64 j/\j<=a.length/\∃bk:Bool,ok= .bool bk/\Hid (bk=true<->fF nx a j)) (λ_ z=>a.length - (intOf z).toNat)
    case atStart=>
     refine⟨0,rfl,Nat.zero_le _,_,rfl,ab ?_⟩;simp only[decide_eq_true_eq];constructor
     · intro h;exact⟨by omega,λi hi h0=>absurd h0 (Nat.not_lt_zero _)⟩
     · intro h;have:=h.1;omega
    case round=>
     obtain⟨j,rfl,hj,bk,rfl,hbk⟩:=hrel;by_cases hlt2:j < a.length
     · obtain⟨ba,oa,rfl,_,hcu⟩:=hc3 j hlt2;have i6:(j:Int) < (a.length:Int):=by omega
       have HSt:=ab (zI (nx:=(nx:Int)) hlt2);cases bk with
       | false=>
         have HN:=ab (show(false=true<->fF nx a (j+1)) from⟨λh=>(by cases h),λh=>absurd (hbk.out.2 (HSt.out.1 h).1) (by simp)⟩);generalize a[j]=y at *
         go_wp2_with fail
         go_round
         case rel=>exact⟨j+1,by go_num,by omega,false,rfl,HN⟩
         case measure=>simp[intOf];omega
       | true=>
         have HOK:=ab (hbk.out.1 rfl);by_cases hz:j=0
         · subst hz;have hcu0:w3.cell? ⟨ba,oa,none⟩=some (.int .i64 a[0]):=hcu;clear hcu;generalize a[0]=y at *;by_cases g1:y < 0
           · have HN:=ab (show(false=true<->fF nx a (0+1)) from⟨λh=>(by cases h),λh=>by have:=(HSt.out.1 h).2.1;omega⟩)
             go_wp2_with fail
             go_round
             case rel=>exact⟨0+1,by go_num,by omega,false,rfl,HN⟩
             case measure=>simp[intOf];omega
           · by_cases g2:y < (nx:Int)
             · have HN:=ab (show(true=true<->fF nx a (0+1)) from⟨λ_=>HSt.out.2 ⟨HOK.out,by omega,g2,λh=>absurd h (Nat.lt_irrefl _)⟩,λ_=>rfl⟩)
               go_wp2_with fail
               go_round
               case rel=>exact⟨0+1,by go_num,by omega,true,rfl,HN⟩
               case measure=>simp[intOf];omega
             · have HN:=ab (show(false=true<->fF nx a (0+1)) from⟨λh=>(by cases h),λh=>absurd (HSt.out.1 h).2.2.1 g2⟩)
               go_wp2_with fail
               go_round
               case rel=>exact⟨0+1,by go_num,by omega,false,rfl,HN⟩
               case measure=>simp[intOf];omega
         · obtain⟨b',o',e,_,hcp⟩:=hc3 (j - 1) (by omega);injection e with e;injection e with e4 e5;subst e4 e5;generalize a[j - 1]'(by omega)=p at *;generalize a[j]=y at *;have z0:¬(j:Int)=0:=by omega
           have z1:(j:Int) - 1 < (a.length:Int):=by omega
           have z2:((j:Int) == 0)=false:=by simp;omega
           by_cases g1:y < 0
           · have HN:=ab (show(false=true<->fF nx a (j+1)) from⟨λh=>(by cases h),λh=>by have:=(HSt.out.1 h).2.1;omega⟩)
             go_wp2_with fail
             go_round
             case rel=>exact⟨j+1,by go_num,by omega,false,rfl,HN⟩
             case measure=>simp[intOf];omega
           · by_cases g2:y < (nx:Int)
             · by_cases g3:y < p
               · have HN:=ab (show(true=true<->fF nx a (j+1)) from⟨λ_=>HSt.out.2 ⟨HOK.out,by omega,g2,λ_=>g3⟩,λ_=>rfl⟩)
                 go_wp2_with fail
                 go_round
                 case rel=>exact⟨j+1,by go_num,by omega,true,rfl,HN⟩
                 case measure=>simp[intOf];omega
               · have HN:=ab (show(false=true<->fF nx a (j+1)) from⟨λh=>(by cases h),λh=>absurd ((HSt.out.1 h).2.2.2 (by omega)) g3⟩)
                 go_wp2_with fail
                 go_round
                 case rel=>exact⟨j+1,by go_num,by omega,false,rfl,HN⟩
                 case measure=>simp[intOf];omega
             · have HN:=ab (show(false=true<->fF nx a (j+1)) from⟨λh=>(by cases h),λh=>absurd (HSt.out.1 h).2.2.1 g2⟩)
               go_wp2_with fail
               go_round
               case rel=>exact⟨j+1,by go_num,by omega,false,rfl,HN⟩
               case measure=>simp[intOf];omega
     · cases bk with
       | false=>
         go_wp2_with fail
         go_ret2
         refine⟨B9.out,.inr ⟨λh=> ?_,rfl⟩⟩;have h2:=h.1 _ HM.out;have:=hbk.out.2 ⟨h2.1,λi hi _=>h2.2 i hi hi⟩;cases this
       | true=>
         have HOK:=ab (show iA nx a from by have h:=hbk.out.1 rfl;exact⟨h.1,λi hi _=>h.2 i hi (by omega)⟩);have HS2:=ab (show ∀b ∈ bs.take (k+1),iA nx b.2 from λb hb=>by
          rw[HT.out]at hb;rcases List.mem_append.1 hb with hb|hb
          · exact hS.out b hb
          · simp at hb;rw[hb];exact HOK.out)
         have O4:=ab (show Own w3 (w.heap.size+1) u3 ((bs.take (k+1)).map (·.1)) from by rw[HT.out,List.map_append];exact O3.out);have B4:=ab (show Below W1.heap.size W1 w3 from hBr.out.trans (((HA.out).mono hBr.out.size).trans B3.out))
         go_wp2_with fail
         go_roundw
         case rel=>exact⟨k+1,by go_num,by omega,O4,B4,HS2⟩
         case measure=>simp[intOf];omega
  · have ek:bs.take k=bs:=List.take_of_length_le (by omega);rw[ek]at hO hS;have CR:=ab (BV _ _ wr.heap.size wr hO.out.row);have S1:=ab (S0.out.below hBr.out);clear S0;cases hu:dt (bs.map (·.1)) with
    | false=>
      rw[hu]at CR
      go_wp2_with fail
      refine CR.out.mono ?_;rintro en w1 ⟨rfl,rfl⟩;clear CR
      go_wp2_with fail
      go_ret2
      exact⟨BW.out,.inr ⟨λh=>(by rw[h.2]at hu;cases hu),rfl⟩⟩
    | true=>
      rw[hu]at CR;have HU:=ab (mD hu);have HNO:=ab (show gF nx bs from⟨hS.out,hu⟩);clear hu ek hS
      go_wp2_with fail
      refine CR.out.mono ?_;rintro en w1 ⟨rfl,rfl⟩;clear CR;obtain⟨i0,hi,hz0,hz1,hz2⟩:=info_parts jF;have HI:=ab hi;clear hi
      go_wp2_with fail
      go_loopw [90] (λz wr=>∃k:Nat,z= .int .i64 k/\k<=bs.length/\Hid (Below w.heap.size w wr)/\Hid (∃R us,cW wr R w.heap.size ⟨ep,nx,db (bs.take k)⟩ us/\∀k,R k->w.heap.size<=k)) (λz _=>bs.length - (intOf z).toNat)
      case atStart=>exact⟨0,rfl,Nat.zero_le _,BW,ab ⟨_,_,S1.out,λk h=>by omega⟩⟩
      case round=>
       clear S1 hO hBr BW;obtain⟨k,rfl,hk,hBq,hSq⟩:=hrel;by_cases hlt:k < bs.length
       · obtain⟨_,A1,c1,e1,hcA⟩:=(HV.out wr hBq.out).form;injection e1 with e1 _ e1c;subst e1 e1c;obtain⟨b,o,ux,rfl,hbB,hx0,hx1,hr1⟩:=hcA k hlt;have hr:=ab hr1;obtain⟨_,Au,cu,rfl,_⟩:=dn hr1;have i5:(k:Int) < (bs.length:Int):=by omega
         obtain⟨hx2,hx3⟩:=HU.out _ (List.mem_map.2 ⟨_,List.getElem_mem hlt,rfl⟩);have h4:=(HNO.out.1 _ (List.getElem_mem hlt)).1;have HT:=ab (show db (bs.take (k+1))=(db (bs.take k)).set bs[k].1.toNat bs[k].2 from by rw[List.take_succ_eq_append_getElem hlt,qw]);clear hr1 hcA;generalize bs[k]=x at *;obtain⟨st,a⟩:=x;simp only[]at hx0 hx1 hr hx2 hx3 h4 HT;obtain⟨y,rfl⟩:∃y:Nat,st=(y:Int):=⟨st.toNat,by omega⟩;have hy13:y < 13:=by omega
         have i13:(y:Int) < 13:=by omega
         obtain⟨R1,us,hS1,hR1⟩:=hSq.out;have HR1:=ab hR1;obtain⟨wa,hwa⟩:=aa (wr.alloc (.cells #[.int .i64 (y:Int),.slice Au a.length cu] 157));have HA:=ab (show Below wr.heap.size wr wa from by rw[<-hwa];exact(Below.refl _ _).alloc (Nat.le_refl _) _);have HA0:=ab (show wa.heap[wr.heap.size]? =some (.cells #[.int .i64 (y:Int),.slice Au a.length cu] 157 (0,0)) from by rw[<-hwa];exact heap_alloc_new wr _);have S3:=ab (hS1.below HA.out);have hlt3:wr.heap.size < wa.heap.size:=(Array.getElem?_eq_some_iff.1 HA0.out).1;have hg3:=S3.out.low w.heap.size S3.out.jD;have d0:wa.cell? ⟨wr.heap.size,0,none⟩=some (.int .i64 (y:Int)):=cell_of_row _ _ 0 _ _ _ HA0.out;have d1:wa.cell? ⟨wr.heap.size,1,none⟩=some (.slice Au a.length cu):=cell_of_row _ _ 1 _ _ _ HA0.out;have BA:=ab ((Below.refl wa.heap.size wa).alloc (Nat.le_refl _) (.cells #[] 3)).drew;have XR:=ab ((hr.out.an (ew (HA.out.mono (Nat.le_trans HB.out hBq.out.size)))).an (ew (BA.out.mono (Nat.le_trans (Nat.le_trans HB.out hBq.out.size) HA.out.size))));have f0:(wa.alloc (.cells #[] 3)).cell? ⟨wr.heap.size,0,none⟩=some (.int .i64 (y:Int)):=by rw[World.cell?_alloc_lt wa _ ⟨wr.heap.size,0,none⟩ hlt3];exact d0
         have f1:(wa.alloc (.cells #[] 3)).cell? ⟨wr.heap.size,1,none⟩=some (.slice Au a.length cu):=by rw[World.cell?_alloc_lt wa _ ⟨wr.heap.size,1,none⟩ hlt3];exact d1
         clear hS1 hR1
         go_wp2_with fail
         go_region_law (first
          | (refine jf _ rfl (.tmp 97) (.tmp 99) _ rfl wa.heap.size 3 i0 (.int .i64 0) 8 Tryz.underlying71 HI.out hz0 hz1 hz2 rfl _ 0 [] rfl (kG wa _ _ _ _ _ _ _ rfl (Nat.le_refl _) (Nat.le_refl _) (by unfold maxLen;omega) rfl rfl) B _ (ay a) rfl XR.out (lE a) ?_ ?_ ?_ ?_;(rw[dk];unfold maxLen;omega);(rw[dk];omega);(simp);intro v4 w4 h1 h2 h3 h4;have h9:Own w4 wa.heap.size v4 a:=(by unfold Own;rw[dk,Nat.zero_add]at h1;exact h1);obtain⟨A4,n4,c4,rfl⟩:=h9.form;obtain⟨e1,⟨e2,e3⟩,e4,E4⟩:=S3.out.push hy13 rfl h9 (BA.out.trans h4);have e5:w4.cell? ⟨wr.heap.size,0,none⟩=some (.int .i64 (y:Int)):=((BA.out.trans h4).cell (p:=⟨wr.heap.size,0,none⟩) hlt3).trans d0;clear h1 h2 h3 h4 h9))
         all_goals
          have B5:=ab (show Below w.heap.size w (w4.setCell ⟨w.heap.size,2+y,none⟩ (.slice A4 n4 c4)) from Tide.Below.kept (Tide.Below.kept hBq.out (Kept.al (F:=λ_=>False) HA.out) hBq.out.size (λ_ h=>h.elim)) E4.out.2.1 (Nat.le_trans hBq.out.size HA.out.size) (λi h=>Nat.le_of_eq h.symm));have S5:=ab (show ∃R us,cW (w4.setCell ⟨w.heap.size,2+y,none⟩ (.slice A4 n4 c4)) R w.heap.size ⟨ep,nx,db (bs.take (k+1))⟩ us/\∀k,R k->w.heap.size<=k from by rw[HT.out];refine⟨_,_,E4.out.1,λk h=>h.elim (HR1.out k) (λh=> ?_)⟩;have:=E4.out.2.2 k h;omega);generalize World.setCell w4 ⟨w.heap.size,2+y,none⟩ (.slice A4 n4 c4)=w5 at *;clear e1 e2 e3 e4 e5 d0 d1 f0 f1 E4
          go_wp2_with fail
          go_roundw
          case rel=>exact⟨k+1,by go_num,by omega,B5,S5⟩
          case measure=>simp[intOf];omega
       · have ek:bs.take k=bs:=List.take_of_length_le (by omega);rw[ek]at hSq
         go_wp2_with fail
         go_ret2
         refine⟨hBq.out,.inl ⟨HNO.out,rfl,?_⟩⟩;obtain⟨R,us,h,hR⟩:=hSq.out;exact⟨R,⟨us,h⟩,hR⟩
end Go.Proofs.YtdilnodbfnlhdaaGreatDoor
namespace Go.Proofs.YtdilnodbfnlhdaaGreatDoor
open Go Go.RowKit Tide
def mI (x:Int) (l:List Int) (k:Nat) (y:Int):Prop:=(k=0->y=x)/\∀ (_:0 < k) (h:k - 1 < l.length),y=l[k - 1]
theorem sE (l:List Int) (v:Value) (B:Nat) (w:World) (hv:Row w B v (ay l)):
 Calls Tryz.prog 124 #[v] w λe w'=>e= .returned (.bool (dt l))/\w=w':=by
 obtain⟨hl,A,c,rfl,hc⟩:=dn hv;have HC:=ab hc;clear hv hc
 go_enter Tryz.func124,Tryz.ntmps124
 go_wp2_with fail
 go_loop [3,8] (λu i=>∃k:Nat,i= .int .i64 k/\k<=l.length/\∃y,u= .int .i64 y/\Hid (mI (-1) l k y)/\Hid (∀i,∀h:i < l.length,i < k->0<=l[i]/\l[i]<=12/\(0 < i->l[i - 1]'(by omega) < l[i]))) (λ_ i=>l.length - (intOf i).toNat)
 case atStart=>exact⟨0,rfl,Nat.zero_le _,_,rfl,ab ⟨λ_=>rfl,λh=>absurd h (Nat.lt_irrefl _)⟩,ab (λi h h0=>absurd h0 (Nat.not_lt_zero _))⟩
 case round=>
  obtain⟨k,rfl,hk,y,rfl,hY,hS⟩:=hrel;by_cases hlt:k < l.length
  · obtain⟨b,o,rfl,hbl,hcu⟩:=HC.out k hlt;have i1:(k:Int) < (l.length:Int):=by omega
    have HN:=ab (show ¬(0<=l[k]/\l[k]<=12/\(0 < k->l[k - 1]'(by omega) < l[k]))->dt l=false from tM hlt);have HY:=ab (show(0<=l[k]/\l[k]<=12/\(0 < k->l[k - 1]'(by omega) < l[k]))->(∀i,∀h:i < l.length,i < k+1->0<=l[i]/\l[i]<=12/\(0 < i->l[i - 1]'(by omega) < l[i])) from λh i hi h1=>by
     rcases Nat.lt_or_ge i k with h2|h2
     · exact hS.out i hi h2
     · obtain rfl:i=k:=by omega
       exact h)
    have HW:=ab (show y < l[k]<->(0<=l[k]/\(0 < k->l[k - 1]'(by omega) < l[k])) from by
     rcases Nat.eq_zero_or_pos k with rfl|h0
     · have:=hY.out.1 rfl;constructor
       · intro h;exact⟨by omega,λh=>absurd h (Nat.lt_irrefl _)⟩
       · intro h;omega
     · have e:=hY.out.2 h0 (by omega);have:=(hS.out (k - 1) (by omega) (by omega)).1;subst e;exact⟨λh=>⟨by omega,λ_=>h⟩,λh=>h.2 h0⟩)
    have HZ:=ab (show mI (-1) l (k+1) l[k]from⟨λh=>by omega,λ_ _=>rfl⟩);generalize l[k]=z at *;by_cases h1:z<=y
    · have HR:=ab (HN.out (λh=>by have:=HW.out.2 ⟨h.1,h.2.2⟩;omega))
      go_wp2_with fail
      go_ret
      exact⟨by rw[HR.out]<;>rfl,rfl⟩
    · by_cases h2:12 < z
      · have HR:=ab (HN.out (λh=>by omega))
        go_wp2_with fail
        go_ret
        exact⟨by rw[HR.out]<;>rfl,rfl⟩
      · have HR:=ab (HY.out (by have:=HW.out.1 (by omega);exact⟨this.1,by omega,this.2⟩))
        go_wp2_with fail
        go_round
        case rel=>exact⟨k+1,by go_num,by omega,_,rfl,HZ,HR⟩
        case measure=>simp[intOf];omega
  · have HR:=ab (show dt l=true from decide_eq_true (λi h=>hS.out i h (by omega)))
    go_wp2_with fail
    go_ret
    exact⟨by rw[HR.out]<;>rfl,rfl⟩
def j6 (nx:Int) (l:List Int):Bool:=decide (∀i,∀h:i < l.length,0<=l[i]/\l[i] < nx/\(0 < i->l[i] < l[i - 1]'(by omega)))
theorem rL (nx:Int) (a:List Int):iA nx a<->a.length<=4/\j6 nx a=true:=by unfold iA fF j6;rw[decide_eq_true_iff];exact⟨λh=>⟨h.1,λi hi=>h.2 i hi hi⟩,λh=>⟨h.1,λi hi _=>h.2 i hi⟩⟩
theorem D6 (nx:Int) (l:List Int) (v:Value) (B:Nat) (w:World) (hv:Row w B v (ay l)):
 Calls Tryz.prog 123 #[v,.int .i64 nx] w λe w'=>e= .returned (.bool (j6 nx l))/\w=w':=by
 obtain⟨hl,A,c,rfl,hc⟩:=dn hv;have HC:=ab hc;clear hv hc
 go_enter Tryz.func123,Tryz.ntmps123
 go_wp2_with fail
 go_loop [1,9] (λu i=>∃k:Nat,i= .int .i64 k/\k<=l.length/\∃y,u= .int .i64 y/\Hid (mI nx l k y)/\Hid (∀i,∀h:i < l.length,i < k->0<=l[i]/\l[i] < nx/\(0 < i->l[i] < l[i - 1]'(by omega)))) (λ_ i=>l.length - (intOf i).toNat)
 case atStart=>exact⟨0,rfl,Nat.zero_le _,_,rfl,ab ⟨λ_=>rfl,λh=>absurd h (Nat.lt_irrefl _)⟩,ab (λi h h0=>absurd h0 (Nat.not_lt_zero _))⟩
 case round=>
  obtain⟨k,rfl,hk,y,rfl,hY,hS⟩:=hrel;by_cases hlt:k < l.length
  · obtain⟨b,o,rfl,hbl,hcu⟩:=HC.out k hlt;have i1:(k:Int) < (l.length:Int):=by omega
    have HN:=ab (show ¬(0<=l[k]/\l[k] < nx/\(0 < k->l[k] < l[k - 1]'(by omega)))->j6 nx l=false from λhn=>decide_eq_false λe=>hn (e k hlt));have HY:=ab (show(0<=l[k]/\l[k] < nx/\(0 < k->l[k] < l[k - 1]'(by omega)))->(∀i,∀h:i < l.length,i < k+1->0<=l[i]/\l[i] < nx/\(0 < i->l[i] < l[i - 1]'(by omega))) from λh i hi h1=>by
     rcases Nat.lt_or_ge i k with h2|h2
     · exact hS.out i hi h2
     · obtain rfl:i=k:=by omega
       exact h)
    have HW:=ab (show l[k] < y<->(l[k] < nx/\(0 < k->l[k] < l[k - 1]'(by omega))) from by
     rcases Nat.eq_zero_or_pos k with rfl|h0
     · have:=hY.out.1 rfl;constructor
       · intro h;exact⟨by omega,λh=>absurd h (Nat.lt_irrefl _)⟩
       · intro h;omega
     · have e:=hY.out.2 h0 (by omega);have:=(hS.out (k - 1) (by omega) (by omega)).2.1;subst e;exact⟨λh=>⟨by omega,λ_=>h⟩,λh=>h.2 h0⟩)
    have HZ:=ab (show mI nx l (k+1) l[k]from⟨λh=>by omega,λ_ _=>rfl⟩);generalize l[k]=z at *;by_cases h1:z < 0
    · have HR:=ab (HN.out (λh=>by omega))
      go_wp2_with fail
      go_ret
      exact⟨by rw[HR.out]<;>rfl,rfl⟩
    · by_cases h2:y<=z
      · have HR:=ab (HN.out (λh=>by have:=HW.out.2 h.2;omega))
        go_wp2_with fail
        go_ret
        exact⟨by rw[HR.out]<;>rfl,rfl⟩
      · have HR:=ab (HY.out (by have:=HW.out.1 (by omega);exact⟨by omega,this.1,this.2⟩))
        go_wp2_with fail
        go_round
        case rel=>exact⟨k+1,by go_num,by omega,_,rfl,HZ,HR⟩
        case measure=>simp[intOf];omega
  · have HR:=ab (show j6 nx l=true from decide_eq_true (λi h=>hS.out i h (by omega)))
    go_wp2_with fail
    go_ret
    exact⟨by rw[HR.out]<;>rfl,rfl⟩
theorem Cc (nx:Int) (bs:List (Int × List Int)) (v:Value) (B:Nat) (w:World) (hv:dX w B v bs) (hB:B<=w.heap.size) (hlen:bs.length<=20):
 Calls Tryz.prog 64 #[v,.int .i64 nx] w λe w'=>(∃b:Bool,e= .returned (.bool b)/\(b=true<->gF nx bs))/\Below w.heap.size w w':=by
 have HV:=ab (λW (h:Below w.heap.size w W)=>(hv.below (h.mono hB)));obtain⟨hl,A,c,rfl,_⟩:=hv.form;have HB:=ab hB;have O0:=ab (show Own w w.heap.size (.slice none 0 0) []from World.ownsRow_nil _ _ _ 1);have B0:=ab (Below.refl w.heap.size w);clear hv hB
 go_enter Tryz.func64,Tryz.ntmps64
 go_wp2_with fail
 go_loopw [5,10] (λu z wr=>∃k:Nat,z= .int .i64 k/\k<=bs.length/\Hid (Own wr w.heap.size u ((bs.take k).map (·.1)))/\Hid (Below w.heap.size w wr)/\Hid (∀b ∈ bs.take k,iA nx b.2)) (λ_ z _=>bs.length - (intOf z).toNat)
 case atStart=>exact⟨0,rfl,Nat.zero_le _,O0,B0,ab (by simp)⟩
 case round=>
  clear O0 B0;obtain⟨k,rfl,hk,hO,hBr,hS⟩:=hrel;by_cases hlt:k < bs.length
  · obtain⟨_,A1,c1,e1,hcA⟩:=(HV.out wr hBr.out).form;injection e1 with e1 _ e1c;subst e1 e1c;obtain⟨b,o,ux,rfl,hbB,hx0,hx1,hr1⟩:=hcA k hlt;have hr:=ab hr1;obtain⟨_,Au,cu,rfl,_⟩:=dn hr1;have i5:(k:Int) < (bs.length:Int):=by omega
    have HM:=ab (List.getElem_mem hlt);have HT:=ab (List.take_succ_eq_append_getElem hlt);have hlk:((bs.take k).map (·.1)).length<=20:=by rw[List.length_map,List.length_take];omega
    clear hr1 hcA;generalize bs[k]=x at *;obtain⟨st,a⟩:=x;simp only[]at hx0 hx1 hr;obtain⟨wa,hwa⟩:=aa (wr.alloc (.cells #[.int .i64 st,.slice Au a.length cu] 157));have HA:=ab (show Below wr.heap.size wr wa from by rw[<-hwa];exact(Below.refl _ _).alloc (Nat.le_refl _) _);have HAZ:=ab (show wa.heap.size=wr.heap.size+1 from by rw[<-hwa,World.size_alloc]);have HA0:=ab (show wa.heap[wr.heap.size]? =some (.cells #[.int .i64 st,.slice Au a.length cu] 157 (0,0)) from by rw[<-hwa];exact heap_alloc_new wr _);have HBr1:w.heap.size<=wa.heap.size:=by have:=HAZ.out;have:=hBr.out.size;omega
    have HOA:=ab (hO.out.below HA.out);have BA:=ab (hBr.out.trans (HA.out.mono hBr.out.size));have d0:=cell_of_row _ _ 0 _ _ _ HA0.out;have d1:=cell_of_row _ _ 1 _ _ _ HA0.out;have RA:=ab (hr.out.an (ew (HA.out.mono (Nat.le_trans HB.out hBr.out.size))));have CF:=ab (D6 nx a _ B wa RA.out);by_cases h4:4 < a.length
    · have i6:(4:Int) < (a.length:Int):=by omega
      go_wp2_with fail
      go_ret
      refine⟨.inl ⟨rfl,λh=> ?_⟩,BA.out⟩;have:=(h.1 _ HM.out).1;simp only at this;omega
    · have i6:¬(4:Int) < (a.length:Int):=by omega
      cases hf:j6 nx a with
      | false=>
        rw[hf]at CF;have HNo:=ab (show ¬gF nx bs from λh=>by have:=((rL nx a).1 (h.1 _ HM.out)).2;rw[hf]at this;cases this);clear hf
        go_wp2_with fail
        refine CF.out.mono ?_;rintro en w1 ⟨rfl,rfl⟩;clear CF
        go_wp2_with fail
        go_ret
        exact⟨⟨_,rfl,⟨λh=>(by cases h),λh=>absurd h HNo.out⟩⟩,BA.out⟩
      | true=>
        rw[hf]at CF;have HS2:=ab (show ∀b ∈ bs.take (k+1),iA nx b.2 from λb hb=>by
         rw[HT.out]at hb;rcases List.mem_append.1 hb with hb|hb
         · exact hS.out b hb
         · simp at hb;rw[hb];exact(rL nx a).2 ⟨by omega,hf⟩)
        clear hf
        go_wp2_with fail
        refine CF.out.mono ?_;rintro en w1 ⟨rfl,rfl⟩;clear CF
        go_wp2_with (at_builtin;refine uf rfl (.tmp 25) (.tmp 28) rfl st rfl rfl HOA.out (by omega) HBr1 ?_;intro u3 w3 h1 h2 h3;have O3:=ab h1;have K3:=ab h2;clear h1 h2 h3)
        have O4:=ab (show Own w3 w.heap.size u3 ((bs.take (k+1)).map (·.1)) from by rw[HT.out,List.map_append];exact O3.out);have B4:=ab (show Below w.heap.size w w3 from Tide.Below.kept BA.out K3.out HBr1 (λi h=>(HOA.out.lt i h).1));clear d0 d1
        go_roundw
        case rel=>exact⟨k+1,by go_num,by omega,O4,B4,HS2⟩
        case measure=>simp[intOf];omega
  · have ek:bs.take k=bs:=List.take_of_length_le (by omega);rw[ek]at hO hS;have CR:=ab (sE _ _ wr.heap.size wr hO.out.row);have HR:=ab (show dt (bs.map (·.1))=true<->gF nx bs from⟨λh=>⟨hS.out,h⟩,λh=>h.2⟩);generalize dt (bs.map (·.1))=ub at *
    go_wp2_with fail
    refine CR.out.mono ?_;rintro en w1 ⟨rfl,rfl⟩;clear CR
    go_wp2_with fail
    go_ret
    exact⟨⟨_,rfl,HR.out⟩,hBr.out⟩
end Go.Proofs.YtdilnodbfnlhdaaGreatDoor
namespace Go.Proofs.YtdilnodbfnlhdaaGreatDoor
open Go Go.RowKit Tide
theorem tz (nx:Nat) (all:List (List Int)) (l:List Int):(cB nx all l).1.length=l.length:=by
 have:∀ (l:List Int) (p:List (Int × List Int) × List (List Int)),(l.foldl (stepT nx) p).1.length=p.1.length+l.length:=by
  intro l
  induction l with
  | nil=>intro p;rfl
  | cons x l ih=>intro p;rw[List.foldl_cons,ih];simp[stepT];omega
 simpa[cB]using this l ([],all)
theorem yZ (n:Nat) (h:n<=3):(madeCells (Value.agg #[.int .i64 0,.slice none 0 0]).cells (n * 2)).toList=(List.replicate n ((0:Int),Value.slice none 0 0)).flatMap eQ:=by rcases(show n=0\/n=1\/n=2\/n=3 by omega) with rfl|rfl|rfl|rfl<;>(simp[madeCells,Value.cells,eQ,List.replicate];try rfl)
theorem dJ.E6 {w:World} {lo m n:Nat} (h:w.ownsRow lo 157 2 (.slice (some ⟨m,0,none⟩) n n) n ((List.replicate n ((0:Int),Value.slice none 0 0)).flatMap eQ)):dJ w lo (.slice (some ⟨m,0,none⟩) n n) (List.replicate n (0, [])):=by
 refine⟨List.replicate n (0,.slice none 0 0),by simpa using h,by simp,λi p b hp hb=> ?_⟩;rw[List.getElem?_replicate]at hp hb;split at hp
 · simp_all
   subst hp hb;exact⟨rfl,World.ownsRow_nil _ _ _ 1,by simp[Value.ownBlock]⟩
 · cases hp
theorem qC:∀ (ps:List (Int × Value)) (i:Nat) (x:Int) (u:Value),i < ps.length->((ps.flatMap eQ).set (i * 2) (.int .i64 x)).set (i * 2+1) u=(ps.set i (x,u)).flatMap eQ
 | [],_,_,_,h=>by simp at h
 | p :: ps,0,x,u,_=>by simp[eQ]
 | p :: ps,i+1,x,u,h=>by
   have ih:=qC ps i x u (by simpa using h);have e1:(i+1) * 2=i * 2+1+1:=by omega
   rw[List.flatMap_cons,List.set_cons_succ,List.flatMap_cons,<-ih,e1];simp[eQ]
theorem dJ.store {w:World} {lo m n c:Nat} {bs:List (Int × List Int)} (h:dJ w lo (.slice (some ⟨m,0,none⟩) n c) bs) {i:Nat} (hi:i < bs.length) (x:Int) {u:Value} {r:List Int} (hu:Own w lo u r) (hap:u.ownBlock≠some m):
 m < w.heap.size/\(∃v,w.cell? ⟨m,i * 2,none⟩=some v)/\(∃v,w.cell? ⟨m,i * 2+1,none⟩=some v)/\w.frozen? ⟨m,i * 2,none⟩=false/\w.frozen? ⟨m,i * 2+1,none⟩=false/\
   Hid (dJ ((w.setCell ⟨m,i * 2,none⟩ (.int .i64 x)).setCell ⟨m,i * 2+1,none⟩ u) lo (.slice (some ⟨m,0,none⟩) n c) (bs.set i (x,r))/\Kept (λk=>k=m) w ((w.setCell ⟨m,i * 2,none⟩ (.int .i64 x)).setCell ⟨m,i * 2+1,none⟩ u)):=by
 obtain⟨ps,h1,h2,h3⟩:=h;rcases h1.2 with⟨e,_⟩|⟨g,cap,cur,e,hlo,hg,hnc,hcm,hcs,hx⟩
 · cases e
 injection e with e1 e2 e3;injection e1 with e1;injection e1 with e1;subst e1 e2 e3;have hin:∀j,j < cur.size->∃v,w.cell? ⟨m,j,none⟩=some v:=λj hj=>⟨cur[j],by rw[cell_of_row _ _ j _ _ _ hg];exact Array.getElem?_eq_getElem hj⟩
 have hk:Kept (λk=>k=m) w ((w.setCell ⟨m,i * 2,none⟩ (.int .i64 x)).setCell ⟨m,i * 2+1,none⟩ u):=Kept.setCell (F:=λk=>k=m) (Kept.setCell (F:=λk=>k=m) (Kept.refl _ w) (p:=⟨m,i * 2,none⟩) (.inl rfl) _) (p:=⟨m,i * 2+1,none⟩) (.inl rfl) _
 have hg2:((w.setCell ⟨m,i * 2,none⟩ (.int .i64 x)).setCell ⟨m,i * 2+1,none⟩ u).heap[m]? =some (.cells ((cur.setIfInBounds (i * 2) (.int .i64 x)).setIfInBounds (i * 2+1) u) 157 (0,0)):=
  heap_setCell_same _ _ _ _ _ _ (heap_setCell_same _ _ _ _ _ _ hg)
 refine⟨(Array.getElem?_eq_some_iff.1 hg).1,hin _ (by omega),hin _ (by omega),by simp[World.frozen?,hg],by simp[World.frozen?,hg],ab ⟨⟨ps.set i (x,u),?_,by simp[h2],λj p b hp hb=> ?_⟩,hk⟩⟩
 · rw[List.length_set];refine⟨by rw[vx,List.length_set],.inr ⟨m,c,_,rfl,hlo,hg2,hnc,hcm,by simp[hcs],?_⟩⟩;rw[<-qC ps i x u (by omega),<-hx,Array.toList_setIfInBounds,Array.toList_setIfInBounds,List.take_set,List.take_set]
 · rw[List.getElem?_set]at hp hb;by_cases e:i=j
   · simp only[e,if_true]at hp hb;split at hp<;>split at hb<;>simp_all;subst hp hb;exact⟨rfl,hk.own hu (λk hb' e'=>hap (by rw[hb',e'])),λk hk' e'=>by injection hk' with hk';subst hk';exact hap e'⟩
   · simp only[e,if_false]at hp hb;obtain⟨f1,f2,f3⟩:=h3 j p b hp hb;exact⟨f1,hk.own f2 (λk hb' e'=>f3 k (by rw[e'];rfl) hb'),f3⟩
end Go.Proofs.YtdilnodbfnlhdaaGreatDoor
