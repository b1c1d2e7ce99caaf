import Derived.Test.YtdilnodbfnlhdaaGreatDoorGTkJ
import Derived.Test.YtdilnodbfnlhdaaGreatDoorGTkD
import Derived.Test.YtdilnodbfnlhdaaGreatDoorGErr
import Derived.Deep.RegionHeld3
set_option maxRecDepth 100000
set_option maxHeartbeats 2000000
namespace Go.Proofs.YtdilnodbfnlhdaaGreatDoor
open Go Go.RowKit Tide
structure E5 (a:Nat->Addr) (W:World):Prop where
 range:W.cell? ⟨4,0,none⟩=some (ai (a 0))
 form:W.cell? ⟨2,0,none⟩=some (ai (a 3))
 sO:W.cell? ⟨9,0,none⟩=some (ai (a 7))
 full:W.cell? ⟨12,0,none⟩=some (ai (a 12))
 aF:W.cell? ⟨13,0,none⟩=some (ai (a 13))
theorem E5.iV {a:Nat->Addr} {W:World} (h:ar W a):E5 a W:=by have h0:=h.var 0 (by omega);have h3:=h.var 3 (by omega);have h7:=h.var 7 (by omega);have h12:=h.var 12 (by omega);have h13:=h.var 13 (by omega);simp only[bA,List.getD_cons_zero,List.getD_cons_succ]at h0 h3 h7 h12 h13;exact⟨h0,h3,h7,h12,h13⟩
theorem E5.below {a:Nat->Addr} {W W':World} (h:E5 a W) (hb:Below W.heap.size W W'):E5 a W':=by have hc:∀ (b:Nat) (v:Value),W.cell? ⟨b,0,none⟩=some v->W'.cell? ⟨b,0,none⟩=some v:=λb v hv=>(hb.cell (p:=⟨b,0,none⟩) (World.block_lt_of_cell? _ _ hv)).trans hv;exact⟨hc _ _ h.range,hc _ _ h.form,hc _ _ h.sO,hc _ _ h.full,hc _ _ h.aF⟩
section
variable {a:Nat->Addr} {w w':World} {g:Nat} {s:bZ}
theorem rI (h:cE w g s) (hE:E5 a w) (ep:Int):Calls Tryz.prog 21 #[.pointer (some ⟨g,0,none⟩),.int .i64 ep] w λe w'=>e= .returned (.tuple #[.int .i64 (if ep=s.ep then(s.nx:Int) else 0),if ep=s.ep then .nilIface else ai (a 7)])/\Below w.heap.size w w':=by
 obtain⟨cs,hb,hc⟩:=h;have c0:=hb.cell hc.ep;have c1:=hb.cell hc.nx;have hg:=hb.lt;have ce:=hE.sO;obtain⟨sep,nx,all⟩:=s;by_cases he:ep=sep
 · subst he;rw[if_pos rfl,if_pos rfl];clear hc hb
   go_enter Tryz.func21,Tryz.ntmps21
   go_wp2_with fail
   go_ret2
   exact⟨rfl,Below.refl _ _⟩
 · have q0:(ep == sep)=false:=by simp[he]
   have q1:(ep != sep)=true:=by simp[he]
   rw[if_neg he,if_neg he];clear he hc hb
   go_enter Tryz.func21,Tryz.ntmps21
   go_wp2_with fail
   go_quiet (fail)
   go_wp2_with fail
   go_ret2
   exact⟨rfl,below_drewN (Below.refl _ _) _⟩
theorem ve (h:cE w g s) (x:Nat) (hx:x < 13):Calls Tryz.prog 146 #[.pointer (some ⟨g,0,none⟩),.int .i64 (x:Int)] w λe w'=>∃v,e= .returned (.agg #[.int .i64 (x:Int),v])/\Own w' w.heap.size v ((s.all.getD x []).take 4)/\Below w.heap.size w w':=by
 obtain⟨cs,hb,hc⟩:=h;have hg:=hb.lt;have e:s.all[x]? =some (s.all.getD x []):=by rw[List.getD_eq_getElem?_getD,List.getElem?_eq_getElem (by rw[hc.na];exact hx)];rfl
 have B0:=ab ((Below.refl w.heap.size w).alloc (Nat.le_refl _) (.cells #[.int .i64 0,.slice none 0 0] 157));have CL:=ab (yV (hb.kept (Kept.al (F:=λ_=>False) B0.out) (λh=>h)) (hc.row x _ e));generalize s.all.getD x []=l at *;have i1:(x:Int) < 13:=by omega
 go_enter Tryz.func146,Tryz.ntmps146
 go_wp2_with fail
 refine CL.out.mono ?_;rintro en w1 ⟨v,rfl,ho,hb1⟩;obtain⟨Av,nv,cv,rfl⟩:=ho.form;have hw1:w1.heap[w.heap.size]? =some (.cells #[.int .i64 0,.slice none 0 0] 157):=by rw[hb1.block _ (by simp)];exact heap_alloc_new w _
 have d0:=cell_of_row _ _ 0 _ _ _ hw1;have d1:=cell_of_row _ _ 1 _ _ _ hw1;have f0:w1.frozen? ⟨w.heap.size,0,none⟩=false:=by simp[World.frozen?,hw1]
 have f1:w1.frozen? ⟨w.heap.size,1,none⟩=false:=by simp[World.frozen?,hw1]
 have K1:=ab (((Kept.refl (λk=>k=w.heap.size) w1).setCell (p:=⟨w.heap.size,0,none⟩) (.inl rfl) (.int .i64 (x:Int))).setCell (p:=⟨w.heap.size,1,none⟩) (.inl rfl) (.slice Av nv cv));have B2:=ab (Tide.Below.kept (B0.out.trans (hb1.mono (by simp))) K1.out (Nat.le_trans (by simp) hb1.size) (λi h=>Nat.le_of_eq h.symm));have O2:=ab (K1.out.own (eW ho (by simp:w.heap.size<=_)) (λk hk e=>by have:=(ho.lt k hk).1;rw[World.size_alloc]at this;omega));have hg1:w.heap.size < w1.heap.size:=(Array.getElem?_eq_some_iff.1 hw1).1;have hw2:((w1.setCell ⟨w.heap.size,0,none⟩ (.int .i64 (x:Int))).setCell ⟨w.heap.size,1,none⟩ (.slice Av nv cv)).heap[w.heap.size]? =some (.cells #[.int .i64 (x:Int),.slice Av nv cv] 157):=by have h1:=heap_setCell_same w1 w.heap.size 0 _ _ (.int .i64 (x:Int)) hw1;rw[heap_setCell_same _ _ _ _ _ _ h1];simp
 have e0:=cell_of_row _ _ 0 _ _ _ hw2;have e1:=cell_of_row _ _ 1 _ _ _ hw2;have e0:World.cell? _ ⟨w.heap.size,0,none⟩=some (.int .i64 (x:Int)):=e0;have e1:World.cell? _ ⟨w.heap.size,1,none⟩=some (.slice Av nv cv):=e1;clear ho hb1 CL hb hc hw1 hw2
 go_wp2_with fail
 exact bodyPost_ret (v:= .agg #[.int .i64 (x:Int),.slice Av nv cv]) (by simp[results,Tryz.results146,go_sem,e0,e1]) rfl ⟨_,rfl,O2.out,B2.out⟩
end
end Go.Proofs.YtdilnodbfnlhdaaGreatDoor
namespace Go.Proofs.YtdilnodbfnlhdaaGreatDoor
open Go Go.RowKit Tide
section
variable {a:Nat->Addr} {w w':World} {g:Nat} {s:bZ}
theorem DY (l:List Int) (v:Value) (B:Nat) (h:cE w g s) (hE:E5 a w) (hV:∀W,Kept (λk=>k=g) w W->Row W B v (ay l))
 (h1:1<=l.length) (h3:l.length<=3) (hu:dt l=true) (hn:s.nx < 4096):
 Calls Tryz.prog 107 #[.pointer (some ⟨g,0,none⟩),.int .i64 s.ep,v] w λe w'=>∃vb,e= .returned (.tuple #[.int .i64 s.nx,vb,.nilIface])/\dJ w' w.heap.size vb (cB s.nx s.all l).1/\
  cE w' g { s with nx:=s.nx+1,all:=(cB s.nx s.all l).2 }/\Kept (λk=>k=g) w w':=by
 obtain⟨hl,A,c,rfl,hc⟩:=dn (hV w (Kept.refl _ _));have hg:=h.lt;have CR:=ab (λW (hr:Row W B (.slice A l.length c) (ay l))=>(hu ▸ sE l _ B W hr));have CN:=ab (rI h hE s.ep);rw[if_pos rfl,if_pos rfl]at CN;have HT:=ab h;have HV:=ab hV;have HU:=ab (mD hu);have i1:¬(l.length:Int) < 1:=by omega
 have i3:¬(3:Int) < (l.length:Int):=by omega
 have i4:¬(s.nx:Int)=4096:=by omega
 have HN:=ab hn;obtain⟨ep,nx,all⟩:=s;simp only[]at CN i4 ⊢;clear hV hc hu hl h hE hn
 go_enter Tryz.func107,Tryz.ntmps107
 go_wp2_with fail
 refine CN.out.mono ?_;rintro en w1 ⟨rfl,hb1⟩;have R1:=ab (CR.out w1 (HV.out w1 (Kept.al hb1)));have T1:=ab (HT.out.below hb1);have K1:=ab (show Kept (λk=>k=g) w w1 from Kept.al hb1);clear hb1 CN
 go_wp2_with fail
 refine R1.out.mono ?_;rintro en w2 ⟨rfl,rfl⟩;clear R1;obtain⟨i0,hi,hz0,hz1,hz2⟩:=info_parts yl;have HI:=ab hi;have HL3:=ab h3;clear hi h3 h1
 go_wp2_with (at_make;refine wpList_make_full _ rfl _ _ 62 rfl w.heap.size 157 i0 _ 2 Tryz.underlying62 HI.out hz0 hz1 _ _ _ _ l.length rfl rfl rfl rfl (by have:=HL3.out;rw[hz2];omega) (by have:=HL3.out;unfold maxLen;omega) K1.out.size ?_;intro w2 h5 h6;have M2:=ab h5;have G2:=ab h6;clear h5 h6)
 have O0:=ab (dJ.E6 (by rw[<-yZ _ HL3.out];exact M2.out));have K2:=ab (show Kept (λk=>k=g) w w2 from K1.out.grown G2.out (λk hk=>by cases hk));have T2:=ab (show cE w2 g ⟨ep,nx,all⟩from T1.out.kept ((Kept.refl (λ_=>False) w1).grown G2.out (λk hk=>by cases hk)) (λh=>h));have hgm:=T1.out.lt;obtain⟨m,hm⟩:=aa w1.heap.size;have HM:=ab (show w.heap.size<=m from by rw[<-hm];exact K1.out.size);rw[hm]at O0 hgm;rw[hm];clear M2 G2 T1 K1 hm
 go_loopw [45] (λz wr=>∃k:Nat,z= .int .i64 k/\k<=l.length/\Hid (dJ wr w.heap.size (.slice (some ⟨m,0,none⟩) l.length l.length) ((cB nx all (l.take k)).1 ++ List.replicate (l.length - k) (0, [])))/\Hid (Kept (λk=>k=g) w wr)/\Hid (cE wr g ⟨ep,nx,(cB nx all (l.take k)).2⟩)) (λz _=>l.length - (intOf z).toNat)
 case atStart=>exact⟨0,rfl,Nat.zero_le _,O0,K2,T2⟩
 case round=>
  clear O0 K2 T2;obtain⟨k,rfl,hk,hO,hK,hT⟩:=hrel;by_cases hlt:k < l.length
  · obtain⟨_,A1,c1,e1,hcA⟩:=dn (HV.out wr hK.out);injection e1 with e1 _ e1c;subst e1 e1c;obtain⟨b,o,rfl,hbl,hcu⟩:=hcA k hlt;have i5:(k:Int) < (l.length:Int):=by omega
    obtain⟨hx0,hx1⟩:=HU.out _ (List.getElem_mem hlt);obtain⟨y,hy⟩:∃y:Nat,l[k]=(y:Int):=⟨l[k].toNat,by omega⟩;rw[hy]at hcu hx1;have hy13:y < 13:=by omega
    have i13:(y:Int) < 13:=by omega
    have hTk:cB nx all (l.take (k+1))=stepT nx (cB nx all (l.take k)) y:=by rw[take_one l k hlt,DR,hy]
    have HT1:=ab (show(cB nx all (l.take (k+1))).1 ++ List.replicate (l.length - (k+1)) (0, [])=((cB nx all (l.take k)).1 ++ List.replicate (l.length - k) (0, [])).set k ((y:Int),((cB nx all (l.take k)).2.getD y []).take 4) from by
     have e1:(cB nx all (l.take k)).1.length=k:=by have:=tz nx all (l.take k);rw[this,List.length_take];omega
     have e2:l.length - k=(l.length - (k+1))+1:=by omega
     rw[hTk,e2,List.replicate_succ];generalize (cB nx all (l.take k))=p at *;have:(stepT nx p (y:Int)).1=p.1 ++ [((y:Int),(p.2.getD y []).take 4)]:=rfl;rw[this,<-e1];simp)
    have HT2:=ab (show(cB nx all (l.take (k+1))).2=(cB nx all (l.take k)).2.set y ((nx:Int) :: (cB nx all (l.take k)).2.getD y []) from by rw[hTk];rfl);have hln:k < ((cB nx all (l.take k)).1 ++ List.replicate (l.length - k) ((0:Int),([]:List Int))).length:=by rw[List.length_append,List.length_replicate,tz,List.length_take];omega
    have HLN:=ab hln;have CB:=ab (ve hT.out y hy13);simp only[]at CB;generalize hp':cB nx all (l.take (k+1))=p' at *;have HP:=ab hp';generalize cB nx all (l.take k)=p at *;generalize hbs:p.1 ++ List.replicate (l.length - k) ((0:Int),([]:List Int))=bs at *;clear hln hx0 hy hTk hcA hbs hp'
    go_wp2_with fail
    refine CB.out.mono ?_;rintro en w3 ⟨u,rfl,ho,hb⟩;obtain⟨Au,nu,cu,rfl⟩:=ho.form;have hsz:=hK.out.size;obtain⟨s1,⟨v2,s2⟩,⟨v3,s3⟩,s4,s5,HS⟩:=(hO.out.below hb).store HLN.out (y:Int) (eW ho hsz) (λe=>by have:=(ho.lt _ e).1;have:=(hO.out.lt m rfl).2;omega);obtain⟨w4,hw4⟩:=aa ((w3.setCell ⟨m,k * 2,none⟩ (.int .i64 (y:Int))).setCell ⟨m,k * 2+1,none⟩ (.slice Au nu cu));rw[hw4]at HS;have O4:=ab (show dJ w4 w.heap.size (.slice (some ⟨m,0,none⟩) l.length l.length) (p'.1 ++ List.replicate (l.length - (k+1)) (0, [])) from by rw[HT1.out];exact HS.out.1);have K4:=ab (show Kept (λk=>k=g) w w4 from(hK.out.trans (Kept.al (F:=λk=>k=g) hb) (λk hk=> .inl hk)).trans HS.out.2 (λk hk=> .inr (by have:=HM.out;omega)));obtain⟨cs,hcs,hcc⟩:=(hT.out.below hb).kept HS.out.2 (λe=>by omega);have hrow:p.2[y]? =some (p.2.getD y []):=by rw[List.getD_eq_getElem?_getD,List.getElem?_eq_getElem (by have:=hcc.na;simp only[]at this;omega)];rfl
    have CA:=ab (uK (nx:Int) hcs (hcc.row y _ hrow));have HC:=ab hcc;clear ho hb CB hcs hcc hrow HS
    go_wp2_with fail
    refine CA.out.mono ?_;rintro en w5 ⟨rfl,hk5,cs',hcs',hoff,hr'⟩;have T5:=ab (show cE w5 g ⟨ep,nx,p'.2⟩from⟨cs',hcs',by rw[HT2.out];exact HC.out.setRow hoff hr'⟩);have K5:=ab (K4.out.trans hk5 (λk hk=> .inl hk));have O5:=ab (O4.out.kept hk5 (λk hk=> .inl (by omega)));clear hk5 hcs' hoff hr' CA s1 s2 s3 s4 s5
    go_wp2_with fail
    go_roundw
    case rel=>exact⟨k+1,by go_num,by omega,by rw[HP.out];exact O5,K5,by rw[HP.out];exact T5⟩
    case measure=>simp[intOf];omega
  · have ek:l.take k=l:=List.take_of_length_le (by omega);have e0:l.length - k=0:=by omega
    rw[ek,e0,List.replicate_zero,List.append_nil]at hO;rw[ek]at hT;obtain⟨cs,hcs,hcc⟩:=hT.out;have c1:=hcs.cell hcc.nx;have f1:=hcs.free 1;have hg1:=hcs.lt;have q1:wrap64 ((nx:Int)+1)=(nx:Int)+1:=by have:=HN.out;unfold wrap64;omega
    have q2:IntKind.i64.wrap ((nx:Int)+1)=(nx:Int)+1:=by have:=HN.out;simp[IntKind.wrap,IntKind.signed,IntKind.bits];omega
    have HF:=ab (show dJ (wr.setCell ⟨g,1,none⟩ (.int .i64 ((nx:Int)+1))) w.heap.size (.slice (some ⟨m,0,none⟩) l.length l.length) (cB nx all l).1/\cE (wr.setCell ⟨g,1,none⟩ (.int .i64 ((nx:Int)+1))) g ⟨ep,nx+1,(cB nx all l).2⟩/\Kept (λk=>k=g) w (wr.setCell ⟨g,1,none⟩ (.int .i64 ((nx:Int)+1))) from
     ⟨hO.out.kept (Kept.one wr g 1 _) (λk hk=> .inl (by omega)),hT.out.next (nx+1) _ (by omega),hK.out.trans (Kept.one wr g 1 _) (λk hk=> .inl hk)⟩)
    clear hcs hcc
    go_wp2_with fail
    go_ret3
    exact⟨_,rfl,HF.out⟩
end
end Go.Proofs.YtdilnodbfnlhdaaGreatDoor
namespace Go.Proofs.YtdilnodbfnlhdaaGreatDoor
open Go Go.RowKit Tide
theorem E2:Tryz.zeroCells128=(List.replicate 67 (.int .i64 0)).toArray:=by kernel_rfl
theorem cE.made (w:World) (ep:Int) (nx:Nat):cE (w.alloc (.cells ((Tryz.zeroCells128.setIfInBounds 0 (.int .i64 ep)).setIfInBounds 1 (.int .i64 (nx:Int))) 128)) w.heap.size ⟨ep,nx,List.replicate 13 []⟩:=by
 have e:(Tryz.zeroCells128.setIfInBounds 0 (.int .i64 ep)).setIfInBounds 1 (.int .i64 (nx:Int))=(((List.replicate 67 (Value.int .i64 0)).set 0 (.int .i64 ep)).set 1 (.int .i64 (nx:Int))).toArray:=by rw[E2];simp
 rw[e];refine⟨_,heap_alloc_new w _,⟨by simp,by simp,by simp,by simp,λx l hl=> ?_⟩⟩;rw[List.getElem?_replicate]at hl;split at hl
 · rename_i hx;injection hl with hl;subst hl;have key:∀j,2<=j->j < 67->(((List.replicate 67 (Value.int .i64 0)).set 0 (.int .i64 ep)).set 1 (.int .i64 (nx:Int)))[j]? =some (.int .i64 0):=λj h2 hj=>by rw[List.getElem?_set_ne (by omega),List.getElem?_set_ne (by omega),List.getElem?_replicate,if_pos hj]
   exact⟨0,0,0,0,key _ (by omega) (by omega),key _ (by omega) (by omega),key _ (by omega) (by omega),key _ (by omega) (by omega),key _ (by omega) (by omega),rfl⟩
 · cases hl
section
variable {a:Nat->Addr} {w w':World} {g:Nat} {s:bZ}
theorem zm (ep:Int) (nx:Nat) (bs:List (Int × List Int)) (v:Value) (B:Nat) (w:World) (hE:E5 a w) (hv:dX w B v bs) (hB:B<=w.heap.size) (hlen:bs.length<=20) (h0:0<=ep) (h1:ep<=1073741824) (h3:nx<=4096):
 Calls Tryz.prog 29 #[.int .i64 ep,.int .i64 (nx:Int),v] w λe w'=>Below w.heap.size w w'/\
  ((gF nx bs/\∃g,w.heap.size<=g/\e= .returned (.tuple #[.pointer (some ⟨g,0,none⟩),.nilIface])/\cE w' g ⟨ep,nx,db bs⟩)\/(¬gF nx bs/\e= .returned (.tuple #[.pointer none,ai (a 3)]))):=by
 have HV:=ab (λW (h:Below w.heap.size w W)=>(hv.below (h.mono hB)));have CR:=ab (Cc nx bs v B w hv hB hlen);obtain⟨hl,A,c,rfl,_⟩:=hv.form;have i1:¬ep < 0:=by omega
 have i2:¬1073741824 < ep:=by omega
 have i3:¬(nx:Int) < 0:=by omega
 have i4:¬(4096:Int) < (nx:Int):=by omega
 have HB:=ab hB;have HE:=ab hE;clear hv hB hE
 go_enter Tryz.func29,Tryz.ntmps29
 go_wp2_with fail
 refine CR.out.mono ?_;rintro en w1 ⟨⟨b,rfl,hbn⟩,hb1⟩;have B1:=ab hb1;have HBN:=ab hbn;clear hb1 hbn CR;have cf:=(HE.out.below B1.out).form;cases b with
 | false=>
   go_wp2_with fail
   go_quiet (fail)
   go_wp2_with fail
   go_ret2
   exact⟨below_drewN B1.out _,.inr ⟨λh=>absurd (HBN.out.2 h) (by simp),rfl⟩⟩
 | true=>
   clear cf
   go_wp2_with fail
   have T0:=ab (cE.made w1 ep nx);obtain⟨w2,hw2⟩:=aa (w1.alloc (.cells ((Tryz.zeroCells128.setIfInBounds 0 (.int .i64 ep)).setIfInBounds 1 (.int .i64 (nx:Int))) 128));have B2:=ab (show Below w.heap.size w w2 from by rw[<-hw2];exact B1.out.alloc B1.out.size _);have HNO:=ab (HBN.out.1 trivial);obtain⟨q,hq⟩:=aa w1.heap.size;have HQ:=ab (show w.heap.size<=q from by rw[<-hq];exact B1.out.size);rw[hw2,hq]at T0;rw[hw2,hq];clear hw2 hq HBN B1
   go_loopw [36] (λz wr=>∃k:Nat,z= .int .i64 k/\k<=bs.length/\Hid (Below w.heap.size w wr)/\Hid (cE wr q ⟨ep,nx,db (bs.take k)⟩)) (λz _=>bs.length - (intOf z).toNat)
   case atStart=>exact⟨0,rfl,Nat.zero_le _,B2,T0⟩
   case round=>
    clear T0 B2;obtain⟨k,rfl,hk,hBq,hT⟩:=hrel;by_cases hlt:k < bs.length
    · obtain⟨_,A1,c1,e1,hcA⟩:=(HV.out wr hBq.out).form;injection e1 with e1 _ e1c;subst e1 e1c;obtain⟨b,o,ux,rfl,hbB,hx0,hx1,hr1⟩:=hcA k hlt;have hr:=ab hr1;obtain⟨_,Au,cu,rfl,_⟩:=dn hr1;have i5:(k:Int) < (bs.length:Int):=by omega
      obtain⟨hx2,hx3⟩:=mD HNO.out.2 _ (List.mem_map.2 ⟨_,List.getElem_mem hlt,rfl⟩);have h4:=(HNO.out.1 _ (List.getElem_mem hlt)).1;have HT:=ab (show db (bs.take (k+1))=(db (bs.take k)).set bs[k].1.toNat bs[k].2 from by rw[List.take_succ_eq_append_getElem hlt,qw]);clear hr1 hcA;generalize bs[k]=x at *;obtain⟨st,a'⟩:=x;simp only[]at hx0 hx1 hr hx2 hx3 h4 HT;obtain⟨y,rfl⟩:∃y:Nat,st=(y:Int):=⟨st.toNat,by omega⟩;have hy13:y < 13:=by omega
      have i13:(y:Int) < 13:=by omega
      obtain⟨wa,hwa⟩:=aa (wr.alloc (.cells #[.int .i64 (y:Int),.slice Au a'.length cu] 157));have HA:=ab (show Below wr.heap.size wr wa from by rw[<-hwa];exact(Below.refl _ _).alloc (Nat.le_refl _) _);have HA0:=(show wa.heap[wr.heap.size]? =some (.cells #[.int .i64 (y:Int),.slice Au a'.length cu] 157 (0,0)) from by rw[<-hwa];exact heap_alloc_new wr _);have hlt3:wr.heap.size < wa.heap.size:=(Array.getElem?_eq_some_iff.1 HA0).1;have d0:wa.cell? ⟨wr.heap.size,0,none⟩=some (.int .i64 (y:Int)):=cell_of_row _ _ 0 _ _ _ HA0;have d1:wa.cell? ⟨wr.heap.size,1,none⟩=some (.slice Au a'.length cu):=cell_of_row _ _ 1 _ _ _ HA0;have RA:=hr.out.an (ew (HA.out.mono (Nat.le_trans HB.out hBq.out.size)));have hTl:=hT.out.lt;obtain⟨cs,hcs,hcc⟩:=hT.out.below HA.out;have hna:=hcc.na;simp only[]at hna;have CS:=ab (CZ (w:=wa.drew) a' _ B (show cD wa.drew q cs from hcs) (hcc.row y _ (List.getElem?_eq_getElem (by rw[hna];exact hy13))) (show Row wa.drew B _ _ from RA) h4);have HC:=ab hcc;have D0:=ab (And.intro d0 d1);have HLt:=ab (And.intro hlt3 hTl);clear hcs hcc RA HA0 hr d0 d1
      go_wp2_with fail
      have hd0:=D0.out
      go_region_held3 (λW=>W.cell? ⟨wr.heap.size,0,none⟩=some (.int .i64 (y:Int))/\W.cell? ⟨wr.heap.size,1,none⟩=some (.slice Au a'.length cu))
       (first|exact D0.out|exact D5.out|assumption)
       (first
         | (go_at_call 65;(with_reducible refine CS.out.mono ?_);rintro e w5 ⟨rfl,hk5,cs',hcs',hoff,hr'⟩;have D5:=ab (show w5.cell? ⟨wr.heap.size,0,none⟩=some (.int .i64 (y:Int))/\w5.cell? ⟨wr.heap.size,1,none⟩=some (.slice Au a'.length cu) from⟨(hk5.cell (p:=⟨wr.heap.size,0,none⟩) HLt.out.1 (by have:=HLt.out.2;show ¬wr.heap.size=q;omega)).trans D0.out.1,(hk5.cell (p:=⟨wr.heap.size,1,none⟩) HLt.out.1 (by have:=HLt.out.2;show ¬wr.heap.size=q;omega)).trans D0.out.2⟩)))
      have T5:=ab (show cE w5 q ⟨ep,nx,db (bs.take (k+1))⟩from⟨cs',hcs',by rw[HT.out,Int.toNat_natCast];exact HC.out.setRow hoff hr'⟩);have B5:=ab (show Below w.heap.size w w5 from Tide.Below.kept (hBq.out.trans (HA.out.mono hBq.out.size)).drew hk5 (Nat.le_trans hBq.out.size (Nat.le_of_lt hlt3)) (λi h=>by have:=HQ.out;omega));clear hk5 hcs' hoff hr' CS hd0 D0 D5
      go_wp2_with fail
      go_roundw
      case rel=>exact⟨k+1,by go_num,by omega,B5,T5⟩
      case measure=>simp[intOf];omega
    · have ek:bs.take k=bs:=List.take_of_length_le (by omega);rw[ek]at hT
      go_wp2_with fail
      go_ret2
      exact⟨hBq.out,.inl ⟨HNO.out,q,HQ.out,rfl,hT.out⟩⟩
end
end Go.Proofs.YtdilnodbfnlhdaaGreatDoor
namespace Go.Proofs.YtdilnodbfnlhdaaGreatDoor
open Go Go.RowKit Tide
open Classical in
noncomputable def eD (ep nx:Int) (bs:List (Int × List Int)):Nat:=if ep < 0\/1073741824 < ep then 14 else if nx < 0\/4096 < nx then 1 else if gF nx bs then 0 else 4
section
variable {a:Nat->Addr} {w w':World} {g:Nat} {s:bZ}
theorem zo (ep nx:Int) (bs:List (Int × List Int)) (v:Value) (B:Nat) (w:World) (hv:dX w B v bs) (hB:B<=w.heap.size) (hlen:bs.length<=20):
 Calls Tryz.prog 30 #[.int .i64 ep,.int .i64 nx,v] w λe w'=>Below w.heap.size w w'/\
  ((eD ep nx bs=0/\e= .returned (.tuple #[.pointer (some ⟨w.heap.size,0,none⟩),.int .i64 0])/\∃R,pv w' R w.heap.size ⟨ep,nx.toNat,db bs⟩/\∀k,R k->w.heap.size<=k)\/(eD ep nx bs≠0/\e= .returned (.tuple #[.pointer none,.int .i64 (eD ep nx bs:Int)]))):=by
 by_cases h1:ep < 0
 · have hk:eD ep nx bs=14:=by unfold eD;rw[if_pos (.inl h1)]
   rw[hk];obtain⟨hl,A,c,rfl,_⟩:=hv.form;clear hk hv
   go_enter Tryz.func30,Tryz.ntmps30
   go_wp2_with fail
   go_ret2
   first|exact⟨Below.refl _ _,.inr ⟨by omega,rfl⟩⟩|exact⟨Below.refl _ _,rfl⟩
 by_cases h2:1073741824 < ep
 · have hk:eD ep nx bs=14:=by unfold eD;rw[if_pos (.inr h2)]
   rw[hk];obtain⟨hl,A,c,rfl,_⟩:=hv.form;clear hk hv
   go_enter Tryz.func30,Tryz.ntmps30
   go_wp2_with fail
   go_ret2
   first|exact⟨Below.refl _ _,.inr ⟨by omega,rfl⟩⟩|exact⟨Below.refl _ _,rfl⟩
 by_cases h3:nx < 0
 · have hk:eD ep nx bs=1:=by unfold eD;rw[if_neg (by omega),if_pos (.inl h3)]
   rw[hk];obtain⟨hl,A,c,rfl,_⟩:=hv.form;clear hk hv
   go_enter Tryz.func30,Tryz.ntmps30
   go_wp2_with fail
   go_ret2
   first|exact⟨Below.refl _ _,.inr ⟨by omega,rfl⟩⟩|exact⟨Below.refl _ _,rfl⟩
 by_cases h4:4096 < nx
 · have hk:eD ep nx bs=1:=by unfold eD;rw[if_neg (by omega),if_pos (.inr h4)]
   rw[hk];obtain⟨hl,A,c,rfl,_⟩:=hv.form;clear hk hv
   go_enter Tryz.func30,Tryz.ntmps30
   go_wp2_with fail
   go_ret2
   first|exact⟨Below.refl _ _,.inr ⟨by omega,rfl⟩⟩|exact⟨Below.refl _ _,rfl⟩
 obtain⟨n,rfl⟩:∃n:Nat,nx=(n:Int):=⟨nx.toNat,by omega⟩;refine(zn ep n bs v B w hv hB hlen (by omega) (by omega) (by omega)).mono ?_;rintro e w' ⟨hb,h⟩;refine⟨hb,?_⟩;rcases h with⟨ho,h⟩|⟨ho,h⟩
 · have hk:eD ep n bs=0:=by unfold eD;rw[if_neg (by omega),if_neg (by omega),if_pos ho]
   rw[hk,Int.toNat_natCast];exact .inl ⟨rfl,h⟩
 · have hk:eD ep n bs=4:=by unfold eD;rw[if_neg (by omega),if_neg (by omega),if_neg ho]
   rw[hk];exact .inr ⟨by omega,h⟩
end
end Go.Proofs.YtdilnodbfnlhdaaGreatDoor
