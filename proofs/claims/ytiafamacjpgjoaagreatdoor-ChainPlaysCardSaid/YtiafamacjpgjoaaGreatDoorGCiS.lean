import Derived.Test.YtiafamacjpgjoaaGreatDoorGCiT
import Derived.Test.YtiafamacjpgjoaaGreatDoorGPlR
import Derived.Test.YtiafamacjpgjoaaGreatDoorGPlW
import Derived.Test.YtiafamacjpgjoaaGreatDoorGPush
import Derived.Test.YtiafamacjpgjoaaGreatDoorGSgT
import Derived.Test.YtiafamacjpgjoaaGreatDoorGUlR
import Derived.Test.YtiafamacjpgjoaaGreatDoorGMem
import Derived.Test.YtiafamacjpgjoaaGreatDoorGKeep
import Derived.Test.YtiafamacjpgjoaaGreatDoorGApp
import Derived.Deep.LoopGhost
import Derived.Deep.RegionHeld3
import Derived.Deep.RegionHeld
import Derived.Deep.DeepCutAuto
import Derived.Deep.CutBlock
import Derived.Lib.ConvBytes
import Derived.WalkSpells
set_option maxRecDepth 100000
set_option maxHeartbeats 2000000
namespace Go.Proofs.YtiafamacjpgjoaaGreatDoor
open Go Go.RowKit Tide
theorem xh (w:World) (l:List UInt8) (hl:l.length<=100000):∃v w',(convert 9 47 (.string ⟨l.toArray⟩)).run Tryz.prog w= .ok v w'/\Bytes w' w'.heap.size v l/\Below w.heap.size w w':=by
 have hs:(⟨l.toArray⟩:ByteArray).size=l.length:=by show l.toArray.size=_;simp
 have hb:Below w.heap.size w (Lib.bytesWorld w 5 ⟨l.toArray⟩):=⟨rfl,rfl,rfl,by rw[Lib.bytesWorld_size];omega,λk hk=>Lib.bytesWorld_at_old w _ _ k hk⟩;refine⟨_,_,Lib.run_convert_string_bytes w 9 47 5 ⟨l.toArray⟩ Tryz.underlying9 Tryz.underlying47 Tryz.underlying5,?_,hb⟩;have hcap:(⟨l.toArray⟩:ByteArray).size<=grownCap w (⟨l.toArray⟩:ByteArray).size 0 5:=grownCap_ge w _ _ _;have hcap2:grownCap w (⟨l.toArray⟩:ByteArray).size 0 5<=9223372036854775807:=by have:=grownCap_le_maxLen w (⟨l.toArray⟩:ByteArray).size 0 5 (by rw[hs];unfold maxLen;omega);unfold maxLen at this;exact this
 refine⟨by rw[aW];omega,some ⟨w.heap.size,0,none⟩,_,by rw[aW,hs],by rw[aW,<-hs];exact hcap,hcap2,λ_=>⟨w.heap.size,0,rfl,by rw[Lib.bytesWorld_size];omega,λj u hu=> ?_⟩⟩;have hj:j < l.length:=by
  have:=(List.getElem?_eq_some_iff.1 hu).1
  rwa[aW]at this
 rw[Nat.zero_add,Lib.bytesWorld_cell w _ _ j (by rw[hs];exact hj),<-hu,iA l j hj];simp[hj]
end Go.Proofs.YtiafamacjpgjoaaGreatDoor
namespace Go.Proofs.YtiafamacjpgjoaaGreatDoor
open Go Go.RowKit Tide
def Ej (w:World) (l:List UInt8):Nat:=grownCap w (⟨l.toArray⟩:ByteArray).size 0 5
abbrev bP (w:World) (l:List UInt8):Value:= .slice (some ⟨w.heap.size,0,none⟩) l.length (Ej w l)
def aN (w:World) (l:List UInt8):World:=Lib.bytesWorld w 5 ⟨l.toArray⟩
theorem pU (w:World) (l:List UInt8):(convert 9 47 (.string ⟨l.toArray⟩)).run Tryz.prog w= .ok (bP w l) (aN w l):=by rw[Lib.run_convert_string_bytes w 9 47 5 ⟨l.toArray⟩ Tryz.underlying9 Tryz.underlying47 Tryz.underlying5];rfl
theorem eD (w:World) (l:List UInt8) (hl:l.length<=100000):Bytes (aN w l) (aN w l).heap.size (bP w l) l/\Below w.heap.size w (aN w l)/\(∀j,(bP w l).ownBlock=some j->j=w.heap.size)/\w.heap.size < (aN w l).heap.size:=by
 obtain⟨v,w',h1,h2,h3⟩:=xh w l hl;rw[pU w l]at h1;injection h1 with h1 h4;subst h1 h4;refine⟨h2,h3,λj e=> ?_,?_⟩
 · injection e with e;exact e.symm
 · show w.heap.size < (Lib.bytesWorld w 5 ⟨l.toArray⟩).heap.size;rw[Lib.bytesWorld_size];omega
end Go.Proofs.YtiafamacjpgjoaaGreatDoor
namespace Go.Proofs.YtiafamacjpgjoaaGreatDoor
open Go Go.RowKit Tide
theorem zE (ep:Int) (cs:List (List Int)) (v:Value) (lo:Nat) (W:World) (hg:b7 W lo v cs) (hlo:lo<=W.heap.size) (gp gc gt:Nat) (ch o tz:Int)
 (h0:W.cell? ⟨gp,0,none⟩=some (.int .i64 ep)) (h1:W.cell? ⟨gp,1,none⟩=some v) (h2:W.cell? ⟨gc,0,none⟩=some (.int .i64 ch)) (h3:W.cell? ⟨gt,0,none⟩=some (.int .i64 tz)) (hl:gp < W.heap.size/\gc < W.heap.size/\gt < W.heap.size):
 Calls Tryz.prog 73 #[.int .i64 o,.pointer (some ⟨gp,0,none⟩),.pointer (some ⟨gc,0,none⟩),.pointer (some ⟨gt,0,none⟩)] W λe w'=>e= .returned (.bool (decide (tz<=dq ep cs ch o)))/\Below W.heap.size W w':=by
 obtain⟨_,A,c,rfl,_⟩:=hg.form;have CA:=ab (qA ep cs (.slice A cs.length c) ch o lo W.drew (hg.below ((Below.refl W.heap.size W).drew.mono hlo)) hlo);obtain⟨x,hx⟩:=aa (dq ep cs ch o);rw[hx]at CA ⊢;have K1:=ab (And.intro h0 (And.intro h1 (And.intro h2 h3)));have HL:=ab hl;clear hg hlo hx h0 h1 h2 h3 hl;have hd:Hid (decide (tz<=x)=decide (tz<=x)):=ab rfl;cases q:decide (tz<=x) with
 | true=>
   clear hd
   go_enter Tryz.func73,Tryz.ntmps73
   go_wp2_with fail
   go_region_held3 (λY=>Y.cell? ⟨gp,0,none⟩=some (.int .i64 ep)/\Y.cell? ⟨gp,1,none⟩=some (.slice A cs.length c)/\Y.cell? ⟨gc,0,none⟩=some (.int .i64 ch)/\Y.cell? ⟨gt,0,none⟩=some (.int .i64 tz))
    (first|exact K1.out|exact K2.out)
    (first
      | ((with_reducible refine CA.out.mono ?_);rintro en w2 ⟨rfl,hb2⟩;have HB2:=ab hb2;have K2:=ab (And.intro ((hb2.cell (p:=⟨gp,0,none⟩) HL.out.1).trans K1.out.1) (And.intro ((hb2.cell (p:=⟨gp,1,none⟩) HL.out.1).trans K1.out.2.1) (And.intro ((hb2.cell (p:=⟨gc,0,none⟩) HL.out.2.1).trans K1.out.2.2.1) ((hb2.cell (p:=⟨gt,0,none⟩) HL.out.2.2).trans K1.out.2.2.2))))))
   clear K1 K2 CA hb2
   go_wp2_with fail
   go_ret
   exact⟨rfl,(Below.refl _ _).drew.trans HB2.out⟩
 | false=>
   clear hd
   go_enter Tryz.func73,Tryz.ntmps73
   go_wp2_with fail
   go_region_held3 (λY=>Y.cell? ⟨gp,0,none⟩=some (.int .i64 ep)/\Y.cell? ⟨gp,1,none⟩=some (.slice A cs.length c)/\Y.cell? ⟨gc,0,none⟩=some (.int .i64 ch)/\Y.cell? ⟨gt,0,none⟩=some (.int .i64 tz))
    (first|exact K1.out|exact K2.out)
    (first
      | ((with_reducible refine CA.out.mono ?_);rintro en w2 ⟨rfl,hb2⟩;have HB2:=ab hb2;have K2:=ab (And.intro ((hb2.cell (p:=⟨gp,0,none⟩) HL.out.1).trans K1.out.1) (And.intro ((hb2.cell (p:=⟨gp,1,none⟩) HL.out.1).trans K1.out.2.1) (And.intro ((hb2.cell (p:=⟨gc,0,none⟩) HL.out.2.1).trans K1.out.2.2.1) ((hb2.cell (p:=⟨gt,0,none⟩) HL.out.2.2).trans K1.out.2.2.2))))))
   clear K1 K2 CA hb2
   go_wp2_with fail
   go_ret
   exact⟨rfl,(Below.refl _ _).drew.trans HB2.out⟩
theorem Dr (W:World) (n:Nat) (hn:n<=100000) (p:Nat->Bool) (gp gc gt r:Nat) (hr:r<=n) (hlo:∀i,i < r->p i=false) (hhi:∀i,r<=i->i < n->p i=true)
 (hC:∀ (W':World) (i:Nat),Below W.heap.size W W'->i < n->Calls Tryz.prog 73 #[.int .i64 (i:Int),.pointer (some ⟨gp,0,none⟩),.pointer (some ⟨gc,0,none⟩),.pointer (some ⟨gt,0,none⟩)] W' λe w'=>e= .returned (.bool (p i))/\Below W'.heap.size W' w'):
 Calls Tryz.prog 72 #[.int .i64 (n:Int),.func (.func 73) #[] #[.pointer (some ⟨gp,0,none⟩),.pointer (some ⟨gc,0,none⟩),.pointer (some ⟨gt,0,none⟩)]] W λe w'=>e= .returned (.int .i64 (r:Int))/\Below W.heap.size W w':=by
 have HC:=ab hC;have HLo:=ab hlo;have HHi:=ab hhi;clear hC hlo hhi
 go_enter Tryz.func72,Tryz.ntmps72
 go_wp2_with fail
 go_loopw [5,6] (λi j wr=>∃lo hi:Nat,i= .int .i64 lo/\j= .int .i64 hi/\lo<=r/\r<=hi/\hi<=n/\Hid (Below W.heap.size W wr)) (λi j _=>(intOf j).toNat - (intOf i).toNat)
 case atStart=>exact⟨0,n,rfl,rfl,Nat.zero_le _,hr,Nat.le_refl _,ab (Below.refl _ _)⟩
 case round=>
  obtain⟨lo,hi,rfl,rfl,h1,h2,h3,hb⟩:=hrel;by_cases hlt:lo < hi
  · have i1:(lo:Int) < (hi:Int):=by omega
    obtain⟨h,hh⟩:=aa ((lo+hi) / 2);have hh1:lo<=h/\h < hi:=by omega
    have CC:=ab (HC.out wr h hb.out (by omega));have hhI:((lo:Int)+(hi:Int)) / 2=(h:Int):=by omega
    cases hp:p h with
    | false=>
      have hrh:h < r:=by
       rcases Nat.lt_or_ge h r with hx|hx
       · exact hx
       · have:=HHi.out h hx (by omega);rw[hp]at this;cases this
      rw[hp]at CC;clear hp hh
      go_wp2_with fail
      refine CC.out.mono ?_;rintro e w1 ⟨rfl,hb1⟩;have HB1:=ab (hb.out.trans (hb1.mono hb.out.size));clear hb1 CC hhI
      go_wp2_with fail
      go_roundw
      case rel=>exact⟨h+1,hi,by go_num,rfl,by omega,h2,h3,HB1⟩
      case measure=>simp[intOf];omega
    | true=>
      have hrh:r<=h:=by
       rcases Nat.lt_or_ge h r with hx|hx
       · have:=HLo.out h hx;rw[hp]at this;cases this
       · exact hx
      rw[hp]at CC;clear hp hh
      go_wp2_with fail
      refine CC.out.mono ?_;rintro e w1 ⟨rfl,hb1⟩;have HB1:=ab (hb.out.trans (hb1.mono hb.out.size));clear hb1 CC hhI
      go_wp2_with fail
      go_roundw
      case rel=>exact⟨lo,h,rfl,rfl,h1,hrh,by omega,HB1⟩
      case measure=>simp[intOf];omega
  · obtain rfl:lo=r:=by omega
    have i1:(hi:Int)<=(lo:Int):=by omega
    have HB:=ab hb.out;clear hb
    go_wp2_with fail
    go_ret
    exact⟨rfl,HB.out⟩
theorem tf {n c tz:Nat} (hn:1<=n):db n c tz<=tz:=by unfold db;rw[Nat.div_le_iff_le_mul_add_pred (by omega)];have:tz<=n * tz:=Nat.le_mul_of_pos_left _ (by omega);omega
theorem yv (ep:Int) (cs:List (List Int)) (v:Value) (lo:Nat) (W:World) (hg:b7 W lo v cs) (hlo:lo<=W.heap.size) (ch tz:Nat) (hR:aO ep cs=true) (hch:ch < cs.length) (htz:tz<=4096):
 Calls Tryz.prog 39 #[cA ep v,.int .i64 (ch:Int),.int .i64 (tz:Int)] W λe w'=>e= .returned (.int .i64 (db cs.length ch tz:Nat))/\Below W.heap.size W w':=by
 obtain⟨_,A,c,rfl,_⟩:=hg.form;have hn:=(fh hR).2.2.1;obtain⟨W1,hW1⟩:=aa (W.alloc (.cells #[.int .i64 ep,.slice A cs.length c] 24));have z1:W1.heap.size=W.heap.size+1:=by rw[<-hW1,World.size_alloc]
 have b1:Below W.heap.size W W1:=by rw[<-hW1];exact(Below.refl W.heap.size W).alloc (Nat.le_refl _) _
 have p1:aI W1 W.heap.size 24 (.int .i64 ep) (.slice A cs.length c):=by rw[<-hW1];exact aI.new W _ _ _
 obtain⟨W2,hW2⟩:=aa (W1.alloc (.cells #[.int .i64 (ch:Int)] 3));have z2:W2.heap.size=W1.heap.size+1:=by rw[<-hW2,World.size_alloc]
 have b2:Below W1.heap.size W1 W2:=by rw[<-hW2];exact(Below.refl W1.heap.size W1).alloc (Nat.le_refl _) _
 have p2:W2.heap[W1.heap.size]? =some (.cells #[.int .i64 (ch:Int)] 3 (0,0)):=by rw[<-hW2];exact heap_alloc_new W1 _
 obtain⟨W3,hW3⟩:=aa (W2.alloc (.cells #[.int .i64 (tz:Int)] 3));have z3:W3.heap.size=W2.heap.size+1:=by rw[<-hW3,World.size_alloc]
 have b3:Below W2.heap.size W2 W3:=by rw[<-hW3];exact(Below.refl W2.heap.size W2).alloc (Nat.le_refl _) _
 have p3:W3.heap[W2.heap.size]? =some (.cells #[.int .i64 (tz:Int)] 3 (0,0)):=by rw[<-hW3];exact heap_alloc_new W2 _
 have b13:Below W1.heap.size W1 W3:=b2.trans (b3.mono b2.size);have b03:Below W.heap.size W W3:=b1.trans (b13.mono b1.size);obtain⟨_,q0,q1,_⟩:=(p1.below b13 p1.lt).facts;have q2:W3.cell? ⟨W1.heap.size,0,none⟩=some (.int .i64 (ch:Int)):=(b3.cell (p:=⟨W1.heap.size,0,none⟩) (show W1.heap.size < W2.heap.size by omega)).trans (cell_of_row _ _ 0 _ _ _ p2);have q3:W3.cell? ⟨W2.heap.size,0,none⟩=some (.int .i64 (tz:Int)):=cell_of_row _ _ 0 _ _ _ p3;have hN:(((4096:Nat):Int))=4096:=rfl;have CS:=Dr W3 4096 (by decide) (λi=>decide ((tz:Int)<=dq ep cs ch i)) W.heap.size W1.heap.size W2.heap.size (db cs.length ch tz) (Nat.le_trans (tf hn) htz) (λi hi=>by
  have hst:=oP (n:=cs.length) (c:=ch) (tz:=tz) (by omega) (o:=i) (by omega);have:i * cs.length+ch < tz:=Classical.byContradiction λh=>by have:=hst.2 h;omega
  have h4:i<=4096:=by have:=tf (c:=ch) (tz:=tz) hn;omega
  have hx:((i * cs.length:Nat):Int)=(i:Int) * (cs.length:Int):=Int.natCast_mul _ _;refine decide_eq_false ?_;unfold dq;rw[if_pos ⟨hR,by omega,by omega,by omega,by omega⟩];omega) (λi hi h4=>by
  have hst:=oP (n:=cs.length) (c:=ch) (tz:=tz) (by omega) (o:=db cs.length ch tz) (Nat.le_refl _);have h1:¬(db cs.length ch tz) * cs.length+ch < tz:=λh=>by have:=hst.1 h;omega
  have h2:(db cs.length ch tz) * cs.length<=i * cs.length:=Nat.mul_le_mul_right _ hi;have hx:((i * cs.length:Nat):Int)=(i:Int) * (cs.length:Int):=Int.natCast_mul _ _;refine decide_eq_true ?_;unfold dq;rw[if_pos ⟨hR,by omega,by omega,by omega,by omega⟩]
  omega) (λW' i hb hi=>zE ep cs _ lo W' (hg.below ((b03.trans (hb.mono b03.size)).mono hlo)) (Nat.le_trans hlo (b03.trans (hb.mono b03.size)).size) _ _ _ ch i tz
   ((hb.cell (p:=⟨W.heap.size,0,none⟩) (show W.heap.size < W3.heap.size by omega)).trans q0) ((hb.cell (p:=⟨W.heap.size,1,none⟩) (show W.heap.size < W3.heap.size by omega)).trans q1)
   ((hb.cell (p:=⟨W1.heap.size,0,none⟩) (show W1.heap.size < W3.heap.size by omega)).trans q2) ((hb.cell (p:=⟨W2.heap.size,0,none⟩) (show W2.heap.size < W3.heap.size by omega)).trans q3)
   (by have:=hb.size;omega))
 rw[hN]at CS;have CS:=ab CS;have HB:=ab b03;obtain⟨O,hO⟩:=aa (db cs.length ch tz);rw[hO]at CS ⊢;have hmf:∀ (fn:Fn) (first cap:Array Value) (w:World),(Instr.makeFunc fn first cap).run Tryz.prog w= .ok (.func fn first cap) w:=λ_ _ _ _=>rfl;clear hg hR hch htz hn z1 z2 z3 b1 b2 b3 p1 p2 p3 b13 b03 q0 q1 q2 q3 hN hO
 go_enter Tryz.func39,Tryz.ntmps39
 go_wp2_with fail
 refine CS.out.mono ?_;rintro e w1 ⟨rfl,hb⟩;have HB1:=ab (HB.out.trans (hb.mono HB.out.size));clear hb CS hW1 hW2 hW3
 go_wp2_with fail
 go_ret
 exact⟨rfl,HB1.out⟩
section
variable {D:aB} {a x:Nat->Addr} {w W W':World} {lo:Nat->Prop} {m N M:Nat} {g:Nat->Nat} {H:Nat->Nat->Prop} {us us':Nat->ah} {up:Nat->Bool} {v vp:Value} {cs:List (List Int)}
def iy (up:Nat->Bool) (ep own:Int) (us:Nat->ah) (n:Int):(Nat->ah) × Nat:=if aL up n=false then(us,12) else(bZ us n.toNat (bS (us n.toNat) ep own).1,(bS (us n.toNat) ep own).2)
theorem xD (hD:ay (three a) D) (hE:av w a) (h:cZ D w W lo g H m us up v vp cs N) (hN:N<=90000) (ep n own:Int):
 Calls Tryz.prog 40 #[v,.int .i64 ep,.int .i64 n,.int .i64 own] W λe w'=>∃x,e= .returned x/\bE a x (iy up ep own us n).2/\aH D w W g H m 128 (N+1) (iy up ep own us n).1 w':=by
 have HD:=ab hD;have HC:=ab h;obtain⟨b0,o0,c0,rfl,_,hrow6⟩:=fD h.dx.1 (h.rows W (Kept.refl _ _));clear hrow6;unfold iy;cases hu:aL up n with
 | false=>
   have CU:=ab (up_down hE h hu);rw[if_pos rfl];clear hu h hD hE
   go_enter Tryz.func40,Tryz.ntmps40
   go_wp2_with fail
   refine CU.out.mono ?_;rintro e w1 ⟨rfl,hb⟩;have HB:=ab hb;clear hb CU
   go_wp2_with fail
   go_ret
   exact⟨_,rfl,bL a 11 (by decide),(aH.refl HD.out HC.out.aX HB.out).mono (Nat.le_succ _)⟩
 | true=>
   obtain⟨i,rfl,hi,_⟩:=lG h.dx hu;have CU:=ab (nn hE h hu);have CT:=ab (λ(W1:World) (hb:Below W.heap.size W W1)=>((h.below hD hb).aX.un i hi).trim hD hE (by decide) hN ep own);rw[if_neg (by decide),Int.toNat_natCast];obtain⟨r,hr⟩:=aa (bS (us i) ep own);rw[hr]at CT ⊢;have HI:=ab hi;clear hu h hD hE hr hi
   go_enter Tryz.func40,Tryz.ntmps40
   go_wp2_with fail
   refine CU.out.mono ?_;rintro e w1 ⟨rfl,hb⟩;have HB:=ab hb;have C1:=ab (CT.out w1 hb);clear hb CU CT
   go_wp2_with fail
   refine C1.out.mono ?_;rintro e w2 ⟨x2,rfl,hx,hst⟩;have HX:=ab hx;have HS:=ab (aH.after HB.out ((HC.out.aX.below HD.out HB.out).step HD.out HI.out hst));clear hx hst C1
   go_wp2_with fail
   go_ret
   exact⟨_,rfl,HX.out,HS.out⟩
end
end Go.Proofs.YtiafamacjpgjoaaGreatDoor
namespace Go.Proofs.YtiafamacjpgjoaaGreatDoor
open Go Go.RowKit Tide
theorem Ei (up:Nat->Bool) (ep own:Int) (us:Nat->ah) (n:Int) (l:List Int):dU up ep own us (n :: l)=if(iy up ep own us n).2≠0 then iy up ep own us n else dU up ep own (iy up ep own us n).1 l:=by
 rw[pS];unfold iy;cases hu:aL up n with
 | false=>rw[if_pos rfl,if_pos rfl];exact(if_pos (show(12:Nat)≠0 by decide)).symm
 | true=>
   have h:¬(true=false):=by decide
   rw[if_neg h,if_neg h]
section
variable {D:aB} {a x:Nat->Addr} {w W W':World} {lo:Nat->Prop} {m N M:Nat} {g:Nat->Nat} {H:Nat->Nat->Prop} {us us':Nat->ah} {up:Nat->Bool} {v vp:Value} {cs:List (List Int)}
theorem xw (hD:ay (three a) D) (hE:av w a) (h:cZ D w W lo g H m us up v vp cs N) (hN:N+10<=90000) (ep tq:Int):
 Calls Tryz.prog 13 #[v,cA ep vp,.int .i64 tq] W λe w'=>∃x,e= .returned x/\bE a x (dS up ep cs tq us).2/\aH D w W g H m 128 (N+10) (dS up ep cs tq us).1 w':=by
 obtain⟨A,c,rfl,hcl⟩:=h.bQ.form;obtain⟨b0,o0,c0,rfl,_,hrow6⟩:=fD h.dx.1 (h.rows W (Kept.refl _ _));clear hrow6 hcl;obtain⟨W0,hW0⟩:=aa (W.alloc (.cells #[.int .i64 ep,.slice A cs.length c] 24));have B0:=ab (show Below W.heap.size W W0 from by rw[<-hW0];exact(Below.refl W.heap.size W).alloc (Nat.le_refl _) _);have P0:=ab (show aI W0 W.heap.size 24 (.int .i64 ep) (.slice A cs.length c) from by rw[<-hW0];exact aI.new W _ _ _);have HD:=ab hD;have HE:=ab hE;have HC:=ab (h.below hD B0.out);have HHl:=ab h.aX.lt;have CR:=ab (kF ep cs (.slice A cs.length c) W0.heap.size W0 HC.out.bQ.bQ (Nat.le_refl _));obtain⟨_,p0,p1,_⟩:=P0.out.facts;have HS0:=ab (λ(W1:World) (hb:Below W0.heap.size W0 W1)=>show aH D w W g H m 128 (N+10) us W1 from aH.after B0.out ((aH.refl HD.out HC.out.aX hb).mono (show N<=N+10 by omega)));have HE2:=ab (λ(W1:World) (hb:Below W0.heap.size W0 W1)=>(HC.out.below HD.out hb).eR HE.out);have HP:=ab (λh=> @fh ep cs h);clear h hD hE;cases hr:aO ep cs with
 | false=>
   have hx:=ab (show dS up ep cs tq us=(us,4) by unfold dS;rw[if_pos hr]);rw[hr]at CR;clear hr HP
   go_enter Tryz.func13,Tryz.ntmps13
   go_wp2_with fail
   refine CR.out.mono ?_;rintro en w1 ⟨rfl,hb⟩;have HB:=ab hb;have e3:w1.cell? ⟨1,0,none⟩=some (ao (a 3)):=(HE2.out w1 hb).var 3 (by decide);clear hb CR
   go_wp2_with fail
   go_ret
   exact⟨_,rfl,by rw[hx.out];exact bL a 3 (by decide),by rw[hx.out];exact HS0.out _ HB.out⟩
 | true=>
   have HR:=ab hr;have hp:=HP.out hr;have n1:=hp.2.2.1;have n3:=hp.2.2.2.1;have HIn:=ab hp.2.2.2.2.1;rw[hr]at CR;clear hr HP hp;cases q0:decide (tq < 0) with
   | true=>
     have hx:=ab (show dS up ep cs tq us=(us,1) by unfold dS;rw[if_neg (by rw[HR.out];decide),if_pos (.inl (by simpa using q0))])
     go_enter Tryz.func13,Tryz.ntmps13
     go_wp2_with fail
     refine CR.out.mono ?_;rintro en w1 ⟨rfl,hb⟩;have HB:=ab hb;have e3:w1.cell? ⟨2,0,none⟩=some (ao (a 0)):=(HE2.out w1 hb).var 0 (by decide);clear hb CR
     go_wp2_with fail
     go_ret
     exact⟨_,rfl,by rw[hx.out];exact bL a 0 (by decide),by rw[hx.out];exact HS0.out _ HB.out⟩
   | false=>
   cases q1:decide (4096 < tq) with
   | true=>
     have hx:=ab (show dS up ep cs tq us=(us,1) by unfold dS;rw[if_neg (by rw[HR.out];decide),if_pos (.inr (by simpa using q1))])
     go_enter Tryz.func13,Tryz.ntmps13
     go_wp2_with fail
     refine CR.out.mono ?_;rintro en w1 ⟨rfl,hb⟩;have HB:=ab hb;have e3:w1.cell? ⟨2,0,none⟩=some (ao (a 0)):=(HE2.out w1 hb).var 0 (by decide);clear hb CR
     go_wp2_with fail
     go_ret
     exact⟨_,rfl,by rw[hx.out];exact bL a 0 (by decide),by rw[hx.out];exact HS0.out _ HB.out⟩
   | false=>
     obtain⟨tz,rfl⟩:∃tz:Nat,tq=(tz:Int):=⟨tq.toNat,by simp at q0;omega⟩;have hto:tz<=4096:=by simp at q1;omega
     obtain⟨R,hR⟩:=aa (iz up ep cs.length tz us 0 cs);have hx:=ab (show dS up ep cs (tz:Int) us=R by unfold dS;rw[if_neg (by rw[HR.out];decide),if_neg (by omega),Int.toNat_natCast,hR]);have HRx:=ab hR;clear hR
     go_enter Tryz.func13,Tryz.ntmps13
     go_wp2_with fail
     refine CR.out.mono ?_;rintro en w1 ⟨rfl,hb⟩;have HB:=ab hb;obtain⟨hpl,p0,p1,_⟩:=(P0.out.below hb P0.out.lt).facts;have HPl:=ab hpl;have HP0:=ab (And.intro p0 p1);have HC1:=ab (HC.out.below HD.out HB.out);have HFr:=ab (show ¬bX m H W.heap.size from λhk=>by have:=(HHl.out _ hk).2;omega);clear hb CR hW0 HE2;obtain⟨L0,hL0⟩:∃N,cs.length=N:=⟨_,rfl⟩;have HL0:=ab hL0;have HRow:=ab (λ(k:Nat) (hk:k < cs.length)=>(show ∃b o A2 c2,A=some ⟨b,o,none⟩/\(b < w1.heap.size/\lo b)/\w1.cell? ⟨b,o+k,none⟩=some (.slice A2 cs[k].length c2)/\aS w1 lo (.slice A2 cs[k].length c2) (az cs[k]) from by obtain⟨A',c',e,hcl⟩:=HC1.out.bQ.rV;injection e with e1 e2 e3;subst e1;obtain⟨b,o,u,e,hb,hbS,hcu,hrow⟩:=hcl k hk;obtain⟨_,A2,c2,rfl,_⟩:=cF hrow.1;exact⟨b,o,A2,c2,e,⟨hb,hbS⟩,hcu,hrow⟩));have HS1:=ab (show aH D w w1 g H m 128 (N+3 * 0) us w1 from aH.refl HD.out HC1.out.aX (Below.refl _ _));have HGr:=ab (λ(wr:World) (us1:Nat->ah) (M:Nat) (hs:aH D w w1 g H m 128 M us1 wr)=>(show wr.cell? ⟨W.heap.size,0,none⟩=some (.int .i64 ep)/\wr.cell? ⟨W.heap.size,1,none⟩=some (.slice A L0 c) from by obtain⟨_,_,_,g3⟩:=hs;refine⟨(g3.cell (p:=⟨W.heap.size,0,none⟩) HPl.out HFr.out).trans HP0.out.1,?_⟩;rw[<-HL0.out];exact(g3.cell (p:=⟨W.heap.size,1,none⟩) HPl.out HFr.out).trans HP0.out.2));have CK:=ab (λ(wr:World) (us1:Nat->ah) (M k:Nat) (hs:aH D w w1 g H m 128 M us1 wr) (hk:k < cs.length)=>(show Calls Tryz.prog 39 #[cA ep (.slice A L0 c),.int .i64 (k:Int),.int .i64 (tz:Int)] wr λe w'=>e= .returned (.int .i64 (db L0 k tz:Nat))/\Below wr.heap.size wr w' from by obtain⟨H',hC',_,_⟩:=HC1.out.step hs;rw[<-HL0.out];exact yv ep cs _ wr.heap.size wr hC'.bQ.bQ (Nat.le_refl _) k tz HR.out hk hto));have CT:=ab (λ(wr:World) (us1:Nat->ah) (M:Nat) (n own:Int) (hM:M<=90000) (hs:aH D w w1 g H m 128 M us1 wr)=>(show Calls Tryz.prog 40 #[.slice (some ⟨b0,o0,none⟩) m c0,.int .i64 ep,.int .i64 n,.int .i64 own] wr λe w'=>∃x,e= .returned x/\bE a x (iy up ep own us1 n).2/\aH D w w1 g H m 128 (M+1) (iy up ep own us1 n).1 w' from by obtain⟨H',hC',g2,g3⟩:=HC1.out.step hs;refine(xD HD.out HE.out hC' hM ep n own).mono ?_;rintro e w' ⟨x,h1,h2,h3⟩;exact⟨x,h1,h2,aH.trans g2 g3 h3⟩));rw[hL0]at n1 n3 HRx p1 ⊢;clear hL0
     go_wp2_with fail
     clear p0 p1
     go_loopw [27] (λi wr=>∃ (k:Nat) (us1:Nat->ah),i= .int .i64 k/\k<=L0/\Hid (iz up ep L0 tz us1 k (cs.drop k)=R)/\Hid (aH D w w1 g H m 128 (N+3 * k) us1 wr)) (λi _=>L0 - (intOf i).toNat)
     case atStart=>exact⟨0,us,rfl,Nat.zero_le _,HRx,HS1⟩
     case round=>
      obtain⟨k,us1,rfl,hk,hf,hs⟩:=hrel;by_cases hlt:k < L0
      · have hlc:k < cs.length:=by rw[HL0.out];exact hlt
        obtain⟨b1,o1,A2,c2,rfl,hb1,hcu,hrow⟩:=HRow.out k hlc;have hd:cs.drop k=cs[k] :: cs.drop (k+1):=List.drop_eq_getElem_cons hlc;have hfo:=hf.out;rw[hd,uP]at hfo;have HIk:=ab (HIn.out _ (List.getElem_mem hlc));obtain⟨l,hl⟩:=aa (cs[k]);rw[hl]at hfo hcu hrow HIk;obtain⟨L,hL⟩:=aa l.length;rw[hL]at hcu;have hL3:L<=3:=by rw[<-hL];exact HIk.out.2
        have HL:=ab hL;have CK1:=CK.out wr us1 _ k hs.out hlc;obtain⟨OC,hOC⟩:∃x,db L0 k tz=x:=⟨_,rfl⟩;rw[hOC]at hfo CK1;have CK1:=ab CK1;obtain⟨T,hT⟩:=aa (dU up ep OC us1 l);rw[hT]at hfo;have HT:=ab hT;have HFo:=ab hfo;have HRw:=ab hrow;have hcw:wr.cell? ⟨b1,o1+k,none⟩=some (.slice A2 L c2):=by obtain⟨_,_,_,g3⟩:=hs.out;exact(g3.cell (p:=⟨b1,o1+k,none⟩) hb1.1 (λe=>HC1.out.bK _ e hb1.2)).trans hcu
        obtain⟨p0,p1⟩:=HGr.out wr us1 _ hs.out;have i1:(k:Int) < (L0:Int):=by omega
        clear hd hl hL hrow hcu hOC hf hT hfo
        go_wp2_with fail
        refine CK1.out.mono ?_;rintro en w2 ⟨rfl,hb2⟩;have HS2:=ab (show aH D w w1 g H m 128 (N+3 * k+0) us1 w2 from by obtain⟨H',g1,g2,g3⟩:=hs.out;exact aH.trans g2 g3 (aH.refl HD.out g1 hb2));clear CK1 hb2 hcw p0 p1
        go_wp2_with fail
        go_loopw [38] (λi wx=>∃ (j:Nat) (us2:Nat->ah),i= .int .i64 j/\j<=L/\Hid (dU up ep OC us2 (l.drop j)=T)/\Hid (aH D w w1 g H m 128 (N+3 * k+j) us2 wx)) (λi _=>L - (intOf i).toNat)
        case atStart=>exact⟨0,us1,rfl,Nat.zero_le _,HT,HS2⟩
        case round=>
         clear hs;obtain⟨j,us2,rfl,hj,hf,hs⟩:=hrel;by_cases hjl:j < L
         · have hjc:j < l.length:=by rw[HL.out];exact hjl
           have hd:l.drop j=l[j] :: l.drop (j+1):=List.drop_eq_getElem_cons hjc;have hfo:=hf.out;rw[hd,Ei]at hfo;obtain⟨A3,c3,e3,hcu⟩:=HRw.out.ints;injection e3 with e31 e32 e33;subst e31 e33;obtain⟨b2,o2,rfl,hb2,hbS2,hcj⟩:=hcu j hjc;have hcj:wr.cell? ⟨b2,o2+j,none⟩=some (.int .i64 l[j]):=by obtain⟨_,_,_,g3⟩:=hs.out;exact(g3.cell (p:=⟨b2,o2+j,none⟩) hb2 (λe=>HC1.out.bK _ e hbS2)).trans hcj
           obtain⟨n,hn⟩:=aa (l[j]);rw[hn]at hfo hcj;obtain⟨p0,p1⟩:=HGr.out wr us2 _ hs.out;have CT1:=CT.out wr us2 _ n (OC:Int) (by omega) hs.out;obtain⟨r,hr⟩:=aa (iy up ep (OC:Int) us2 n);rw[hr]at CT1 hfo;have CT1:=ab CT1;have i2:(j:Int) < (L:Int):=by omega
           have HFf:=ab hfo;clear hfo hd hcu hn hf hr;by_cases hr0:r.2=0
           · have hT2:=HFf.out;rw[if_neg (by rw[hr0];decide)]at hT2;have HT2:=ab hT2;have HR0:=ab hr0;clear hT2 hr0 hs
             go_wp2_with fail
             refine CT1.out.mono ?_;rintro en w3 ⟨x3,rfl,hx3,hs3⟩;obtain rfl:=gN hx3 HR0.out;have HS3:=ab (show aH D w w1 g H m 128 (N+3 * k+(j+1)) r.1 w3 from hs3);clear CT1 hx3 hs3 hcj p0 p1
             go_wp2_with fail
             go_roundw
             case rel=>exact⟨j+1,_,by go_num,by omega,HT2,HS3⟩
             case measure=>simp[intOf];omega
           · have hT2:=HFf.out;rw[if_pos hr0]at hT2;have hRx:=HFo.out;rw[<-hT2,if_pos hr0]at hRx;have HRr:=ab hRx;have HR0:=ab hr0;clear hT2 hr0 hRx hs
             go_wp2_with fail
             refine CT1.out.mono ?_;rintro en w3 ⟨x3,rfl,hx3,hs3⟩;obtain⟨ad,rfl⟩:=fK hx3 HR0.out;have HX3:=ab hx3;have HS3:=ab (aH.after (B0.out.trans (HB.out.mono B0.out.size)) (hs3.mono (show N+3 * k+j+1<=N+10 by omega)));clear CT1 hx3 hs3 hcj p0 p1
             go_wp2_with fail
             go_ret
             exact⟨_,rfl,by rw[hx.out,<-HRr.out];exact HX3.out,by rw[hx.out,<-HRr.out];exact HS3.out⟩
         · have hje:j=L:=by omega
           have hT2:(us2,0)=T:=by rw[<-hf.out,hje,<-HL.out,List.drop_length];rfl
           have HR2:=ab (show iz up ep L0 tz us2 (k+1) (cs.drop (k+1))=R by have:=HFo.out;rw[<-hT2,if_neg (show ¬(0:Nat)≠0 by decide)]at this;exact this);have HS3:=ab (show aH D w w1 g H m 128 (N+3 * (k+1)) us2 wr from hs.out.mono (by omega));have i2:(L:Int)<=(j:Int):=by omega
           clear hT2 hje hf hs
           go_wp2_with fail
           go_roundw
           case rel=>exact⟨k+1,us2,by go_num,by omega,HR2,HS3⟩
           case measure=>simp[intOf];omega
      · have hke:k=L0:=by omega
        have hRx:=ab (show R=(us1,0) by rw[<-hf.out,hke,<-HL0.out,List.drop_length];rfl);have HS3:=ab (aH.after (B0.out.trans (HB.out.mono B0.out.size)) (hs.out.mono (show N+3 * k<=N+10 by omega)));have i2:(L0:Int)<=(k:Int):=by omega
        clear hke hf hs
        go_wp2_with fail
        go_ret
        exact⟨_,rfl,by rw[hx.out,hRx.out];exact fw a,by rw[hx.out,hRx.out];exact HS3.out⟩
end
end Go.Proofs.YtiafamacjpgjoaaGreatDoor
namespace Go.Proofs.YtiafamacjpgjoaaGreatDoor
open Go Go.RowKit Tide
section
variable {D:aB} {a x:Nat->Addr} {w W W':World} {lo:Nat->Prop} {m N M:Nat} {g:Nat->Nat} {H:Nat->Nat->Prop} {us us':Nat->ah} {up:Nat->Bool} {v vp:Value} {cs:List (List Int)}
theorem xv (hD:ay (three a) D) (hE:av w a) (h:cZ D w W lo g H m us up v vp cs N) (hN:N<=90000) (ep:Int):
 Calls Tryz.prog 27 #[v,cA ep vp] W λe w'=>∃x,e= .returned (.tuple #[.int .i64 (eW up ep cs us).1,x])/\bE a x (eW up ep cs us).2/\Below W.heap.size W w':=by
 obtain⟨A,c,rfl,hcl⟩:=h.bQ.form;obtain⟨b0,o0,c0,rfl,_,hrow6⟩:=fD h.dx.1 (h.rows W (Kept.refl _ _));clear hrow6 hcl;obtain⟨W0,hW0⟩:=aa (W.alloc (.cells #[.int .i64 ep,.slice A cs.length c] 24));have B0:=ab (show Below W.heap.size W W0 from by rw[<-hW0];exact(Below.refl W.heap.size W).alloc (Nat.le_refl _) _);have P0:=ab (show aI W0 W.heap.size 24 (.int .i64 ep) (.slice A cs.length c) from by rw[<-hW0];exact aI.new W _ _ _);have HD:=ab hD;have HE:=ab hE;have HC:=ab (h.below hD B0.out);have CR:=ab (kF ep cs (.slice A cs.length c) W0.heap.size W0 HC.out.bQ.bQ (Nat.le_refl _));obtain⟨_,p0,p1,_⟩:=P0.out.facts;have HE2:=ab (λ(W1:World) (hb:Below W0.heap.size W0 W1)=>(HC.out.below HD.out hb).eR HE.out);have HP:=ab (λh=> @fh ep cs h);clear h hD hE;cases hr:aO ep cs with
 | false=>
   have hx:=ab (show eW up ep cs us=(0,4) by unfold eW;rw[if_pos hr]);rw[hr]at CR;clear hr HP
   go_enter Tryz.func27,Tryz.ntmps27
   go_wp2_with fail
   refine CR.out.mono ?_;rintro en w1 ⟨rfl,hb⟩;have HB:=ab (B0.out.trans (hb.mono B0.out.size));have e3:w1.cell? ⟨1,0,none⟩=some (ao (a 3)):=(HE2.out w1 hb).var 3 (by decide);clear hb CR
   go_wp2_with fail
   go_quiet (fail)
   go_wp2_with fail
   go_ret2
   exact⟨_,by rw[hx.out]<;>rfl,by rw[hx.out];exact bL a 3 (by decide),iq HB.out _⟩
 | true=>
   have HR:=ab hr;have hp:=HP.out hr;have n1:=hp.2.2.1;have n3:=hp.2.2.2.1;have HIn:=ab hp.2.2.2.2.1;rw[hr]at CR;clear hr HP hp
   go_enter Tryz.func27,Tryz.ntmps27
   go_wp2_with fail
   refine CR.out.mono ?_;rintro en w1 ⟨rfl,hb⟩;have HB:=ab (B0.out.trans (hb.mono B0.out.size));obtain⟨hpl,hp0,hp1,_⟩:=(P0.out.below hb P0.out.lt).facts;have HPl:=ab hpl;have HC1:=ab (HC.out.below HD.out hb);clear hb CR hW0 p0 p1 HE2;have HRow:=ab (λ(k:Nat) (hk:k < cs.length)=>(show ∃b o A2 c2,A=some ⟨b,o,none⟩/\(b < w1.heap.size/\lo b)/\w1.cell? ⟨b,o+k,none⟩=some (.slice A2 cs[k].length c2)/\aS w1 lo (.slice A2 cs[k].length c2) (az cs[k]) from by obtain⟨A',c',e,hcl⟩:=HC1.out.bQ.rV;injection e with e1 e2 e3;subst e1;obtain⟨b,o,u,e,hb,hbS,hcu,hrow⟩:=hcl k hk;obtain⟨_,A2,c2,rfl,_⟩:=cF hrow.1;exact⟨b,o,A2,c2,e,⟨hb,hbS⟩,hcu,hrow⟩));have HAll:=ab (show cs.all (λl=>aL up (l.headD 0))=true->eW up ep cs us=(cO ep cs (cs.map (ez us)) cs.length,0) from λh=>by unfold eW;rw[if_neg (by rw[HR.out];decide),if_pos h]);have HDn:=ab (show ∀k (hk:k < cs.length),aL up (cs[k].headD 0)=false->eW up ep cs us=(0,12) from λk hk h=>by unfold eW;rw[if_neg (by rw[HR.out];decide),if_neg];intro ha;have:=List.all_eq_true.1 ha _ (List.getElem_mem hk);rw[h]at this;exact absurd this (by decide));have HP0:=ab (And.intro hp0 hp1);have O0:=ab (show Own w1 w1.heap.size (.slice none 0 0) []from World.ownsRow_nil _ _ _ _);have BA:=ab (Below.refl w1.heap.size w1)
   go_wp2_with fail
   clear hp0 hp1
   go_loopw [6,18] (λsv i wr=>∃k:Nat,i= .int .i64 k/\k<=cs.length/\Hid ((cs.take k).all (λl=>aL up (l.headD 0))=true)/\Hid (Own wr w1.heap.size sv ((cs.take k).map (ez us)))/\Hid (Below w1.heap.size w1 wr)) (λ_ i _=>cs.length - (intOf i).toNat)
   case atStart=>exact⟨0,rfl,Nat.zero_le _,ab rfl,O0,BA⟩
   case round=>
    obtain⟨k,rfl,hk,hA,hO,hBr⟩:=hrel;by_cases hlt:k < cs.length
    · obtain⟨b1,o1,A2,c2,rfl,hb1,hcu,hrow⟩:=HRow.out k hlt;have HIk:=ab (HIn.out _ (List.getElem_mem hlt)).1;have HTk:=ab (show(cs.take (k+1)).map (ez us)=(cs.take k).map (ez us) ++ [ez us cs[k]] by rw[List.take_succ_eq_append_getElem hlt,List.map_append];rfl);have HTa:=ab (show aL up (cs[k].headD 0)=true->(cs.take (k+1)).all (λl=>aL up (l.headD 0))=true from λh=>by rw[List.take_succ_eq_append_getElem hlt,List.all_append,hA.out];simpa using h);have HDk:=ab (HDn.out k hlt);have hcw:=(hBr.out.cell (p:=⟨b1,o1+k,none⟩) hb1.1).trans hcu;have i1:(k:Int) < (cs.length:Int):=by omega
      obtain⟨l,hl⟩:=aa (cs[k]);rw[hl]at hrow hcw HIk HTk HTa HDk;obtain⟨n0,hn0⟩:∃n,l.headD 0=n:=⟨_,rfl⟩;have hti:ez us l=((max (us n0.toNat).top (us n0.toNat).trimmed:Nat):Int):=by unfold ez;rw[hn0]
      rw[hn0]at HTa HDk;have h0:0 < l.length:=HIk.out;have hl0:l[0]=n0:=by rw[<-hn0,List.headD_eq_head?_getD,List.head?_eq_getElem?,List.getElem?_eq_getElem h0];rfl
      obtain⟨A3,c3,e3,hcu2⟩:=hrow.ints;injection e3 with e31 e32 e33;subst e31 e33;obtain⟨b2,o2,rfl,hb2,_,hcj⟩:=hcu2 0 h0;rw[hl0]at hcj;have hcj:wr.cell? ⟨b2,o2,none⟩=some (.int .i64 n0):=(hBr.out.cell (p:=⟨b2,o2,none⟩) hb2).trans hcj;have hC2:=HC1.out.below HD.out hBr.out;have HC2:=ab hC2;have i2:(0:Int) < (l.length:Int):=by omega
      have HTi:=ab hti;have HLn:=ab (show((cs.take k).map (ez us)).length<=1000000 by rw[List.length_map,List.length_take];omega);clear hcu hcu2 hrow hl hn0 hti hl0 hC2 h0;cases hu:aL up n0 with
      | false=>
        have hRx:=ab (HDk.out hu);have CU:=ab (up_down HE.out HC2.out hu);clear hu
        go_wp2_with fail
        refine CU.out.mono ?_;rintro en w3 ⟨rfl,hb3⟩;have HB3:=ab (hBr.out.trans (hb3.mono hBr.out.size));clear CU hb3
        go_wp2_with fail
        go_ret2
        exact⟨_,by rw[hRx.out]<;>rfl,by rw[hRx.out];exact bL a 11 (by decide),HB.out.trans (HB3.out.mono HB.out.size)⟩
      | true=>
        have HA2:=ab (HTa.out hu);obtain⟨i,rfl,hi,_⟩:=lG HC2.out.dx hu;rw[Int.toNat_natCast]at HTi;have CU:=ab (nn HE.out HC2.out hu);have CT:=ab (λ(W3:World) (hb:Below wr.heap.size wr W3)=>((HC2.out.below HD.out hb).aX.un i hi).tail HD.out hN);obtain⟨x,hx⟩:=aa (max (us i).top (us i).trimmed);rw[hx]at CT HTi;clear hu hx hi
        go_wp2_with fail
        refine CU.out.mono ?_;rintro en w3 ⟨rfl,hb3⟩;have HB3:=ab hb3;have CT:=ab (CT.out w3 hb3);clear CU hb3
        go_wp2_with fail
        refine CT.out.mono ?_;rintro en w4 ⟨rfl,hb4⟩;have B3:=ab (hBr.out.trans ((HB3.out.trans (hb4.mono HB3.out.size)).mono hBr.out.size));have O3:=ab (hO.out.below (HB3.out.trans (hb4.mono HB3.out.size)));clear CT hb4 hcj hcw hO
        go_wp2_with (at_builtin;refine qf rfl (.tmp 33) (.tmp 36) rfl (x:Int) rfl rfl O3.out HLn.out B3.out.size ?_)
        intro v9 w9 h1 _ h3;have O9:=ab h1;have B9:=ab (B3.out.trans h3);clear h1 h3
        go_wp2_with fail
        go_roundw
        case rel=>exact⟨k+1,by go_num,by omega,HA2,ab (by rw[HTk.out,HTi.out,List.map_take];exact O9.out),B9⟩
        case measure=>simp[intOf];omega
    · have hTk:cs.take k=cs:=List.take_of_length_le (by omega);rw[hTk]at hA hO;have hx:=ab (HAll.out hA.out);have i2:(cs.length:Int)<=(k:Int):=by omega
      have hgr:=(HC1.out.bQ.below hBr.out).bQ;have CT:=ab (DX ep cs (cs.map (ez us)) (.slice A cs.length c) u6 wr.heap.size wr hgr hO.out.row (Nat.le_refl _));rw[List.length_map]at CT;have hp0:=(hBr.out.cell (p:=⟨W.heap.size,0,none⟩) HPl.out).trans HP0.out.1;have hp1:=(hBr.out.cell (p:=⟨W.heap.size,1,none⟩) HPl.out).trans HP0.out.2;clear hTk hgr
      go_wp2_with fail
      refine CT.out.mono ?_;rintro en w3 ⟨rfl,hb3⟩;have HB3:=ab (HB.out.trans ((hBr.out.trans (hb3.mono hBr.out.size)).mono HB.out.size));clear hb3 CT
      go_wp2_with fail
      go_ret2
      exact⟨_,by rw[hx.out]<;>rfl,by rw[hx.out];exact fw a,HB3.out⟩
end
end Go.Proofs.YtiafamacjpgjoaaGreatDoor
namespace Go.Proofs.YtiafamacjpgjoaaGreatDoor
open Go Go.RowKit Tide
structure dg where
 lo:Nat
 X:Nat
 bu:Nat
 ba:Nat
 bw:Nat
 bo:Nat
 cu:Nat
 ca:Nat
 cw:Nat
 co:Nat
 g:Nat->Nat
 q:Nat->Nat
 vp:Value
 vr:Value
 ep:Int
 cs:List (List Int)
abbrev dg.vu (K:dg):Value:= .slice (some ⟨K.bu,0,none⟩) 6 K.cu
abbrev dg.va (K:dg):Value:= .slice (some ⟨K.ba,0,none⟩) 6 K.ca
abbrev dg.vw (K:dg):Value:= .slice (some ⟨K.bw,0,none⟩) 6 K.cw
abbrev dg.vo (K:dg):Value:= .slice (some ⟨K.bo,0,none⟩) 6 K.co
def dg.bF (K:dg) (k:Nat):Prop:=k=K.X\/k=K.bu\/k=K.ba\/k=K.bw\/k=K.bo
structure aP (D:aB) (w W:World) (K:dg) (F H:Nat->Nat->Prop) (us vs:Nat->ah) (up:Nat->Bool) (N:Nat):Prop where
 cells:W.heap[K.X]? =some (.cells #[K.vu,K.va,K.vw,K.vo,.int .i64 K.ep,K.vp,.int .i64 K.ep,K.vr] 36 (0,0))
 aX:eb D w W K.g F 6 128 N us
 refs:Refs W K.q H vs
 apart:∀k,bX 6 F k->¬a9 H k
 ru:W.ownsRow K.lo 70 1 K.vu 6 (fj 6 up K.g)
 ra:W.ownsRow K.lo 70 1 K.va 6 (fj 6 gH K.g)
 rw:W.ownsRow K.lo 72 1 K.vw 6 (fC up K.q)
 ro:W.ownsRow K.lo 72 1 K.vo 6 (fC gH K.q)
 ne:K.bu≠K.ba/\K.bu≠K.bw/\K.bu≠K.bo/\K.ba≠K.bw/\K.bw≠K.bo/\K.X≠K.bu/\K.X≠K.ba/\K.X≠K.bw/\K.X≠K.bo
 free:∀k,K.bF k->¬bX 6 F k/\¬a9 H k/\k < W.heap.size
 bK:∀k,bX 6 F k\/a9 H k->K.lo<=k
 low:w.heap.size<=K.lo/\K.lo<=W.heap.size
 gp:b7 W K.lo K.vp K.cs
 gr:b7 W K.lo K.vr K.cs
section
variable {D:aB} {x a:Nat->Addr} {w W W':World} {K:dg} {F H:Nat->Nat->Prop} {us vs us' vs':Nat->ah} {up:Nat->Bool} {N M:Nat}
theorem aP.facts (h:aP D w W K F H us vs up N):W.cell? ⟨K.X,0,none⟩=some K.vu/\W.cell? ⟨K.X,1,none⟩=some K.va/\W.cell? ⟨K.X,2,none⟩=some K.vw/\W.cell? ⟨K.X,3,none⟩=some K.vo/\W.cell? ⟨K.X,4,none⟩=some (.int .i64 K.ep)/\W.cell? ⟨K.X,5,none⟩=some K.vp/\W.cell? ⟨K.X,6,none⟩=some (.int .i64 K.ep)/\W.cell? ⟨K.X,7,none⟩=some K.vr:=
 ⟨cell_of_row _ _ 0 _ _ _ h.cells,cell_of_row _ _ 1 _ _ _ h.cells,cell_of_row _ _ 2 _ _ _ h.cells,cell_of_row _ _ 3 _ _ _ h.cells,cell_of_row _ _ 4 _ _ _ h.cells,cell_of_row _ _ 5 _ _ _ h.cells,cell_of_row _ _ 6 _ _ _ h.cells,cell_of_row _ _ 7 _ _ _ h.cells⟩
theorem aP.Ae:K.bF K.X:= .inl rfl
theorem aP.mu:K.bF K.bu:= .inr (.inl rfl)
theorem aP.z7:K.bF K.ba:= .inr (.inr (.inl rfl))
theorem aP.mv:K.bF K.bw:= .inr (.inr (.inr (.inl rfl)))
theorem aP.Ad:K.bF K.bo:= .inr (.inr (.inr (.inr rfl)))
theorem gR {b c n base:Nat} {T:TypeId} {xs:List Value} {P:Nat->Prop} (h:W.ownsRow base T 1 (.slice (some ⟨b,0,none⟩) n c) n xs) (hk:Kept P W W') (hP:¬P b):W'.ownsRow base T 1 (.slice (some ⟨b,0,none⟩) n c) n xs:=
 hk.own h (λk e=>by injection e with e;have e:b=k:=e;subst e;exact hP)
theorem aP.aj (h:aP D w W K F H us vs up N) {P:Nat->Prop} (hk:Kept P W W') (hP:∀k,P k->¬K.bF k/\K.lo<=k) {F' H':Nat->Nat->Prop} (hu:eb D w W' K.g F' 6 128 M us') (hr:Refs W' K.q H' vs') (hF:∀i k,F' i k->F i k\/W.heap.size<=k) (hH:∀i k,H' i k->H i k\/W.heap.size<=k) (hx:∀k,bX 6 F' k->¬a9 H' k):
 aP D w W' K F' H' us' vs' up M:=by
 have hz:=hk.size;refine { cells:=hk.heap h.cells (λe=>(hP _ e).1 aP.Ae),aX:=hu,refs:=hr,apart:=hx,ru:=gR h.ru hk (λe=>(hP _ e).1 aP.mu),ra:=gR h.ra hk (λe=>(hP _ e).1 aP.z7),rw:=gR h.rw hk (λe=>(hP _ e).1 aP.mv),ro:=gR h.ro hk (λe=>(hP _ e).1 aP.Ad),ne:=h.ne,free:=λk e=>⟨λ⟨i,hi,e2⟩=> ?_,λ⟨i,hi,e2⟩=> ?_,Nat.lt_of_lt_of_le (h.free k e).2.2 hz⟩,bK:=λk e=> ?_,low:=⟨h.low.1,Nat.le_trans h.low.2 hz⟩,gp:=h.gp.aj (jl hk (λk e=>(hP k e).2) h.low.2),gr:=h.gr.aj (jl hk (λk e=>(hP k e).2) h.low.2) }
 · rcases hF i k e2 with e3|e3
   · exact(h.free k e).1 ⟨i,hi,e3⟩
   · have:=(h.free k e).2.2;omega
 · rcases hH i k e2 with e3|e3
   · exact(h.free k e).2.1 ⟨i,hi,e3⟩
   · have:=(h.free k e).2.2;omega
 · rcases e with⟨i,hi,e2⟩|⟨i,hi,e2⟩
   · rcases hF i k e2 with e3|e3
     · exact h.bK k (.inl ⟨i,hi,e3⟩)
     · exact Nat.le_trans h.low.2 e3
   · rcases hH i k e2 with e3|e3
     · exact h.bK k (.inr ⟨i,hi,e3⟩)
     · exact Nat.le_trans h.low.2 e3
theorem aP.below (hD:ay x D) (h:aP D w W K F H us vs up N) (hb:Below W.heap.size W W'):aP D w W' K F H us vs up N:=
 h.aj (P:=λ_=>False) (Kept.an hb) (λ_ e=>e.elim) (h.aX.below hD hb) (h.refs.below hb) (λ_ _ e=> .inl e) (λ_ _ e=> .inl e) h.apart
theorem aP.mono (h:aP D w W K F H us vs up N) (hM:N<=M):aP D w W K F H us vs up M:= { h with aX:=h.aX.mono hM }
theorem aP.gO (h:aP D w W K F H us vs up N) (hs:aH D w W K.g F 6 128 M us' W'):∃F',aP D w W' K F' H us' vs up M:=by
 obtain⟨F',g1,g2,g3⟩:=hs;refine⟨F',h.aj g3 (λk e=>⟨λe2=>(h.free k e2).1 e,h.bK k (.inl e)⟩) g1 (h.refs.kept g3 (λk e e2=>h.apart k e2 e)) g2 (λ_ _ e=> .inl e) λk ⟨i,hi,e⟩ e2=> ?_⟩;rcases g2 i k e with e3|e3
 · exact h.apart k ⟨i,hi,e3⟩ e2
 · have:=h.refs.lt k e2;omega
theorem pt {b c n base:Nat} {T:TypeId} {xs:List Value} {P:Nat->Prop} (h:W.ownsRow base T 1 (.slice (some ⟨b,0,none⟩) n c) n xs) (hk:Kept P W W') (hP:¬P b):Row W' W.heap.size (.slice (some ⟨b,0,none⟩) n c) xs:=
 dP (Row.cm h (Nat.le_refl _)) hk (Nat.le_refl _) (λk e=>by injection e with e;have e:b=k:=e;subst e;exact hP)
theorem aP.jS (h:aP D w W K F H us vs up N):cZ D w W (λk=>k < K.lo) K.g F 6 us up K.vu K.vp K.cs N where
 aX:=h.aX
 dx:=⟨by decide,by decide,λi h1 h2=>by omega⟩
 rows:=λ_ hk=>pt h.ru hk (h.free _ aP.mu).1
 lo_le:=λk e=>Nat.lt_of_lt_of_le e h.low.2
 bK:=λk e e2=>Nat.not_lt.2 (h.bK k (.inl e)) e2
 bQ:=eY.ln h.gp h.low.2
theorem aP.jM (h:aP D w W K F H us vs up N):dZ W K.lo K.q H vs up K.vw K.vr K.cs where
 refs:=h.refs
 rows:=λ_ hk=>pt h.rw hk (h.free _ aP.mv).2.1
 lo_le:=h.low.2
 bK:=λk e=>h.bK k (.inr e)
 bQ:=h.gr
theorem aP.ok (h:aP D w W K F H us vs up N) (hN:N<=90000):jc up us:=λn hu=>by obtain⟨h0,h6,_⟩:=gC hu;exact(h.aX.un n.toNat (by omega)).my (by decide) hN
theorem aP.AD (h:aP D w W K F H us vs up N) (hN:N<=90000) {i:Nat} (hi:i < 6):dp (us i):=(h.aX.un i hi).my (by decide) hN
theorem mT {b c base:Nat} {T:TypeId} {f:Nat->Bool} {q:Nat->Nat} (h:W.ownsRow base T 1 (.slice (some ⟨b,0,none⟩) 6 c) 6 (fj 6 f q)) {i:Nat} (hi:i < 6):W.cell? ⟨b,i,none⟩=some (cj f q i):=by
 obtain⟨b',o',c',e,_,hc⟩:=fD (by decide) (Row.cm h (Nat.le_refl _));injection e with e _ _;injection e with e;injection e with e1 e2;subst e1 e2;have:=hc i hi
 rwa[Nat.zero_add]at this
theorem aP.qD (h:aP D w W K F H us vs up N) {i:Nat} (hi:i < 6):W.cell? ⟨K.ba,i,none⟩=some (.pointer (some ⟨K.g i,0,none⟩)):=mT h.ra hi
theorem aP.qE (h:aP D w W K F H us vs up N) {i:Nat} (hi:i < 6):W.cell? ⟨K.bo,i,none⟩=some (.pointer (some ⟨K.q i,0,none⟩)):=mT h.ro hi
theorem aP.qR (h:aP D w W K F H us vs up N) {i:Nat} (hi:i < 6):W.cell? ⟨K.bu,i,none⟩=some (cj up K.g i)/\W.cell? ⟨K.bw,i,none⟩=some (cj up K.q i):=⟨mT h.ru hi,mT h.rw hi⟩
theorem tZ {b c base:Nat} {T:TypeId} {xs:List Value} (h:W.ownsRow base T 1 (.slice (some ⟨b,0,none⟩) 6 c) 6 xs) (i:Nat):W.frozen? ⟨b,i,none⟩=false:=by
 rcases h.2 with⟨e,_⟩|⟨g,cap,cur,e,_,hg,_⟩
 · cases e
 · injection e with e _ _;injection e with e;injection e with e _;subst e;exact frozen_of_row _ _ i _ _ hg
theorem aP.rW (h:aP D w W K F H us vs up N) (i:Nat):W.frozen? ⟨K.bu,i,none⟩=false/\W.frozen? ⟨K.bw,i,none⟩=false:=⟨tZ h.ru i,tZ h.rw i⟩
theorem aP.set (hD:ay x D) (h:aP D w W K F H us vs up N) (i:Nat) (b:Bool) (up':Nat->Bool) (hup:up'=λj=>if j=i then b else up j):
 aP D w ((W.setCell ⟨K.bu,i,none⟩ (cj up' K.g i)).setCell ⟨K.bw,i,none⟩ (cj up' K.q i)) K F H us vs up' N:=by
 have hk:Kept (λk=>k=K.bu\/k=K.bw) W ((W.setCell ⟨K.bu,i,none⟩ (cj up' K.g i)).setCell ⟨K.bw,i,none⟩ (cj up' K.q i)):=
  ((Kept.refl (λk=>k=K.bu\/k=K.bw) W).setCell (p:=⟨K.bu,i,none⟩) (.inl (.inl rfl)) _).setCell (p:=⟨K.bw,i,none⟩) (.inl (.inr rfl)) _
 have hset:∀ (q:Nat->Nat),(fj 6 up q).set i (cj up' q i)=fj 6 up' q:=λq=>by
  show((List.range 6).map (cj up q)).set i (cj up' q i)=(List.range 6).map (cj up' q);refine List.ext_getElem (by simp) λj h1 h2=> ?_;rw[List.getElem_set];simp only[List.getElem_map,List.getElem_range];by_cases e:i=j
  · subst e;rw[if_pos rfl]
  · rw[if_neg e];unfold cj;rw[hup];simp only[if_neg (λh:j=i=>e h.symm)]
 obtain⟨n1,n2,n3,n4,n5,n6,n7,n8,n9⟩:=h.ne;have hb:∀k,(k=K.bu\/k=K.bw)->¬bX 6 F k/\¬a9 H k:=λk e=>by
  rcases e with e|e
  · subst e;exact⟨(h.free _ aP.mu).1,(h.free _ aP.mu).2.1⟩
  · subst e;exact⟨(h.free _ aP.mv).1,(h.free _ aP.mv).2.1⟩
 have hlo:∀k,(k=K.bu\/k=K.bw)->K.lo<=k:=λk e=>by
  rcases e with e|e
  · subst e;exact(ij h.ru K.bu rfl).1
  · subst e;exact(ij h.rw K.bw rfl).1
 have ru:=iN h.ru i (cj up' K.g i);rw[hset]at ru;have rw1:=gR h.rw ((Kept.refl (λk=>k=K.bu) W).setCell (p:=⟨K.bu,i,none⟩) (.inl rfl) (cj up' K.g i)) (λe=>n2 e.symm);have rw2:=iN rw1 i (cj up' K.q i);rw[show(fC up K.q).set i (cj up' K.q i)=fC up' K.q from hset K.q]at rw2;exact { cells:=hk.heap h.cells (λe=>e.elim n6 n8),aX:=h.aX.kept hD hk (λk e=>⟨(hb k e).1,Nat.le_trans h.low.1 (hlo k e)⟩),refs:=h.refs.kept hk (λk e e2=>(hb k e2).2 e),apart:=h.apart,ru:=gR ru ((Kept.refl (λk=>k=K.bw) _).setCell (p:=⟨K.bw,i,none⟩) (.inl rfl) _) n2,ra:=gR h.ra hk (λe=>e.elim (λe=>n1 e.symm) n4),rw:=rw2,ro:=gR h.ro hk (λe=>e.elim (λe=>n3 e.symm) (λe=>n5 e.symm)),ne:=h.ne,free:=λk e=>⟨(h.free k e).1,(h.free k e).2.1,Nat.lt_of_lt_of_le (h.free k e).2.2 hk.size⟩,bK:=h.bK,low:=⟨h.low.1,Nat.le_trans h.low.2 hk.size⟩,gp:=h.gp.aj (jl hk hlo h.low.2),gr:=h.gr.aj (jl hk hlo h.low.2) }
end
end Go.Proofs.YtiafamacjpgjoaaGreatDoor
namespace Go.Proofs.YtiafamacjpgjoaaGreatDoor
open Go Go.RowKit Tide
structure cD where
 kind:Int
 a:Int
 k:Int
 text:List UInt8
abbrev cD.cells (x:cD):Array Value:= #[.int .i64 x.kind,.int .i64 x.a,.int .i64 x.k,.string ⟨x.text.toArray⟩]
section
variable {D:aB} {a:Nat->Addr} {w W:World} {K:dg} {F H:Nat->Nat->Prop} {us:Nat->ah} {up:Nat->Bool} {N:Nat}
theorem j5 {x:cD} {b:Nat} (h:W.heap[b]? =some (.cells x.cells 38 (0,0))):W.cell? ⟨b,0,none⟩=some (.int .i64 x.kind)/\W.cell? ⟨b,1,none⟩=some (.int .i64 x.a)/\W.cell? ⟨b,2,none⟩=some (.int .i64 x.k)/\W.cell? ⟨b,3,none⟩=some (.string ⟨x.text.toArray⟩):=
 ⟨cell_of_row _ _ 0 _ _ _ h,cell_of_row _ _ 1 _ _ _ h,cell_of_row _ _ 2 _ _ _ h,cell_of_row _ _ 3 _ _ _ h⟩
def gE (D:aB) (w:World) (K:dg) (N:Nat) (e:Ending) (w':World):Prop:=e= .returned (.bool true)/\∃us up F H,aP D w w' K F H us us up N
def vC (K:dg) (b:Nat) (x:cD) (Y:World):Prop:=
 (Y.cell? ⟨K.X,0,none⟩=some K.vu/\Y.cell? ⟨K.X,1,none⟩=some K.va/\Y.cell? ⟨K.X,2,none⟩=some K.vw/\Y.cell? ⟨K.X,3,none⟩=some K.vo/\Y.cell? ⟨K.X,4,none⟩=some (.int .i64 K.ep)/\Y.cell? ⟨K.X,5,none⟩=some K.vp/\Y.cell? ⟨K.X,6,none⟩=some (.int .i64 K.ep)/\Y.cell? ⟨K.X,7,none⟩=some K.vr)/\
   Y.cell? ⟨b,0,none⟩=some (.int .i64 x.kind)/\Y.cell? ⟨b,1,none⟩=some (.int .i64 x.a)/\Y.cell? ⟨b,2,none⟩=some (.int .i64 x.k)/\Y.cell? ⟨b,3,none⟩=some (.string ⟨x.text.toArray⟩)
structure b8 (D:aB) (w W:World) (K:dg) (F H:Nat->Nat->Prop) (us vs:Nat->ah) (up:Nat->Bool) (N b:Nat) (x:cD):Prop where
 aG:aP D w W K F H us vs up N
 box:W.heap[b]? =some (.cells x.cells 38 (0,0))
 out:¬bX 6 F b/\¬a9 H b
theorem kX {b:Nat} {o:Obj} (h:W.heap[b]? =some o):b < W.heap.size:=by
 rcases Nat.lt_or_ge b W.heap.size with hlt|hge
 · exact hlt
 · rw[Array.getElem?_eq_none hge]at h;cases h
section
variable {W':World} {us' vs vs':Nat->ah} {M b:Nat} {x:cD} {y:Nat->Addr}
theorem b8.held (h:b8 D w W K F H us vs up N b x):vC K b x W:=⟨h.aG.facts,j5 h.box⟩
theorem b8.below (hD:ay y D) (h:b8 D w W K F H us vs up N b x) (hb:Below W.heap.size W W'):b8 D w W' K F H us vs up N b x:=
 ⟨h.aG.below hD hb,(hb.block b (kX h.box)).trans h.box,h.out⟩
theorem b8.gO (h:b8 D w W K F H us vs up N b x) (hs:aH D w W K.g F 6 128 M us' W'):∃F',b8 D w W' K F' H us' vs up M b x:=by
 obtain⟨F',g1,g2,g3⟩:=hs;obtain⟨F'',h2⟩:=h.aG.gO ⟨F',g1,g2,g3⟩;refine⟨F',?_,(g3.block b (kX h.box) h.out.1).trans h.box,λ⟨i,hi,e⟩=> ?_,h.out.2⟩
 · refine h.aG.aj g3 (λk e=>⟨λe2=>(h.aG.free k e2).1 e,h.aG.bK k (.inl e)⟩) g1 (h.aG.refs.kept g3 (λk e e2=>h.aG.apart k e2 e)) g2 (λ_ _ e=> .inl e) λk ⟨i,hi,e⟩ e2=> ?_;rcases g2 i k e with e3|e3
   · exact h.aG.apart k ⟨i,hi,e3⟩ e2
   · have:=h.aG.refs.lt k e2;omega
 · rcases g2 i b e with e3|e3
   · exact h.out.1 ⟨i,hi,e3⟩
   · have:=kX h.box;omega
theorem b8.iP (hD:ay y D) (h:b8 D w W K F H us vs up N b x) (hs:aU W K.q H vs' W'):∃H',b8 D w W' K F H' us vs' up N b x:=by
 obtain⟨H',g1,g2,g3⟩:=hs;refine⟨H',?_,(g3.block b (kX h.box) h.out.2).trans h.box,h.out.1,λ⟨i,hi,e⟩=> ?_⟩
 · refine h.aG.aj g3 (λk e=>⟨λe2=>(h.aG.free k e2).2.1 e,h.aG.bK k (.inr e)⟩) (h.aG.aX.kept hD g3 (λk e=>⟨λe2=>h.aG.apart k e2 e,Nat.le_trans h.aG.low.1 (h.aG.bK k (.inr e))⟩)) g1 (λ_ _ e=> .inl e) g2 λk e ⟨i,hi,e2⟩=> ?_;rcases g2 i k e2 with e3|e3
   · exact h.aG.apart k e ⟨i,hi,e3⟩
   · have:=(h.aG.aX.lt k e).2;omega
 · rcases g2 i b e with e3|e3
   · exact h.out.2 ⟨i,hi,e3⟩
   · have:=kX h.box;omega
theorem b8.dv {kind ea ek:Int} {tx:List UInt8} (h:b8 D w W K F H us vs up N b ⟨kind,ea,ek,tx⟩):W.cell? ⟨K.X,0,none⟩=some K.vu/\W.cell? ⟨K.X,2,none⟩=some K.vw/\W.cell? ⟨K.X,4,none⟩=some (.int .i64 K.ep)/\W.cell? ⟨K.X,5,none⟩=some K.vp/\W.cell? ⟨K.X,6,none⟩=some (.int .i64 K.ep)/\W.cell? ⟨K.X,7,none⟩=some K.vr/\W.cell? ⟨b,1,none⟩=some (.int .i64 ea)/\W.cell? ⟨b,2,none⟩=some (.int .i64 ek)/\W.cell? ⟨b,3,none⟩=some (.string ⟨tx.toArray⟩):=by obtain⟨c0,_,c2,_,c4,c5,c6,c7⟩:=h.aG.facts;obtain⟨_,d1,d2,d3⟩:=j5 h.box;exact⟨c0,c2,c4,c5,c6,c7,d1,d2,d3⟩
theorem yU {ea ek:Int} {tx:List UInt8} (h:W.cell? ⟨K.X,0,none⟩=some K.vu/\W.cell? ⟨K.X,2,none⟩=some K.vw/\W.cell? ⟨K.X,4,none⟩=some (.int .i64 K.ep)/\W.cell? ⟨K.X,5,none⟩=some K.vp/\W.cell? ⟨K.X,6,none⟩=some (.int .i64 K.ep)/\W.cell? ⟨K.X,7,none⟩=some K.vr/\W.cell? ⟨b,1,none⟩=some (.int .i64 ea)/\W.cell? ⟨b,2,none⟩=some (.int .i64 ek)/\W.cell? ⟨b,3,none⟩=some (.string ⟨tx.toArray⟩)) (hb:Below W.heap.size W W'):W'.cell? ⟨K.X,0,none⟩=some K.vu/\W'.cell? ⟨K.X,2,none⟩=some K.vw/\W'.cell? ⟨K.X,4,none⟩=some (.int .i64 K.ep)/\W'.cell? ⟨K.X,5,none⟩=some K.vp/\W'.cell? ⟨K.X,6,none⟩=some (.int .i64 K.ep)/\W'.cell? ⟨K.X,7,none⟩=some K.vr/\W'.cell? ⟨b,1,none⟩=some (.int .i64 ea)/\W'.cell? ⟨b,2,none⟩=some (.int .i64 ek)/\W'.cell? ⟨b,3,none⟩=some (.string ⟨tx.toArray⟩):=by obtain⟨h1,h2,h3,h4,h5,h6,h7,h8,h9⟩:=h;have k:∀ {p:Addr} {v:Value},W.cell? p=some v->W'.cell? p=some v:=λ{p v} h=>(hb.cell (p:=p) (World.block_lt_of_cell? _ _ h)).trans h;exact⟨k h1,k h2,k h3,k h4,k h5,k h6,k h7,k h8,k h9⟩
theorem b8.done (h:b8 D w W K F H us us up M b x) (hM:M<=N):gE D w K N (.returned (.bool true)) W:=⟨rfl,us,up,F,H,h.aG.mono hM⟩
theorem b8.start (hD:ay y D) (h:aP D w W K F H us vs up N) (x:cD):b8 D w (W.alloc (.cells x.cells 38)) K F H us vs up N W.heap.size x:=
 ⟨h.below hD ((Below.refl W.heap.size W).alloc (Nat.le_refl _) _),heap_alloc_new W _,λe=>by have:=(h.aX.lt _ e).2;omega,λe=>by have:=h.refs.lt _ e;omega⟩
end
theorem tk {W W':World} {v:Value} {l:List UInt8} {P:Nat->Prop} (h:Bytes W W.heap.size v l) (hk:Kept P W W') (hP:∀j,v.ownBlock=some j->¬P j):Bytes W' W'.heap.size v l:=Row.more (dP h hk (Nat.le_refl _) hP) hk.size
theorem aP.iI (h:aP D w W K F H us us up N):∃A c A' c',K.vp= .slice A K.cs.length c/\K.vr= .slice A' K.cs.length c':=by obtain⟨_,A,c,e,_⟩:=h.gp.form;obtain⟨_,A',c',e',_⟩:=h.gr.form;exact⟨A,c,A',c',e,e'⟩
section
variable {W' V:World} {us' vs vs':Nat->ah} {M b:Nat} {x:cD} {y:Nat->Addr}
structure dY (D:aB) (w V W:World) (K:dg) (F H:Nat->Nat->Prop) (us vs:Nat->ah) (up:Nat->Bool) (N b:Nat) (x:cD):Prop where
 b:b8 D w W K F H us vs up N b x
 low:∀c o,c < K.lo->W.cell? ⟨c,o,none⟩=V.cell? ⟨c,o,none⟩
theorem dY.below (hD:ay y D) (h:dY D w V W K F H us vs up N b x) (hb:Below W.heap.size W W'):dY D w V W' K F H us vs up N b x:=
 ⟨h.b.below hD hb,λc o hc=>(hb.cell (p:=⟨c,o,none⟩) (Nat.lt_of_lt_of_le hc h.b.aG.low.2)).trans (h.low c o hc)⟩
theorem dY.gO (h:dY D w V W K F H us vs up N b x) (hs:aH D w W K.g F 6 128 M us' W'):∃F',dY D w V W' K F' H us' vs up M b x:=by obtain⟨F',h1⟩:=h.b.gO hs;obtain⟨_,_,_,g3⟩:=hs;exact⟨F',h1,λc o hc=>(jl g3 (λk e=>h.b.aG.bK k (.inl e)) h.b.aG.low.2 c o hc).trans (h.low c o hc)⟩
theorem dY.iP (hD:ay y D) (h:dY D w V W K F H us vs up N b x) (hs:aU W K.q H vs' W'):∃H',dY D w V W' K F H' us vs' up N b x:=by obtain⟨H',h1⟩:=h.b.iP hD hs;obtain⟨_,_,_,g3⟩:=hs;exact⟨H',h1,λc o hc=>(jl g3 (λk e=>h.b.aG.bK k (.inr e)) h.b.aG.low.2 c o hc).trans (h.low c o hc)⟩
theorem carry {W W':World} (hb:Below W.heap.size W W') {p:Addr} {v:Value} (h:W.cell? p=some v):W'.cell? p=some v:=(hb.cell (p:=p) (World.block_lt_of_cell? _ _ h)).trans h
structure vO (W Z:World) (l:List UInt8):Prop where
 b2:Below W.heap.size W (aN Z l)
 b3:Below W.heap.size W (aN (aN Z l) l)
 kM:Bytes (aN Z l) (aN Z l).heap.size (bP Z l) l
 jx:Bytes (aN (aN Z l) l) (aN (aN Z l) l).heap.size (bP Z l) l
 lH:Bytes (aN (aN Z l) l) (aN (aN Z l) l).heap.size (bP (aN Z l) l) l
 kt:∀j,(bP Z l).ownBlock=some j->W.heap.size<=j/\j < (aN Z l).heap.size
 jm:∀j,(bP Z l).ownBlock=some j->W.heap.size<=j/\j < (aN (aN Z l) l).heap.size
 jo:∀j,(bP (aN Z l) l).ownBlock=some j->W.heap.size<=j/\j < (aN (aN Z l) l).heap.size
theorem uU {W Z:World} {l:List UInt8} (hl:l.length<=100000) (hb:Below W.heap.size W Z):vO W Z l:=by
 have T1:=eD Z l hl;have T2:=eD (aN Z l) l hl;have b2:Below W.heap.size W (aN Z l):=hb.trans (T1.2.1.mono hb.size);have kt:∀j,(bP Z l).ownBlock=some j->W.heap.size<=j/\j < (aN Z l).heap.size:=λj e=>by have h1:=T1.2.2.1 j e;have h2:=T1.2.2.2;have h3:=hb.size;omega
 exact⟨b2,b2.trans (T2.2.1.mono b2.size),T1.1,(T1.1.below T2.2.1).more T2.2.1.size,T2.1,kt,λj e=>⟨(kt j e).1,Nat.lt_of_lt_of_le (kt j e).2 T2.2.1.size⟩,λj e=>by have h1:=T2.2.2.1 j e;have h2:=T2.2.2.2;have h3:=b2.size;omega⟩
theorem rY {B:Nat} {v:Value} {cs:List (List Int)} (h:b7 W B v cs) (h0:0 < cs.length):∃b o c A2 c2,v= .slice (some ⟨b,o,none⟩) cs.length c/\b < B/\W.cell? ⟨b,o,none⟩=some (.slice A2 cs[0].length c2)/\Row W B (.slice A2 cs[0].length c2) (az cs[0]):=by obtain⟨_,A,c,rfl,hcl⟩:=h.form;obtain⟨b,o,u,rfl,hb,hcu,hrow⟩:=hcl 0 h0;obtain⟨_,A2,c2,rfl,_⟩:=cF hrow;exact⟨b,o,c,A2,c2,rfl,hb,hcu,hrow⟩
end
end
end Go.Proofs.YtiafamacjpgjoaaGreatDoor
