import Derived.Test.YtdilnodbfnlhdaaGreatDoorGPackO
import Derived.Test.YtdilnodbfnlhdaaGreatDoorGBits7
import Derived.Test.YtdilnodbfnlhdaaGreatDoorGApp
import Derived.Test.YtdilnodbfnlhdaaGreatDoorGClone
import Derived.Test.YtdilnodbfnlhdaaGreatDoorGPackD
import Derived.Deep.RegionLaw
import Derived.Outline
set_option maxRecDepth 100000
set_option maxHeartbeats 2000000
namespace Go.Proofs.YtdilnodbfnlhdaaGreatDoor
open Go.RowKit Tide
theorem rU {a:Nat->Addr} {W U w2:World} {F:Nat->Prop} {p:Nat} {q t r:List UInt8} {v v' x:Value} (hp:F p) (hF:∀k,F k->k < W.heap.size) (hA:cG a F) (hE:ar W a) (hWU:Kept F W U) (hU2:Kept (λk=>v.ownBlock=some k) U w2)
 (hT:aH w2 p 204 x .nilIface) (hv:∀k,v.ownBlock=some k->F k/\k≠p) (h1:w2.ownsRow 0 5 1 v' r.length (aj r)) (h3:v'.ownBlock=v.ownBlock\/v'.ownBlock=some U.heap.size) (hr:r=q ++ t) (hl:r.length<=65536) (n:Nat):
 gN (bg a) W F p (some (q ++ t)) n (.returned (.tuple #[])) (w2.setCell ⟨p,0,none⟩ v'):=by
 subst hr;have hs:=hWU.size;have hpl:=hF p hp;have hne:∀k,v'.ownBlock=some k->(F k\/k=U.heap.size)/\k≠p:=λk hk=>by
  rcases h3 with e|e
  · exact⟨.inl (hv k (e ▸ hk)).1,(hv k (e ▸ hk)).2⟩
  · rw[e]at hk;injection hk with hk;exact⟨.inr hk.symm,by omega⟩
 have hk3:Kept (λk=>k=p) w2 (w2.setCell ⟨p,0,none⟩ v'):=(Kept.refl (λk=>k=p) w2).setCell (p:=⟨p,0,none⟩) (.inl rfl) _;have hW2:Kept F W (w2.setCell ⟨p,0,none⟩ v'):=(hWU.trans hU2 (λi hi=> .inl (hv i hi).1)).trans hk3 (λi hi=>by subst hi;exact .inl hp);refine⟨rfl,λk=>F k\/(W.heap.size<=k/\k < (w2.setCell ⟨p,0,none⟩ v').heap.size),⟨.inl hp,λk hf=> ?_,hA.more hE (λk hf=>hf.imp id And.left),v',.nilIface,hT.jX v',λk hkk=> ?_,(iX a _ _ _ hl).2 ⟨rfl,hk3.own h1 (λk hk=>(hne k hk).2)⟩⟩,λk hf=> ?_,hW2⟩
 · rcases hf with hf|hf
   · exact Nat.lt_of_lt_of_le (hF k hf) hW2.size
   · exact hf.2
 · refine⟨?_,(hne k hkk).2⟩;rcases(hne k hkk).1 with h|h
   · exact .inl h
   · have:=(h1.lt k hkk).2;have e2:(w2.setCell ⟨p,0,none⟩ v').heap.size=w2.heap.size:=by simp
     exact .inr ⟨by omega,by omega⟩
 · rcases hf with hf|hf
   · exact .inl hf
   · exact .inr hf.1
theorem pG:Tryz.prog.arrayLen 272=9:=by kernel_rfl
theorem uX:Tryz.prog.underlying 272=some (.array (Tryz.prog.arrayLen 272) (Tryz.prog.elem 272)):=by kernel_rfl
theorem uW (w:World):(Go.sizeOf (Tryz.prog.elem 272)).run Tryz.prog w= .ok 1 w:=by kernel_rfl
theorem wH (g k:Nat) (hk:k+1<=9) (W:World):(Instr.sliceAt 272 (.pointer (some ⟨g,0,none⟩)) none (some (.int .i64 ((k:Int)+1))) none).run Tryz.prog W= .ok (.slice (some ⟨g,0,none⟩) (k+1) 9) W:=by
 rw[run_sliceAt_array_h W _ _ uX _ _ (by omega) (by rw[pG];omega),uW,pG];have e:((k:Int)+1).toNat=k+1:=by omega
 simp only[Result.andThen,slicedAt,e];rw[if_neg (by omega)];simp[Addr.add]
theorem zM (a:Nat->Addr) (W:World) (F:Nat->Prop) (p:Nat) (st:Option (List UInt8)) (n:Nat) (m:Nat) (h:bg a W F p st n) (hm:m<=4611686018427387903) (hE:ar W a):
 Calls Tryz.prog 105 #[.pointer (some ⟨p,0,none⟩),.int .i64 m] W (gN (bg a) W F p (st.map (· ++ ao m)) (n+9)):=by
 obtain⟨i0,hi,hz0,hz1,hz2⟩:=info_parts jE;have HI:=ab hi;have hq1:decide ((m:Int) < 0)=false:=by simp
 have hq2:decide ((4611686018427387903:Int) < (m:Int))=false:=by simp;omega
 have H:=ab h;have HE:=ab hE;have D0:=ab (fw.start W 272);have HM:=ab hm;clear h hE hi hm
 go_enter Tryz.func105,Tryz.ntmps105
 go_wp2_with fail
 clear hq1 hq2
 go_loopw [1,5] (λu s wr=>∃ (m' k:Nat) (ds:List UInt8),u= .int .i64 m'/\s= .int .i64 k/\m'<=m/\Hid (ds.length=k/\ao m=ds ++ ao m')/\fw W W.heap.size 272 ds wr) (λu _ _=>(intOf u).toNat)
 case atStart=>exact⟨m,0, [],rfl,rfl,Nat.le_refl _,ab ⟨rfl,rfl⟩,D0.out⟩
 case round=>
  rename_i wr;obtain⟨m',k,ds,rfl,rfl,hmm,hn,hd⟩:=hrel;have hle:m'<=4611686018427387903:=Nat.le_trans hmm HM.out;have hk8:k<=8:=by have h9:=bH (show m < 2 ^ 62 by have:=HM.out;omega);rw[hn.out.2,List.length_append,hn.out.1]at h9;have:=kB m';omega
  have HD:=ab hd;clear hd;obtain⟨⟨z,hz⟩,hfr⟩:=HD.out.facts k (by omega);have hk9:(k:Int) < 9:=by omega
  by_cases hlt:127 < m'
  · have hq:decide ((127:Int) < (m':Int))=true:=by simp;omega
    have e1:bits .and .i64 (m':Int) 127=(m':Int) % 128:=by have:=xY m' (by omega);rw[this];omega
    have e2:bits .or .i64 ((m':Int) % 128) 128=(m':Int) % 128+128:=by have:=xZ (m' % 128) (by omega);rw[show(m':Int) % 128=((m' % 128:Nat):Int) by omega,this];omega
    go_wp2_with fail
    go_roundw
    case rel=>exact⟨m' / 128,k+1,ds ++ [UInt8.ofNat (m' % 128+128)],by go_num,by go_num,by omega,ab ⟨by rw[List.length_append,hn.out.1];rfl,by rw[hn.out.2,jJ (by omega)];simp⟩,HD.out.put (Nat.le_refl _) _ k hn.out.1.symm (by omega) _ (vN m')⟩
    case measure=>simp[intOf];omega
  · have hq:decide ((127:Int) < (m':Int))=false:=by simp;omega
    have D2:=ab (HD.out.put (Nat.le_refl _) (UInt8.ofNat m') k hn.out.1.symm (by omega) (m':Int) (by rw[UInt8.toNat_ofNat_of_lt' (show m' < 256 by omega)]));have hfull:=ab (show(ds ++ [UInt8.ofNat m']).length=k+1/\ao m=ds ++ [UInt8.ofNat m']from⟨by rw[List.length_append,hn.out.1];rfl,by rw[hn.out.2,iz (by omega)]⟩);have HU:=ab (lQ H.out (Kept.al (F:=λ_=>False) D2.out.below) (λ_ _ h=>h));have HEU:=ab (HE.out.below D2.out.below);have cR:=ab (show Calls Tryz.prog 145 #[.pointer (some ⟨p,0,none⟩),.int .i64 ((k:Int)+1)] _ (pq a _ F p st (k+1)) from sF a _ F p st n (k+1) HU.out HEU.out)
    go_wp2_with fail
    clear hz hfr hq;generalize wr.setCell ⟨W.heap.size,k,none⟩ (.int .u8 (m':Int))=U at *;refine cR.out.mono ?_;rintro e w1 (⟨rfl,rfl,q,A,c,rfl,hqs,htwo,hown,hob⟩|⟨rfl,hk,hout⟩)
    · have HT:=ab htwo;have HO:=ab hown;have HOB:=ab hob;obtain⟨hp,g0,g1,gf⟩:=htwo.facts;have hcut:=wH W.heap.size k (by omega);clear htwo hown hob
      go_wp2_with fail
      go_region_law (first|(refine jf _ rfl (.tmp 40) (.tmp 42) _ rfl 0 5 i0 (.int .u8 0) 1 Tryz.underlying38 HI.out hz0 hz1 hz2 rfl _ q.length (aj q) rfl HO.out (W.heap.size+1) _ (aj (ds ++ [UInt8.ofNat m'])) rfl (D2.out.row (by rw[hfull.out.1];omega) _ (Nat.lt_succ_self _) _ (by rw[hfull.out.1])) (jg _) ?_ ?_ ?_ ?_;(rw[aR,hfull.out.1];unfold maxLen;omega);(rw[aR,hfull.out.1];omega);(exact Nat.zero_le _);intro v2 w2 h1 h2 h3 _;have hk2:=Kept.grown (F:=λk=>(Value.slice A q.length c).ownBlock=some k) (Kept.refl _ U).drew h2 (λk hk=> .inl hk);have HT2:=ab (HT.out.kept hk2 (λe=>(HOB.out p e).2 rfl));obtain⟨hp2,c0,c1,cf⟩:=HT2.out.facts;have HK2:=ab hk2;obtain⟨A2,cap2,hv2⟩:=iD h1;rw[hv2]at h1 h3;have H1:=ab h1;have H3:=ab h3;clear h1 h2 h3 hk2 g0 g1;rw[hv2];clear hv2 v2))
      all_goals
       go_wp2_with fail
       go_end0
       have hl:q.length+(aj (ds ++ [UInt8.ofNat m'])).length=(q ++ ao m).length:=by rw[aR,hfull.out.2];exact List.length_append.symm
       have hr:aj q ++ aj (ds ++ [UInt8.ofNat m'])=aj (q ++ ao m):=by rw[hfull.out.2];exact(oR _ _).symm
       rw[hl]at H1 H3 ⊢;rw[hr]at H1;exact rU H.out.1 H.out.2.1 H.out.2.2.1 HE.out (Kept.al D2.out.below) HK2.out HT2.out HOB.out H1.out H3.out rfl (by rw[List.length_append,hfull.out.2,hfull.out.1];exact hqs) _
    · have HOut:=ab hout;have HK:=ab hk;clear hout hk
      go_wp2_with fail
      go_end0
      exact⟨rfl,F,by rw[hfull.out.2];exact HOut.out _ _ hfull.out.1,λk hf=> .inl hf,(Kept.al D2.out.below).trans HK.out (λ_ h=> .inl h)⟩
theorem zL (a:Nat->Addr) (W:World) (F:Nat->Prop) (p:Nat) (st:Option (List UInt8)) (n:Nat) (x:Int) (h:bg a W F p st n) (hx:x < 0\/4611686018427387903 < x) (hE:ar W a):
 Calls Tryz.prog 105 #[.pointer (some ⟨p,0,none⟩),.int .i64 x] W (gN (bg a) W F p none (n+9)):=by
 obtain⟨h1,h2,hA,v,y,h3,h4,h5⟩:=h;have hg:=hE.var 0 (by omega);simp only[bA,List.getD_cons_zero]at hg;have hfin:∀ (w1:World),aH w1 p 204 (.slice none 0 0) (ai (a 0))->Kept (λk=>k=p) W w1->gN (bg a) W F p none (n+9) (.returned (.tuple #[])) w1:=λw1 ht hk=>⟨rfl,F,⟨h1,λk hf=>Nat.lt_of_lt_of_le (h2 k hf) hk.size,hA,_,_,ht,λk hk=>by simp[Value.ownBlock]at hk,rfl,rfl⟩,λk hf=> .inl hf,hk.mono λi _ hi=>by subst hi;exact h1⟩
 have HF:=ab hfin;have H3:=ab h3;clear hfin h5 h3 h4 h2 h1 hE;rcases Int.lt_or_le x 0 with hl|hl
 · have hq:decide (x < 0)=true:=by simp;omega
   clear hx
   go_enter Tryz.func105,Tryz.ntmps105
   go_wp2_with fail
   refine(ni _ _ (a 0) p _ H3.out).mono ?_;rintro e w1 ⟨rfl,ht,hk⟩;have HR:=ab (HF.out w1 ht hk);clear ht hk
   go_wp2_with fail
   go_end0
   exact HR.out
 · have hq:decide (x < 0)=false:=by simp;omega
   have hq2:decide ((4611686018427387903:Int) < x)=true:=by simp;omega
   clear hx
   go_enter Tryz.func105,Tryz.ntmps105
   go_wp2_with fail
   refine(ni _ _ (a 0) p _ H3.out).mono ?_;rintro e w1 ⟨rfl,ht,hk⟩;have HR:=ab (HF.out w1 ht hk);clear ht hk
   go_wp2_with fail
   go_end0
   exact HR.out
theorem lM (a:Nat->Addr) (W:World) (F:Nat->Prop) (p:Nat) (st:Option (List UInt8)) (n:Nat) (x:Int) (h:bg a W F p st n) (hE:ar W a):
 Calls Tryz.prog 105 #[.pointer (some ⟨p,0,none⟩),.int .i64 x] W (gN (bg a) W F p (aA st x) (n+9)):=by
 cases hr:Tide.aP x with
 | true=>
   have hb:0<=x/\x<=4611686018427387903:=by unfold Tide.aP at hr;simpa using hr
   obtain⟨m,rfl⟩:=Int.eq_ofNat_of_zero_le hb.1;have e:aA st (m:Int)=st.map (· ++ ao m):=by unfold aA;rw[if_pos hr];simp
   rw[e];exact zM a W F p st n m h (by omega) hE
 | false=>rw[Dt hr];exact zL a W F p st n x h (by unfold Tide.aP at hr;simp at hr;omega) hE
end Go.Proofs.YtdilnodbfnlhdaaGreatDoor
namespace Go.Proofs.YtdilnodbfnlhdaaGreatDoor
open Go.RowKit Tide
theorem nU {O:mO} {W w1 w2:World} {F F1:Nat->Prop} {p n:Nat} {st:Option (List UInt8)} {e:Ending} (hF1:∀k,F1 k->F k\/W.heap.size<=k) (hK1:Kept F W w1) (h:gN O w1 F1 p st n e w2):gN O W F p st n e w2:=by
 obtain⟨he,F2,hO,hF2,hK2⟩:=h;refine⟨he,F2,hO,λk hf=> ?_,hK1.trans hK2 hF1⟩;rcases hF2 k hf with h|h
 · exact hF1 k h
 · exact .inr (Nat.le_trans hK1.size h)
theorem jM {a:Nat->Addr} {W:World} {F:Nat->Prop} {p:Nat} {st:Option (List UInt8)} {n n':Nat} (h:bg a W F p st n):bg a W F p st n':=h
theorem zF (a:Nat->Addr) (W:World) (F:Nat->Prop) (p:Nat) (st:Option (List UInt8)) (n:Nat) (h:bg a W F p st n):
 Calls Tryz.prog 106 #[.pointer (some ⟨p,0,none⟩)] W (pf a W F st):=by
 have herr:∀ (v:Value) (m:Nat),m < 19->aH W p 204 v (ai (a m))->dA st=([],m+1)->Calls Tryz.prog 106 #[.pointer (some ⟨p,0,none⟩)] W (pf a W F st):=λv m hm h3 hd=>by
  have HD:=ab hd;obtain⟨_,g0,g1,gf⟩:=h3.facts;clear hd h3 h
  go_enter Tryz.func106,Tryz.ntmps106
  go_wp2_with fail
  go_quiet (fail)
  go_wp2_with fail
  go_ret2
  exact⟨_,_,rfl,by rw[HD.out];exact fO _ _,by rw[HD.out];exact bo a m hm,⟨rfl,rfl,rfl,Nat.le_refl _,λ_ _ _=>rfl⟩⟩
 obtain⟨h1,h2,hA,v,x,h3,h4,h5⟩:=h;cases st with
 | none=>obtain⟨rfl,rfl⟩:=h5;exact herr _ 0 (by omega) h3 rfl
 | some q=>
   by_cases hq:q.length<=65536
   · rw[iX a W v x hq]at h5;obtain⟨rfl,hown⟩:=h5;have HD:=ab (show dA (some q)=(q,0) from if_pos hq);have cC:=ab (gP v q W.heap.size W (Bytes.dm hown) (Nat.le_refl _) (by omega));obtain⟨A,c,rfl⟩:=iD hown;obtain⟨_,g0,g1,gf⟩:=h3.facts;clear herr hown h3 hq
     go_enter Tryz.func106,Tryz.ntmps106
     go_wp2_with fail
     refine cC.out.mono ?_;rintro e w1 ⟨v1,rfl,ho,hb⟩;have HO:=ab ho;have HB:=ab hb;clear ho hb
     go_wp2_with fail
     go_ret2
     exact⟨_,_,rfl,by rw[HD.out];exact Bytes.dm HO.out,by rw[HD.out];exact ec a,Kept.al HB.out⟩
   · rw[jO a W v x hq]at h5;obtain⟨rfl,rfl⟩:=h5;exact herr _ 2 (by omega) h3 (if_neg hq)
end Go.Proofs.YtdilnodbfnlhdaaGreatDoor
namespace Go.Proofs.YtdilnodbfnlhdaaGreatDoor
open Go.RowKit Tide
def PW (a:Nat->Addr) (W:World) (F:Nat->Prop) (p:Nat) (st:Option (List UInt8)) (w:World):Prop:=∃F1,bg a w F1 p st 0/\(∀k,F1 k->F k\/W.heap.size<=k)/\Kept F W w
def dZ (a:Nat->Addr) (W:World) (F:Nat->Prop) (p:Nat) (st:Option (List UInt8)) (e:Ending) (w:World):Prop:=e= .returned (.tuple #[])/\PW a W F p st w
section
variable {a:Nat->Addr} {W w w':World} {F F1:Nat->Prop} {p n:Nat} {st st':Option (List UInt8)}
theorem PW.start (h:bg a W F p st n):PW a W F p st W:=⟨F,jM h,λ_ hk=> .inl hk,Kept.refl _ _⟩
theorem PW.trans (hF1:∀k,F1 k->F k\/W.heap.size<=k) (hK:Kept F W w) (h:PW a w F1 p st w'):PW a W F p st w':=by
 obtain⟨F2,hO,hF2,hK2⟩:=h;refine⟨F2,hO,λk hf=> ?_,hK.trans hK2 hF1⟩;rcases hF2 k hf with h|h
 · exact hF1 k h
 · exact .inr (Nat.le_trans hK.size h)
theorem PW.call (h:PW a W F p st w) {f:FuncId} {args:Array Value} (hc:∀F1,bg a w F1 p st 0->(∀k,F1 k->F k\/W.heap.size<=k)->Kept F W w->Calls Tryz.prog f args w (dZ a w F1 p st')):Calls Tryz.prog f args w (dZ a W F p st'):=by obtain⟨F1,hO,hF1,hK⟩:=h;exact(hc F1 hO hF1 hK).mono λe w' ⟨he,hp⟩=>⟨he,hp.trans hF1 hK⟩
theorem PW.alloc (h:PW a W F p st w) (o:Obj):PW a W F p st (w.alloc o):=by obtain⟨F1,hO,hF1,hK⟩:=h;exact⟨F1,lQ hO ((Kept.refl (λ_=>False) w).alloc o) (λ_ _ h=>h),hF1,hK.alloc o⟩
theorem PW.bq (h:PW a W F p st w) (hE:ar W a) (hA:cG a F):ar w a:=by obtain⟨_,_,_,hK⟩:=h;exact hE.kept hK hA
theorem PW.size (h:PW a W F p st w):W.heap.size<=w.heap.size:=by obtain⟨_,_,_,hK⟩:=h;exact hK.size
theorem PW.cell (h:PW a W F p st w) {b o:Nat} (hb:b < W.heap.size) (hf:¬F b):w.cell? ⟨b,o,none⟩=W.cell? ⟨b,o,none⟩:=by obtain⟨_,_,_,hK⟩:=h;exact hK.cell (p:=⟨b,o,none⟩) hb hf
theorem PW.num (h:PW a W F p st w) (hE:ar W a) (hA:cG a F) (z:Int):Calls Tryz.prog 105 #[.pointer (some ⟨p,0,none⟩),.int .i64 z] w (dZ a W F p (aA st z)):=
 h.call λF1 hO _ _=>(lM a w F1 p st 0 z hO (h.bq hE hA)).mono λ_ _ ⟨he,F2,hO2,hF2,hK2⟩=>⟨he,F2,jM hO2,hF2,hK2⟩
end
theorem nS (a:Nat->Addr) (W:World) (F:Nat->Prop) (p:Nat) (q:List UInt8) (n:Nat) (h:bg a W F p (some q) n) (hq:q.length<=65536):
 Calls Tryz.prog 106 #[.pointer (some ⟨p,0,none⟩)] W λe w'=>∃v,e= .returned (.tuple #[v,.nilIface])/\w'.ownsRow W.heap.size 5 1 v q.length (aj q)/\Below W.heap.size W w':=by
 obtain⟨h1,h2,hA,v,x,h3,h4,h5⟩:=h;rw[iX a W v x hq]at h5;obtain⟨rfl,hown⟩:=h5;have cC:=ab (gP v q W.heap.size W (Bytes.dm hown) (Nat.le_refl _) (by omega));obtain⟨A,c,rfl⟩:=iD hown;obtain⟨_,g0,g1,gf⟩:=h3.facts;clear hown h3 hq h1 h2 hA h4
 go_enter Tryz.func106,Tryz.ntmps106
 go_wp2_with fail
 refine cC.out.mono ?_;rintro e w1 ⟨v1,rfl,ho,hb⟩;have HO:=ab ho;have HB:=ab hb;clear ho hb
 go_wp2_with fail
 go_ret2
 exact⟨_,rfl,HO.out,HB.out⟩
end Go.Proofs.YtdilnodbfnlhdaaGreatDoor
namespace Go.Proofs.YtdilnodbfnlhdaaGreatDoor
open Go.RowKit Tide
theorem Ae (a:Nat->Addr) (W:World) (F:Nat->Prop) (p:Nat) (st:Option (List UInt8)) (n:Nat) (s:ByteArray) (h:bg a W F p st n) (hs:s.size<=65546) (hE:ar W a):
 Calls Tryz.prog 149 #[.pointer (some ⟨p,0,none⟩),.string s] W (gN (bg a) W F p (bM st s) (n+9+s.size)):=by
 obtain⟨i0,hi,hz0,hz1,hz2⟩:=info_parts jE;have HI:=ab hi;have H:=ab h;have HE:=ab hE;have hst:aA st s.size=st.map (· ++ ao s.size):=by unfold aA;rw[if_pos (B8 (by omega))];simp
 have cN:=lM a W F p st n s.size h hE;rw[hst]at cN;have CN:=ab cN;have hsl:s.data.toList.length=s.size:=by rw[Array.length_toList];rfl
 have HSL:=ab hsl;clear hi h hE hst cN hsl
 go_enter Tryz.func149,Tryz.ntmps149
 go_wp2_with fail
 refine CN.out.mono ?_;rintro e w1 ⟨rfl,F1,hO1,hF1,hK1⟩;have HK1:=ab hK1;have HF1:=ab hF1;have HO1:=ab hO1;have HE1:=ab (HE.out.kept hK1 H.out.2.2.1);clear hK1 hF1 hO1
 go_wp2_with fail
 refine(sF a _ F1 p _ _ s.size HO1.out HE1.out).mono ?_;rintro e w2 (⟨rfl,rfl,q,A,c,hq,hqs,htwo,hown,hob⟩|⟨rfl,hk,hout⟩)
 · have HT:=ab htwo;have HO:=ab hown;have HOB:=ab hob;have HQ:=ab hq;obtain⟨hp,g0,g1,gf⟩:=htwo.facts;clear htwo hown hob hq;obtain⟨r,hr⟩:∃r,r=q ++ s.data.toList:=⟨_,rfl⟩;have HR:=ab hr;have hrl:r.length<=65536:=by rw[hr,List.length_append,HSL.out];omega
   clear hr
   go_wp2_with (at_builtin;refine EH _ rfl (.tmp 16) (.tmp 17) _ _ rfl 0 5 i0 Tryz.underlying38 Tryz.underlying9 HI.out hz0 hz1 hz2 _ q rfl HO.out s rfl r HR.out ?d1 ?d2 ?_)
   case d1=>omega
   case d2=>exact Nat.zero_le _
   intro v4 w4 hown4 hg4 hv4;have hk2:=Kept.grown (F:=λk=>(Value.slice A q.length c).ownBlock=some k) (Kept.refl _ w1) hg4 (λk hk=> .inl hk);have HT2:=ab (HT.out.kept hk2 (λe=>(HOB.out p e).2 rfl));obtain⟨hp2,c0,c1,cf⟩:=HT2.out.facts;have HK2:=ab hk2;obtain⟨A2,cap2,hv2⟩:=iD hown4;rw[hv2]at hown4 hv4;have H1:=ab hown4;have H3:=ab hv4;clear hown4 hg4 hv4 hk2 g0 g1;rw[hv2];clear hv2 v4
   go_wp2_with fail
   go_end0
   have hfin:=rU (n:=n+9+s.size) HO1.out.1 HO1.out.2.1 HO1.out.2.2.1 HE1.out (Kept.refl _ _) HK2.out HT2.out HOB.out H1.out H3.out HR.out hrl;have hst2:bM st s=some (q ++ s.data.toList):=by
    have hq:=HQ.out;unfold bM bN;cases st with
    | none=>simp at hq
    | some q0=>
      have:q0 ++ ao s.size=q:=by simpa using hq
      rw[<-this];simp
   rw[hst2];exact nU HF1.out HK1.out hfin
 · have HOut:=ab hout;have HK:=ab hk;clear hout hk
   go_wp2_with fail
   go_end0
   have hst2:bM st s=(st.map (· ++ ao s.size)).map (· ++ s.data.toList):=by
    unfold bM bN;cases st with
    | none=>rfl
    | some q0=>simp
   rw[hst2];exact nU HF1.out HK1.out ⟨rfl,F1,HOut.out _ _ HSL.out,λk hf=> .inl hf,HK.out⟩
end Go.Proofs.YtdilnodbfnlhdaaGreatDoor
namespace Go.Proofs.YtdilnodbfnlhdaaGreatDoor
open Go.RowKit Tide
section
variable {a:Nat->Addr} {W w w':World} {F F1:Nat->Prop} {p n:Nat} {st st':Option (List UInt8)}
theorem PW.text (h:PW a W F p st w) (hE:ar W a) (hA:cG a F) (s:ByteArray) (hs:s.size<=65546):Calls Tryz.prog 149 #[.pointer (some ⟨p,0,none⟩),.string s] w (dZ a W F p (bM st s)):=
 h.call λF1 hO _ _=>(Ae a w F1 p st 0 s hO hs (h.bq hE hA)).mono λ_ _ ⟨he,F2,hO2,hF2,hK2⟩=>⟨he,F2,jM hO2,hF2,hK2⟩
end
end Go.Proofs.YtdilnodbfnlhdaaGreatDoor
namespace Go.Proofs.YtdilnodbfnlhdaaGreatDoor
open Go.RowKit Tide
abbrev l9 (r:aX):Value:= .agg #[.int .i64 (r.kind:Int),.int .i64 (r.af:Int),.int .i64 (r.ep:Int),.string ⟨r.aw.toArray⟩]
theorem iU {q:List UInt8} {n:Nat} (h:n<=4611686018427387903):aA (some q) (n:Int)=some (q ++ ao n):=by have:=oP (x:=(n:Int)) (by unfold Tide.aP;simp;omega) q;rw[this];rfl
theorem DZ {q:List UInt8} {l:List UInt8}:bM (some q) ⟨l.toArray⟩=some (q ++ (ao l.length ++ l)):=by
 have:(⟨l.toArray⟩:ByteArray).size=l.length:=by show l.toArray.size=_;simp
 unfold bM bN;rw[this];simp
theorem p9 {r:aX} (h:fx r):(aV r).length<=3000:=by
 have h9:∀n:Nat,n<=1073741824->(ao n).length<=9:=λn hn=>bH (by omega);unfold aV;rcases h with⟨h1,h2,h3,h4⟩|⟨h1,h2,h3⟩|⟨h1,h2⟩
 · rw[if_pos h1];have a1:=h9 1 (by omega);have a2:=h9 r.af (by omega);have a3:=h9 r.aw.length (by omega);simp only[List.length_append];omega
 · rw[if_neg (by omega),if_pos h1];have a1:=h9 2 (by omega);have a2:=h9 r.af (by omega);have a3:=h9 r.ep (by omega);simp only[List.length_append];omega
 · rw[if_neg (by omega),if_neg (by omega)];have a1:=h9 3 (by omega);have a2:=h9 r.ep (by omega);simp only[List.length_append];omega
theorem cA {W1:World} {b:Nat} {x0 x1 x2 x3:Value} (h:W1.heap[b]? =some (.cells #[x0,x1,x2,x3] 145)):b < W1.heap.size/\W1.cell? ⟨b,0,none⟩=some x0/\W1.cell? ⟨b,1,none⟩=some x1/\W1.cell? ⟨b,2,none⟩=some x2/\W1.cell? ⟨b,3,none⟩=some x3:=by refine⟨(Array.getElem?_eq_some_iff.1 h).1,by rw[cell_of_row _ _ 0 _ _ _ h];rfl,by rw[cell_of_row _ _ 1 _ _ _ h];rfl,by rw[cell_of_row _ _ 2 _ _ _ h];rfl,by rw[cell_of_row _ _ 3 _ _ _ h];rfl⟩
theorem Bm (a:Nat->Addr) (W:World) (af ep:Int) (aw:List UInt8) (hadr:∃n:Nat,n<=4096/\af=n) (hp:aw.length<=2048) (hE:ar W a) (q:List UInt8) (hq:ao 1 ++ ao af.toNat ++ (ao aw.length ++ aw)=q) (hl:q.length<=65536):
 Calls Tryz.prog 133 #[.agg #[.int .i64 1,.int .i64 af,.int .i64 ep,.string ⟨aw.toArray⟩]] W λe w'=>∃v,e= .returned (.tuple #[v,.nilIface])/\w'.ownsRow W.heap.size 5 1 v q.length (aj q)/\Below W.heap.size W w':=by
 have hE1:=hE.alloc (.cells #[.int .i64 1,.int .i64 af,.int .i64 ep,.string ⟨aw.toArray⟩] 145);have hO:=kE a _ hE1;have hE2:=hE1.alloc (.cells #[.slice none 0 0,.nilIface] 204);simp only[World.size_alloc]at hO;have hA:=hO.2.2.1;have P0:=ab (PW.start hO);have HE:=ab hE2;have HA:=ab hA;have hR:=cA (heap_alloc_new W (.cells #[.int .i64 1,.int .i64 af,.int .i64 ep,.string ⟨aw.toArray⟩] 145));have B0:=ab (((Below.refl W.heap.size W).alloc (Nat.le_refl _) (.cells #[.int .i64 1,.int .i64 af,.int .i64 ep,.string ⟨aw.toArray⟩] 145)).alloc (by simp) (.cells #[.slice none 0 0,.nilIface] 204));have HC:=ab (show ∀i (x:Value),(W.alloc (.cells #[.int .i64 1,.int .i64 af,.int .i64 ep,.string ⟨aw.toArray⟩] 145)).cell? ⟨W.heap.size,i,none⟩=some x->∀w st,PW a ((W.alloc (.cells #[.int .i64 1,.int .i64 af,.int .i64 ep,.string ⟨aw.toArray⟩] 145)).alloc (.cells #[.slice none 0 0,.nilIface] 204)) (λk=>k=W.heap.size+1) (W.heap.size+1) st w->w.cell? ⟨W.heap.size,i,none⟩=some x from λi x hx w st hp=>(hp.cell (by simp;omega) (by omega)).trans ((World.cell?_alloc_lt _ _ ⟨W.heap.size,i,none⟩ (by simp)).trans hx));have HR:=ab hR;have HQ:=ab hq;clear hE1 hO hE2 hA hR hE hq;have hst1:aA (some (ao 1)) af=some (ao 1 ++ ao af.toNat):=by obtain⟨n,h,rfl⟩:=hadr;exact iU (by omega)
 have hst2:bM (some (ao 1 ++ ao af.toNat)) ⟨aw.toArray⟩=some (ao 1 ++ ao af.toNat ++ (ao aw.length ++ aw)):=DZ;have HS1:=ab hst1;have HS2:=ab hst2;clear hst1 hst2
 go_enter Tryz.func133,Tryz.ntmps133
 go_wp2_with fail
 refine(P0.out.num HE.out HA.out 1).mono ?_;rintro e w1 ⟨rfl,hp⟩;rw[show aA (some []) (1:Int)=some (ao 1) from iU (n:=1) (by omega)]at hp;have P1:=ab hp;have c0:=HC.out 0 _ HR.out.2.1 _ _ hp;have c1:=HC.out 1 _ HR.out.2.2.1 _ _ hp;have c2:=HC.out 2 _ HR.out.2.2.2.1 _ _ hp;have c3:=HC.out 3 _ HR.out.2.2.2.2 _ _ hp;clear hp
 go_wp2_with fail
 refine(P1.out.num HE.out HA.out af).mono ?_;rintro e w2 ⟨rfl,hp⟩;rw[HS1.out]at hp;have P2:=ab hp;clear c0 c1 c2 c3;have c0:=HC.out 0 _ HR.out.2.1 _ _ hp;have c1:=HC.out 1 _ HR.out.2.2.1 _ _ hp;have c2:=HC.out 2 _ HR.out.2.2.2.1 _ _ hp;have c3:=HC.out 3 _ HR.out.2.2.2.2 _ _ hp;clear hp
 go_wp2_with fail
 refine(P2.out.text HE.out HA.out ⟨aw.toArray⟩ (by show aw.toArray.size<=_;simp;omega)).mono ?_;rintro e w3 ⟨rfl,hp⟩;rw[HS2.out]at hp;have P3:=ab hp;clear c0 c1 c2 c3;have c0:=HC.out 0 _ HR.out.2.1 _ _ hp;have c1:=HC.out 1 _ HR.out.2.2.1 _ _ hp;have c2:=HC.out 2 _ HR.out.2.2.2.1 _ _ hp;have c3:=HC.out 3 _ HR.out.2.2.2.2 _ _ hp;clear hp;obtain⟨F9,hO9,hF9,hK9⟩:=P3.out;have CD:=ab (nS a w3 F9 _ _ 0 hO9 (by rw[HQ.out];exact hl));rw[HQ.out]at CD;have B9:=ab (B0.out.trans (hK9.below (B:=W.heap.size) (by simp;omega) (λi hi=>by rw[show i=W.heap.size+1 from hi];omega)));clear hO9 hF9 hK9
 go_wp2_with fail
 refine CD.out.mono ?_;rintro e w9 ⟨v,rfl,ho,hb⟩;have HO:=ab (eW ho B9.out.size);have B10:=ab (B9.out.trans (hb.mono B9.out.size));clear ho hb
 go_wp2_with fail
 go_ret2
 exact⟨v,rfl,HO.out,B10.out⟩
theorem Bn (a:Nat->Addr) (W:World) (af ep:Int) (aw:List UInt8) (hadr:∃n:Nat,n<=4096/\af=n) (hep:∃n:Nat,n<=1073741824/\ep=n) (hE:ar W a) (q:List UInt8) (hq:ao 2 ++ ao af.toNat ++ ao ep.toNat=q) (hl:q.length<=65536):
 Calls Tryz.prog 133 #[.agg #[.int .i64 2,.int .i64 af,.int .i64 ep,.string ⟨aw.toArray⟩]] W λe w'=>∃v,e= .returned (.tuple #[v,.nilIface])/\w'.ownsRow W.heap.size 5 1 v q.length (aj q)/\Below W.heap.size W w':=by
 have hE1:=hE.alloc (.cells #[.int .i64 2,.int .i64 af,.int .i64 ep,.string ⟨aw.toArray⟩] 145);have hO:=kE a _ hE1;have hE2:=hE1.alloc (.cells #[.slice none 0 0,.nilIface] 204);simp only[World.size_alloc]at hO;have hA:=hO.2.2.1;have P0:=ab (PW.start hO);have HE:=ab hE2;have HA:=ab hA;have hR:=cA (heap_alloc_new W (.cells #[.int .i64 2,.int .i64 af,.int .i64 ep,.string ⟨aw.toArray⟩] 145));have B0:=ab (((Below.refl W.heap.size W).alloc (Nat.le_refl _) (.cells #[.int .i64 2,.int .i64 af,.int .i64 ep,.string ⟨aw.toArray⟩] 145)).alloc (by simp) (.cells #[.slice none 0 0,.nilIface] 204));have HC:=ab (show ∀i (x:Value),(W.alloc (.cells #[.int .i64 2,.int .i64 af,.int .i64 ep,.string ⟨aw.toArray⟩] 145)).cell? ⟨W.heap.size,i,none⟩=some x->∀w st,PW a ((W.alloc (.cells #[.int .i64 2,.int .i64 af,.int .i64 ep,.string ⟨aw.toArray⟩] 145)).alloc (.cells #[.slice none 0 0,.nilIface] 204)) (λk=>k=W.heap.size+1) (W.heap.size+1) st w->w.cell? ⟨W.heap.size,i,none⟩=some x from λi x hx w st hp=>(hp.cell (by simp;omega) (by omega)).trans ((World.cell?_alloc_lt _ _ ⟨W.heap.size,i,none⟩ (by simp)).trans hx));have HR:=ab hR;have HQ:=ab hq;clear hE1 hO hE2 hA hR hE hq;have hst1:aA (some (ao 2)) af=some (ao 2 ++ ao af.toNat):=by obtain⟨n,h,rfl⟩:=hadr;exact iU (by omega)
 have hst2:aA (some (ao 2 ++ ao af.toNat)) ep=some (ao 2 ++ ao af.toNat ++ ao ep.toNat):=by obtain⟨n,h,rfl⟩:=hep;exact iU (by omega)
 have HS1:=ab hst1;have HS2:=ab hst2;clear hst1 hst2
 go_enter Tryz.func133,Tryz.ntmps133
 go_wp2_with fail
 refine(P0.out.num HE.out HA.out 2).mono ?_;rintro e w1 ⟨rfl,hp⟩;rw[show aA (some []) (2:Int)=some (ao 2) from iU (n:=2) (by omega)]at hp;have P1:=ab hp;have c0:=HC.out 0 _ HR.out.2.1 _ _ hp;have c1:=HC.out 1 _ HR.out.2.2.1 _ _ hp;have c2:=HC.out 2 _ HR.out.2.2.2.1 _ _ hp;have c3:=HC.out 3 _ HR.out.2.2.2.2 _ _ hp;clear hp
 go_wp2_with fail
 refine(P1.out.num HE.out HA.out af).mono ?_;rintro e w2 ⟨rfl,hp⟩;rw[HS1.out]at hp;have P2:=ab hp;clear c0 c1 c2 c3;have c0:=HC.out 0 _ HR.out.2.1 _ _ hp;have c1:=HC.out 1 _ HR.out.2.2.1 _ _ hp;have c2:=HC.out 2 _ HR.out.2.2.2.1 _ _ hp;have c3:=HC.out 3 _ HR.out.2.2.2.2 _ _ hp;clear hp
 go_wp2_with fail
 refine(P2.out.num HE.out HA.out ep).mono ?_;rintro e w3 ⟨rfl,hp⟩;rw[HS2.out]at hp;have P3:=ab hp;clear c0 c1 c2 c3;have c0:=HC.out 0 _ HR.out.2.1 _ _ hp;have c1:=HC.out 1 _ HR.out.2.2.1 _ _ hp;have c2:=HC.out 2 _ HR.out.2.2.2.1 _ _ hp;have c3:=HC.out 3 _ HR.out.2.2.2.2 _ _ hp;clear hp;obtain⟨F9,hO9,hF9,hK9⟩:=P3.out;have CD:=ab (nS a w3 F9 _ _ 0 hO9 (by rw[HQ.out];exact hl));rw[HQ.out]at CD;have B9:=ab (B0.out.trans (hK9.below (B:=W.heap.size) (by simp;omega) (λi hi=>by rw[show i=W.heap.size+1 from hi];omega)));clear hO9 hF9 hK9
 go_wp2_with fail
 refine CD.out.mono ?_;rintro e w9 ⟨v,rfl,ho,hb⟩;have HO:=ab (eW ho B9.out.size);have B10:=ab (B9.out.trans (hb.mono B9.out.size));clear ho hb
 go_wp2_with fail
 go_ret2
 exact⟨v,rfl,HO.out,B10.out⟩
theorem Bo (a:Nat->Addr) (W:World) (af ep:Int) (aw:List UInt8) (hep:∃n:Nat,n<=1073741824/\ep=n) (hE:ar W a) (q:List UInt8) (hq:ao 3 ++ ao ep.toNat=q) (hl:q.length<=65536):
 Calls Tryz.prog 133 #[.agg #[.int .i64 3,.int .i64 af,.int .i64 ep,.string ⟨aw.toArray⟩]] W λe w'=>∃v,e= .returned (.tuple #[v,.nilIface])/\w'.ownsRow W.heap.size 5 1 v q.length (aj q)/\Below W.heap.size W w':=by
 have hE1:=hE.alloc (.cells #[.int .i64 3,.int .i64 af,.int .i64 ep,.string ⟨aw.toArray⟩] 145);have hO:=kE a _ hE1;have hE2:=hE1.alloc (.cells #[.slice none 0 0,.nilIface] 204);simp only[World.size_alloc]at hO;have hA:=hO.2.2.1;have P0:=ab (PW.start hO);have HE:=ab hE2;have HA:=ab hA;have hR:=cA (heap_alloc_new W (.cells #[.int .i64 3,.int .i64 af,.int .i64 ep,.string ⟨aw.toArray⟩] 145));have B0:=ab (((Below.refl W.heap.size W).alloc (Nat.le_refl _) (.cells #[.int .i64 3,.int .i64 af,.int .i64 ep,.string ⟨aw.toArray⟩] 145)).alloc (by simp) (.cells #[.slice none 0 0,.nilIface] 204));have HC:=ab (show ∀i (x:Value),(W.alloc (.cells #[.int .i64 3,.int .i64 af,.int .i64 ep,.string ⟨aw.toArray⟩] 145)).cell? ⟨W.heap.size,i,none⟩=some x->∀w st,PW a ((W.alloc (.cells #[.int .i64 3,.int .i64 af,.int .i64 ep,.string ⟨aw.toArray⟩] 145)).alloc (.cells #[.slice none 0 0,.nilIface] 204)) (λk=>k=W.heap.size+1) (W.heap.size+1) st w->w.cell? ⟨W.heap.size,i,none⟩=some x from λi x hx w st hp=>(hp.cell (by simp;omega) (by omega)).trans ((World.cell?_alloc_lt _ _ ⟨W.heap.size,i,none⟩ (by simp)).trans hx));have HR:=ab hR;have HQ:=ab hq;clear hE1 hO hE2 hA hR hE hq;have hst1:aA (some (ao 3)) ep=some (ao 3 ++ ao ep.toNat):=by obtain⟨n,h,rfl⟩:=hep;exact iU (by omega)
 have HS1:=ab hst1;clear hst1
 go_enter Tryz.func133,Tryz.ntmps133
 go_wp2_with fail
 refine(P0.out.num HE.out HA.out 3).mono ?_;rintro e w1 ⟨rfl,hp⟩;rw[show aA (some []) (3:Int)=some (ao 3) from iU (n:=3) (by omega)]at hp;have P1:=ab hp;have c0:=HC.out 0 _ HR.out.2.1 _ _ hp;have c1:=HC.out 1 _ HR.out.2.2.1 _ _ hp;have c2:=HC.out 2 _ HR.out.2.2.2.1 _ _ hp;have c3:=HC.out 3 _ HR.out.2.2.2.2 _ _ hp;clear hp
 go_wp2_with fail
 refine(P1.out.num HE.out HA.out ep).mono ?_;rintro e w2 ⟨rfl,hp⟩;rw[HS1.out]at hp;have P2:=ab hp;clear c0 c1 c2 c3;have c0:=HC.out 0 _ HR.out.2.1 _ _ hp;have c1:=HC.out 1 _ HR.out.2.2.1 _ _ hp;have c2:=HC.out 2 _ HR.out.2.2.2.1 _ _ hp;have c3:=HC.out 3 _ HR.out.2.2.2.2 _ _ hp;clear hp;obtain⟨F9,hO9,hF9,hK9⟩:=P2.out;have CD:=ab (nS a w2 F9 _ _ 0 hO9 (by rw[HQ.out];exact hl));rw[HQ.out]at CD;have B9:=ab (B0.out.trans (hK9.below (B:=W.heap.size) (by simp;omega) (λi hi=>by rw[show i=W.heap.size+1 from hi];omega)));clear hO9 hF9 hK9
 go_wp2_with fail
 refine CD.out.mono ?_;rintro e w9 ⟨v,rfl,ho,hb⟩;have HO:=ab (eW ho B9.out.size);have B10:=ab (B9.out.trans (hb.mono B9.out.size));clear ho hb
 go_wp2_with fail
 go_ret2
 exact⟨v,rfl,HO.out,B10.out⟩
theorem BD (a:Nat->Addr) (W:World) (r:aX) (hE:ar W a) (hg:fx r):
 Calls Tryz.prog 133 #[l9 r] W λe w'=>∃v,e= .returned (.tuple #[v,.nilIface])/\w'.ownsRow W.heap.size 5 1 v (aV r).length (aj (aV r))/\Below W.heap.size W w':=by
 have hl:=p9 hg;obtain⟨kind,af,ep,aw⟩:=r;rcases hg with⟨h1,h2,h3,h4⟩|⟨h1,h2,h3⟩|⟨h1,h2⟩
 · simp only at h1 h2 h3 h4;subst h1;exact Bm a W af ep aw ⟨af,by omega,rfl⟩ h4 hE _ (by unfold aV;rw[if_pos rfl];rfl) (by omega)
 · simp only at h1 h2 h3;subst h1;exact Bn a W af ep aw ⟨af,by omega,rfl⟩ ⟨ep,h3,rfl⟩ hE _ (by unfold aV;rw[if_neg (show ¬(2:Nat)=1 by decide),if_pos rfl];rfl) (by omega)
 · simp only at h1 h2;subst h1;exact Bo a W af ep aw ⟨ep,h2,rfl⟩ hE _ (by unfold aV;rw[if_neg (show ¬(3:Nat)=1 by decide),if_neg (show ¬(3:Nat)=2 by decide)];rfl) (by omega)
end Go.Proofs.YtdilnodbfnlhdaaGreatDoor
namespace Go.Proofs.YtdilnodbfnlhdaaGreatDoor
open Go.RowKit Tide
theorem nD {w:World} {B:Nat} {v:Value} {zs:List Int} (h:Row w B v (ay zs)):∃A c,v= .slice A zs.length c/\∀j,j < zs.length->∃b o,A=some ⟨b,o,none⟩/\b < B/\∀j (h:j < zs.length),w.cell? ⟨b,o+j,none⟩=some (.int .i64 zs[j]):=by obtain⟨_,A,c,rfl,_,_,hc⟩:=h;refine⟨A,c,by rw[dk],λj hj=> ?_⟩;obtain⟨b,o,e,hb,hcell⟩:=hc (by intro e;have:=dk zs;rw[e]at this;simp at this;omega);refine⟨b,o,e,hb,λi hi=>hcell i _ ?_⟩;simp[ay,hi]
theorem zD (st:Option (List UInt8)) (l:List Int) (k:Nat) (h:k < l.length):(l.take (k+1)).foldl aA st=aA ((l.take k).foldl aA st) l[k]:=by rw[List.take_succ_eq_append_getElem h,List.foldl_append];rfl
theorem zN (a:Nat->Addr) (W:World) (F:Nat->Prop) (p:Nat) (st:Option (List UInt8)) (n:Nat) (v:Value) (zs:List Int) (B:Nat) (h:bg a W F p st n) (hv:Row W B v (ay zs)) (hB:B<=W.heap.size) (hF:∀k,F k->B<=k) (hE:ar W a):
 Calls Tryz.prog 148 #[.pointer (some ⟨p,0,none⟩),v] W (gN (bg a) W F p (fH st zs) (n+9+9 * zs.length)):=by
 have HE:=ab hE;have H:=ab h;have CN:=ab (lM a W F p st n zs.length h hE);have hlen:zs.length<=9223372036854775807:=by have:=hv.1;rwa[dk]at this
 obtain⟨A,c,rfl,hcell⟩:=nD hv;have HC:=ab hcell;have HF:=ab hF;have HBW:=ab hB;obtain⟨st0,hst0⟩:=aa (aA st zs.length);have HST:=ab (show fH st zs=zs.foldl aA st0 by unfold fH;rw[hst0]);rw[hst0]at CN;clear hE h hv hcell hF hB hst0
 go_enter Tryz.func148,Tryz.ntmps148
 go_wp2_with fail
 refine CN.out.mono ?_;rintro e w1 ⟨rfl,F1,hO1,hF1,hK1⟩;have S1:=ab (show ∃F1,bg a w1 F1 p st0 0/\(∀k,F1 k->F k\/W.heap.size<=k)/\Kept F W w1 from⟨F1,hO1,hF1,hK1⟩);clear hO1 hF1 hK1
 go_wp2_with fail
 go_loopw [12] (λi wr=>∃k:Nat,i= .int .i64 k/\k<=zs.length/\Hid (∃F1,bg a wr F1 p ((zs.take k).foldl aA st0) 0/\(∀k,F1 k->F k\/W.heap.size<=k)/\Kept F W wr)) (λi _=>zs.length - (intOf i).toNat)
 case atStart=>exact⟨0,rfl,Nat.zero_le _,S1⟩
 case round=>
  obtain⟨k,rfl,hk,hS⟩:=hrel;by_cases hlt:k < zs.length
  · obtain⟨b,o,rfl,hbl,hc⟩:=HC.out k hlt;obtain⟨F2,hO2,hF2,hK2⟩:=hS.out;have hc1:wr.cell? ⟨b,o+k,none⟩=some (.int .i64 zs[k]):=(hK2.cell (p:=⟨b,o+k,none⟩) (Nat.lt_of_lt_of_le hbl HBW.out) (λhf=>by have:=HF.out _ hf;exact absurd hbl (Nat.not_lt.2 this))).trans (hc k hlt);have hsn:=zD st0 zs k hlt;have HE2:=HE.out.kept hK2 H.out.2.2.1;have C2:=ab (lM a wr F2 p _ 0 zs[k] hO2 HE2);rw[<-hsn]at C2;have HF2:=ab hF2;have HK2:=ab hK2;clear hc hsn hO2 hF2 hK2 HE2 hS;generalize zs[k]=z at *
    go_wp2_with fail
    refine C2.out.mono ?_;rintro e w3 hR;obtain⟨rfl,F3,hO3,hF3,hK3⟩:=nU HF2.out HK2.out hR;have S3:=ab (show ∃F1,bg a w3 F1 p ((zs.take (k+1)).foldl aA st0) 0/\(∀k,F1 k->F k\/W.heap.size<=k)/\Kept F W w3 from⟨F3,hO3,hF3,hK3⟩);clear hO3 hF3 hK3 hR hc1
    go_wp2_with fail
    go_roundw
    case rel=>exact⟨k+1,by go_num,by omega,S3⟩
    case measure=>simp[intOf];omega
  · have hall:=ab (show(zs.take k).foldl aA st0=fH st zs by rw[HST.out,List.take_of_length_le (by omega)])
    go_wp2_with fail
    go_end0
    obtain⟨F2,hO2,hF2,hK2⟩:=hS.out;exact⟨rfl,F2,hall.out ▸ hO2,hF2,hK2⟩
end Go.Proofs.YtdilnodbfnlhdaaGreatDoor
namespace Go.Proofs.YtdilnodbfnlhdaaGreatDoor
open Go.RowKit Tide
end Go.Proofs.YtdilnodbfnlhdaaGreatDoor
