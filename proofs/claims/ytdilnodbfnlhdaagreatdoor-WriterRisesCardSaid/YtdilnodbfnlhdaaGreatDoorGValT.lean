import Derived.Test.YtdilnodbfnlhdaaGreatDoorGMem
import Derived.Test.YtdilnodbfnlhdaaGreatDoorGKinP
import Derived.Test.YtdilnodbfnlhdaaGreatDoorRows
import Derived.Test.YtdilnodbfnlhdaaGreatDoorProg
import Derived.Shelf.Unicode.WordAny
import Derived.Laws.BitsAllLaws
import Derived.BigQuiet
import Derived.Deep.QuietTactic
import Derived.Deep.DeepCutAuto
import Derived.Deep.CutBlock
import Derived.Lib.ValidAsc
import Derived.Laws.RangeAny
import Derived.Lib.ValidLaws
import Derived.Lib.TrimUEq
import Derived.Lib.RuneCount
import GoSem.Core.Utf8
import Derived.WalkKit
import Derived.WalkMore
import Derived.WalkSpells
import Derived.Shelf.Utf8.RuneCount
import Derived.Shelf.Unicode.ValidAny
set_option maxHeartbeats 16000000
set_option maxRecDepth 1000000
namespace Go.Proofs
open Go.Shelf
def Tryz.yJ:Go.Shelf.Ren:=⟨λ|195=>239|n=>n,λ|9=>9|3=>3|0=>0|4=>4|n=>n,λ|n=>n⟩
theorem Tryz.yI:Go.Proofs.Lays.n195 Tryz.prog Tryz.yJ:= {
 mixed:=by kernel_rfl
 f195:=Tryz.func239.trans (congrArg some (by kernel_rfl))
 t0:=Tryz.underlying0
 a0:=Tryz.isAgg0
 z0:=Tryz.sizeOf0
 v0:=Tryz.zeroValue0
 t3:=Tryz.underlying3
 a3:=Tryz.isAgg3
 z3:=Tryz.sizeOf3
 v3:=Tryz.zeroValue3
 t4:=Tryz.underlying4
 a4:=Tryz.isAgg4
 z4:=Tryz.sizeOf4
 v4:=Tryz.zeroValue4
 t9:=Tryz.underlying9
 a9:=Tryz.isAgg9
 z9:=Tryz.sizeOf9
 v9:=Tryz.zeroValue9 }
def Tryz.yL:Go.Shelf.Ren:=⟨λ|196=>240|259=>241|n=>n,λ|9=>9|4=>4|3=>3|5=>5|12=>12|119=>339|0=>0|46=>92|139=>342|138=>341|53=>303|n=>n,λ|3=>19|4=>20|n=>n⟩
theorem Tryz.yK:Go.Proofs.Lays.n196 Tryz.prog Tryz.yL:= {
 mixed:=by kernel_rfl
 f196:=Tryz.func240.trans (congrArg some (by kernel_rfl))
 f259:=Tryz.func241.trans (congrArg some (by kernel_rfl))
 t0:=Tryz.underlying0
 a0:=Tryz.isAgg0
 z0:=Tryz.sizeOf0
 v0:=Tryz.zeroValue0
 t3:=Tryz.underlying3
 a3:=Tryz.isAgg3
 z3:=Tryz.sizeOf3
 v3:=Tryz.zeroValue3
 t4:=Tryz.underlying4
 a4:=Tryz.isAgg4
 z4:=Tryz.sizeOf4
 v4:=Tryz.zeroValue4
 t5:=Tryz.underlying5
 a5:=Tryz.isAgg5
 z5:=Tryz.sizeOf5
 v5:=Tryz.zeroValue5
 t9:=Tryz.underlying9
 a9:=Tryz.isAgg9
 z9:=Tryz.sizeOf9
 v9:=Tryz.zeroValue9
 t12:=Tryz.underlying12
 a12:=Tryz.isAgg12
 z12:=Tryz.sizeOf12
 v12:=Tryz.zeroValue12
 t46:=Tryz.underlying92
 a46:=Tryz.isAgg92
 z46:=Tryz.sizeOf92
 v46:=Tryz.zeroValue92
 t53:=Tryz.underlying303
 a53:=Tryz.isAgg303
 z53:=Tryz.sizeOf303
 v53:=Tryz.zeroValue303
 t119:=Tryz.underlying339
 a119:=Tryz.isAgg339
 z119:=Tryz.sizeOf339
 t138:=Tryz.underlying341
 a138:=Tryz.isAgg341
 z138:=Tryz.sizeOf341
 v138:=Tryz.zeroValue341
 t139:=Tryz.underlying342
 a139:=Tryz.isAgg342
 z139:=Tryz.sizeOf342
 v139:=Tryz.zeroValue342
 g3:=by kernel_rfl
 g4:=by kernel_rfl }
end Go.Proofs
namespace Go.Proofs.YtdilnodbfnlhdaaGreatDoor
open Go.RowKit Go.Shelf Tide
theorem cK {B:Nat} {a w:World} (h:Below B a w) (n:Nat):Below B a (w.drewN n):=⟨h.os,h.tape,h.output,h.size,h.block⟩
theorem lh {B:Nat} {a w:World} (h:Below B a w) (hB:B<=w.heap.size) (s:ByteArray) (p:Nat):Below B a (w.iter s p):=h.alloc hB _
end Go.Proofs.YtdilnodbfnlhdaaGreatDoor
namespace Go.Proofs.YtdilnodbfnlhdaaGreatDoor
open Go.RowKit Tide
def fM (s:ByteArray):Nat->Nat->Bool
 | 0,_=>false
 | f+1,i=>if i < s.size then(decide ((Utf8.decode s i).1 < 32) || decide ((Utf8.decode s i).1=127)) || fM s f (i+(Utf8.decode s i).2) else false
theorem vt (s:ByteArray) (f i:Nat) (h:¬i < s.size):fM s f i=false:=by
 cases f with
 | zero=>rfl
 | succ f=>unfold fM;rw[if_neg h]
theorem vv (s:ByteArray) (f i:Nat) (h:i < s.size) (hf:s.size - i<=f):fM s f i=((decide ((Utf8.decode s i).1 < 32) || decide ((Utf8.decode s i).1=127)) || fM s (f - 1) (i+(Utf8.decode s i).2)):=by
 cases f with
 | zero=>omega
 | succ f=>conv=>lhs;unfold fM
           rw[if_pos h];rfl
def gD (V:ByteArray->Bool) (s:ByteArray):Nat:=if V s=false then 6 else if Lib.runeCount s=0 then 2 else if 24 < Lib.runeCount s then 3 else if fM s s.size 0 then 7 else 0
structure kh (T:World->Prop) (V:ByteArray->Bool):Prop where
 ky:∀W W',T W->Below W.heap.size W W'->T W'
 valid:∀ (W:World) s,s.size<=300->T W->Calls Tryz.prog 240 #[.string s] W λe w'=>e= .returned (.bool (V s))/\Below W.heap.size W w'
section
variable {T:World->Prop} {V:ByteArray->Bool}
theorem BY (hV:kh T V) (s:ByteArray) (w:World) (hs:s.size<=300) (hT:T w):
 Calls Tryz.prog 238 #[.string s] w λe w'=>e= .returned (.bool (V s))/\Below w.heap.size w w':=by
 have cV:=ab (hV.valid w s hs hT);clear hV hT
 go_enter Tryz.func238,Tryz.ntmps238
 go_wp2_with fail
 refine cV.out.mono ?_;rintro e w1 ⟨rfl,hb⟩;have HB:=ab hb;clear hb
 go_wp2_with fail
 go_ret
 exact⟨rfl,HB.out⟩
theorem wD (hV:kh T V) (s:ByteArray) (w:World) (hs:s.size<=300) (hT:T w):
 Calls Tryz.prog 237 #[.string s] w λe w'=>e= .returned (.int .i64 (if V s=false then -1 else(Lib.runeCount s:Nat)))/\Below w.heap.size w w':=by
 have cR:=ab (BY hV s w hs hT);have cC:=ab (show ∀W,Calls Tryz.prog 239 #[.string s] W _ from λW=>Any.utf8_RuneCountInString Tryz.yI s W (by omega));clear hV hT;generalize Lib.runeCount s=n at *;cases hv:V s with
 | false=>
   rw[hv]at cR
   go_enter Tryz.func237,Tryz.ntmps237
   go_wp2_with fail
   refine cR.out.mono ?_;rintro e w1 ⟨rfl,hb⟩;have HB:=ab hb;clear hb
   go_wp2_with fail
   go_ret
   exact⟨rfl,HB.out⟩
 | true=>
   rw[hv]at cR
   go_enter Tryz.func237,Tryz.ntmps237
   go_wp2_with fail
   refine cR.out.mono ?_;rintro e w1 ⟨rfl,hb⟩;have HB:=ab hb;clear hb
   go_wp2_with fail
   refine(cC.out _).mono ?_;rintro e w2 ⟨rfl,p,rfl⟩
   go_wp2_with fail
   go_ret
   exact⟨rfl,lh HB.out HB.out.size _ _⟩
theorem yD (hV:kh T V) (a:Nat->Addr) (s:ByteArray) (w:World) (hs:s.size<=300) (hT:T w) (hE:ar w a):
 Calls Tryz.prog 236 #[.string s] w λe w'=>∃x,e= .returned x/\bf a x (gD V s)/\Below w.heap.size w w':=by
 have HKV:=ab (show gD V s=if V s=false then 6 else if Lib.runeCount s=0 then 2 else if 24 < Lib.runeCount s then 3 else if fM s s.size 0 then 7 else 0 from rfl);have cC:=wD hV s w hs hT;have HE:=ab hE;clear hV hT hE;have hrc:=Lib.runeCount_le s;generalize Lib.runeCount s=n at *;cases hv:V s with
 | false=>
   rw[hv]at cC HKV;have HK:=ab (show gD V s=5+1 from HKV.out);have CC:=ab cC;clear hv cC
   go_enter Tryz.func236,Tryz.ntmps236
   go_wp2_with fail
   refine CC.out.mono ?_;rintro e w1 ⟨rfl,hb⟩;have HB:=ab hb;have hc:=(HE.out.below hb).var 5 (by omega);simp only[bA,List.getD_cons_zero,List.getD_cons_succ]at hc;clear hb CC
   go_wp2_with fail
   go_ret
   exact⟨_,rfl,by rw[HK.out];exact bo a 5 (by omega),HB.out⟩
 | true=>
   rw[hv,if_neg (by simp)]at cC HKV;have CC:=ab cC;clear hv cC
   go_enter Tryz.func236,Tryz.ntmps236
   go_wp2_with fail
   refine CC.out.mono ?_;rintro e w1 ⟨rfl,hb⟩;have HB:=ab hb;have HE1:=ab (HE.out.below hb);clear hb CC;by_cases h0:n=0
   · have HK:=ab (show gD V s=1+1 from HKV.out.trans (if_pos h0));have hc:=HE1.out.var 1 (by omega);simp only[bA,List.getD_cons_zero,List.getD_cons_succ]at hc;subst h0
     go_wp2_with fail
     go_ret
     exact⟨_,rfl,by rw[HK.out];exact bo a 1 (by omega),HB.out⟩
   by_cases h24:24 < n
   · have HK:=ab (show gD V s=2+1 from(HKV.out.trans (if_neg h0)).trans (if_pos h24));have hc:=HE1.out.var 2 (by omega);simp only[bA,List.getD_cons_zero,List.getD_cons_succ]at hc;have hz:((n:Int) == 0)=false:=by rw[beq_eq_false_iff_ne];omega
     clear h0
     go_wp2_with fail
     go_ret
     exact⟨_,rfl,by rw[HK.out];exact bo a 2 (by omega),HB.out⟩
   have HK:=ab ((HKV.out.trans (if_neg h0)).trans (if_neg h24));have hz:((n:Int) == 0)=false:=by rw[beq_eq_false_iff_ne];omega
   clear h0
   go_wp2_with fail
   go_loopw [] (λw'=>∃i f:Nat,w'=w1.iter s i/\Hid (s.size - i<=f/\fM s s.size 0=fM s f i)) (λw'=>s.size - w'.iterPos w1.heap.size)
   case atStart=>exact⟨0,s.size,rfl,ab ⟨by omega,rfl⟩⟩
   case round=>
    obtain⟨i,f,rfl,hf⟩:=hrel;by_cases hi:i < s.size
    · have hnx:∀ty,(Instr.next (.pointer (some ⟨w1.heap.size,0,none⟩)) true ty).run Tryz.prog (w1.iter s i)=_:=λty=>run_next_any w1 s i ty hi;have hw:=Lib.decode_width_pos s i hi;have hst:=ab (hf.out.2.trans (vv s f i hi hf.out.1));have hle:=decode_le s i;generalize (Utf8.decode s i).1=c at *;generalize (Utf8.decode s i).2=m at *;by_cases c1:c < 32
      · have hbad:=ab (show gD V s=6+1 by rw[HK.out,hst.out];simp[c1]);have hc:=(HE1.out.alloc (.stringIter s (i+m))).var 6 (by omega);have hc':(w1.iter s (i+m)).cell? ⟨8,0,none⟩=some (ai (a 6)):=hc;clear hc
        go_wp2_with fail
        go_ret
        exact⟨_,rfl,by rw[hbad.out];exact bo a 6 (by omega),lh HB.out HB.out.size _ _⟩
      by_cases c2:c=127
      · have hbad:=ab (show gD V s=6+1 by rw[HK.out,hst.out];simp[c2]);have hc:=(HE1.out.alloc (.stringIter s (i+m))).var 6 (by omega);have hc':(w1.iter s (i+m)).cell? ⟨8,0,none⟩=some (ai (a 6)):=hc;clear hc;subst c2
        go_wp2_with fail
        go_ret
        exact⟨_,rfl,by rw[hbad.out];exact bo a 6 (by omega),lh HB.out HB.out.size _ _⟩
      have hgood:=ab (show fM s s.size 0=fM s (f - 1) (i+m) by rw[hst.out];simp[c1,c2]);have c3:((c:Int) == 127)=false:=by simp;omega
      have hfm:=ab (show s.size - (i+m)<=f - 1 by have:=hf.out.1;omega);clear c2
      go_wp2_with fail
      go_roundw
      case rel=>exact⟨i+m,f - 1,rfl,ab ⟨hfm.out,hgood.out⟩⟩
      case measure=>simp;omega
    · have hnx:∀ty,(Instr.next (.pointer (some ⟨w1.heap.size,0,none⟩)) true ty).run Tryz.prog (w1.iter s i)=_:=λty=>run_next_end w1 s i ty hi;have hbad:=ab (show gD V s=0 by rw[HK.out,hf.out.2,vt s f i hi];rfl)
      go_wp2_with fail
      go_ret
      exact⟨_,rfl,by rw[hbad.out];exact ec a,lh HB.out HB.out.size _ _⟩
theorem yB (a:Nat->Addr) (hV:kh T V):iJ a T (gD V) where
 ky:=hV.ky
 key:=λW s hs hT hE=>yD hV a s W hs hT hE
end
end Go.Proofs.YtdilnodbfnlhdaaGreatDoor
namespace Tide
open Go
def gS (f lo hi:Nat->Nat) (t:ByteArray):Nat:=
 if f (t.get! 0).toNat % 8=2 then(if t.size < 2\/(t.get! 1).toNat < lo (f (t.get! 0).toNat / 16)\/hi (f (t.get! 0).toNat / 16) < (t.get! 1).toNat then 0 else 2) else
  if f (t.get! 0).toNat % 8=3 then(if t.size < 3\/(t.get! 1).toNat < lo (f (t.get! 0).toNat / 16)\/hi (f (t.get! 0).toNat / 16) < (t.get! 1).toNat\/(t.get! 2).toNat < 128\/191 < (t.get! 2).toNat then 0 else 3) else
   if f (t.get! 0).toNat % 8=4 then(if t.size < 4\/(t.get! 1).toNat < lo (f (t.get! 0).toNat / 16)\/hi (f (t.get! 0).toNat / 16) < (t.get! 1).toNat\/(t.get! 2).toNat < 128\/191 < (t.get! 2).toNat\/(t.get! 3).toNat < 128\/191 < (t.get! 3).toNat then 0 else 4) else 0
def ic (f lo hi:Nat->Nat):Nat->ByteArray->Bool
 | 0,_=>true
 | n+1,t=>if t.size=0 then true else if(t.get! 0).toNat < 128 then ic f lo hi n (t.extract 1 t.size) else
   if gS f lo hi t=0 then false else ic f lo hi n (t.extract (gS f lo hi t) t.size)
def dF (f lo hi:Nat->Nat) (t:ByteArray):Bool:=ic f lo hi t.size t
section
variable {f lo hi:Nat->Nat}
theorem mG:∀ (n m:Nat) (t:ByteArray),t.size<=n->t.size<=m->ic f lo hi n t=ic f lo hi m t
 | 0,0,_,_,_=>rfl
 | 0,m+1,t,h,_=>by
   have h0:t.size=0:=by omega
   unfold ic;rw[if_pos h0]
 | n+1,0,t,_,h=>by
   have h0:t.size=0:=by omega
   unfold ic;rw[if_pos h0]
 | n+1,m+1,t,h,h'=>by
   unfold ic;by_cases h0:t.size=0
   · rw[if_pos h0,if_pos h0]
   rw[if_neg h0,if_neg h0];by_cases h1:(t.get! 0).toNat < 128
   · rw[if_pos h1,if_pos h1];exact mG n m _ (by rw[Lib.ext_size];omega) (by rw[Lib.ext_size];omega)
   rw[if_neg h1,if_neg h1];by_cases h2:gS f lo hi t=0
   · rw[if_pos h2,if_pos h2]
   · rw[if_neg h2,if_neg h2];exact mG n m _ (by rw[Lib.ext_size];omega) (by rw[Lib.ext_size];omega)
theorem tY {t:ByteArray} (h:0 < t.size):dF f lo hi t=if(t.get! 0).toNat < 128 then dF f lo hi (t.extract 1 t.size) else if gS f lo hi t=0 then false else dF f lo hi (t.extract (gS f lo hi t) t.size):=by
 unfold dF;obtain⟨n,hn⟩:∃n,t.size=n+1:=⟨t.size - 1,by omega⟩
 conv=>lhs;rw[hn]
 conv=>lhs;unfold ic
 rw[if_neg (by omega)];by_cases h1:(t.get! 0).toNat < 128
 · rw[if_pos h1,if_pos h1];exact mG _ _ _ (by rw[Lib.ext_size];omega) (Nat.le_refl _)
 rw[if_neg h1,if_neg h1];by_cases h2:gS f lo hi t=0
 · rw[if_pos h2,if_pos h2]
 · rw[if_neg h2,if_neg h2];exact mG _ _ _ (by rw[Lib.ext_size];omega) (Nat.le_refl _)
theorem oZ {t:ByteArray} (h:t.size=0):dF f lo hi t=true:=by unfold dF;rw[h];rfl
theorem pH {a b:ByteArray} (h:a.data.toList=b.data.toList):a=b:=by obtain⟨⟨x⟩⟩:=a;obtain⟨⟨y⟩⟩:=b;simp at h;rw[h]
theorem xg (t:ByteArray) (i j:Nat):(t.extract i t.size).extract j (t.extract i t.size).size=t.extract (i+j) t.size:=by apply pH;rw[Lib.ext_list,Lib.ext_list,Lib.ext_list,List.drop_drop]
theorem mH:∀ (k:Nat) (t:ByteArray),Lib.Asc t k->dF f lo hi t=dF f lo hi (t.extract k t.size)
 | 0,t,_=>by have e:t.extract 0 t.size=t:=pH (by rw[Lib.ext_list];rfl);rw[e]
 | k+1,t,h=>by
   by_cases h0:t.size=0
   · rw[oZ h0,oZ (by rw[Lib.ext_size];omega)]
   · have hne:t.data.toList≠ []:=λe=>h0 (by have:t.data.size=0:=by rw[<-Array.length_toList,e];rfl
                                            exact this)
     obtain⟨b,r,hbr⟩:=List.exists_cons_of_ne_nil hne;have hb:t.get! 0=b:=by have h1:=Lib.getD_get!' t 0;rw[hbr]at h1;simpa using h1.symm
     have h1:(t.get! 0).toNat < 128:=by rw[hb];exact h b (by rw[hbr];simp)
     have h2:Lib.Asc (t.extract 1 t.size) k:=λc hc=>h c (by rw[Lib.ext_list,hbr]at hc;rw[hbr];simp at hc ⊢;exact .inr hc);rw[tY (by omega),if_pos h1,mH k _ h2,xg,Nat.add_comm]
end
end Tide
namespace Go.Proofs.YtdilnodbfnlhdaaGreatDoor
open Go.RowKit Go.Shelf Tide
def iM (f lo hi:Nat->Nat) (w:World):Prop:=
 (∀c,c < 256->w.cell? ⟨19,c,none⟩=some (.int .u8 (f c:Nat))/\f c < 256)/\
 ∀i,i < 16->w.cell? ⟨20,2 * i,none⟩=some (.int .u8 (lo i:Nat))/\w.cell? ⟨20,2 * i+1,none⟩=some (.int .u8 (hi i:Nat))/\lo i < 256/\hi i < 256
section
variable {f lo hi:Nat->Nat} {w w':World}
theorem iM.below (h:iM f lo hi w) (hb:Below w.heap.size w w'):iM f lo hi w':=by have lt:∀ {a:Addr} {v:Value},w.cell? a=some v->a.block < w.heap.size:=λhc=>World.block_lt_of_cell? _ _ hc;exact⟨λc hc=>⟨(hb.cell (lt (h.1 c hc).1)).trans (h.1 c hc).1,(h.1 c hc).2⟩,λi hi2=>⟨(hb.cell (lt (h.2 i hi2).1)).trans (h.2 i hi2).1,(hb.cell (lt (h.2 i hi2).2.1)).trans (h.2 i hi2).2.1,(h.2 i hi2).2.2⟩⟩
end
theorem jh (t:ByteArray) (W:World) (h:8<=t.size):Calls Tryz.prog 241 #[.string t] W λe w'=>e= .returned (.int .u64 (Lib.leNat [t.get! 0,t.get! 1,t.get! 2,t.get! 3,t.get! 4,t.get! 5,t.get! 6,t.get! 7]:Nat))/\∃q,w'=W.drewN q:=Any.utf8_word { Tryz.yK with } t W h
theorem iR (t:ByteArray) (i:Nat) (h:i < t.size):t[i]'h=t.get! i:=by show t[i]=t.get! i;simp[ByteArray.get!,getElem!_pos,h];rfl
theorem uM:∀X:Fin 256,bits .and .u8 ((X.val:Nat):Int) 7=((X.val % 8:Nat):Int):=by decide
def fX:Value->Nat
 | .string t=>t.size
 | _=>0
theorem Ez (f lo hi:Nat->Nat) (s:ByteArray) (w:World) (hs:s.size<=300) (hT:iM f lo hi w):
 Calls Tryz.prog 240 #[.string s] w λe w'=>e= .returned (.bool (dF f lo hi s))/\Below w.heap.size w w':=by
 obtain⟨ANS,hANS⟩:=aa (dF f lo hi s);rw[hANS];have HANS:=ab hANS;have HT:=ab hT;clear hANS hT
 go_enter Tryz.func240,Tryz.ntmps240
 go_wp2_with fail
 go_loopw [0] (λs0 wr=>∃t:ByteArray,s0= .string t/\t.size<=300/\Hid (dF f lo hi t=ANS)/\Hid (Below w.heap.size w wr)) (λs0 _=>fX s0)
 case atStart=>exact⟨s,rfl,hs,HANS,ab (Below.refl _ _)⟩
 case round=>
  obtain⟨t,rfl,hts,hv,hb⟩:=hrel;by_cases h0:0 < t.size
  · have h0z:(0:Int) < (t.size:Int):=by omega
    have hst:=tY (f:=f) (lo:=lo) (hi:=hi) h0;rw[hv.out]at hst;have hs0:=iR t 0 h0;have hx0lt:(t.get! 0).toNat < 256:=(t.get! 0).toNat_lt;by_cases hasc:(t.get! 0).toNat < 128
    · rw[if_pos hasc]at hst;have HST:=ab hst;clear hst;generalize hx0:t.get! 0=x0 at *;generalize ht1:t.extract 1 t.size=t1 at *;have z1:t1.size+1=t.size:=by rw[<-ht1,Lib.ext_size];omega
      have hascz:(x0.toNat:Int) < 128:=by omega
      have V1:=ab (show dF f lo hi t1=ANS from HST.out.symm);clear HST;by_cases c8:8 < t1.size
      · have c8z:(8:Int) < (t1.size:Int):=by omega
        have CW1:=ab (λW=>jh t1 W (by omega));have kA1:=Lib.word_asc t1 (by omega);have lA1:=Lib.word_lt t1;generalize Lib.leNat [t1.get! 0,t1.get! 1,t1.get! 2,t1.get! 3,t1.get! 4,t1.get! 5,t1.get! 6,t1.get! 7]=A1 at *;have hand1:bits .and .u64 (A1:Int) 9259542123273814144=((A1 &&& 9259542123273814144:Nat):Int):=u64_and_nat A1 9259542123273814144 lA1 (by omega);generalize A1 &&& 9259542123273814144=Z1 at *;by_cases hz1:Z1=0
        · have hz1b:((Z1:Int) == 0)=true:=by simp[hz1]
          have V2:=ab ((mH (f:=f) (lo:=lo) (hi:=hi) 8 t1 (kA1.1 hz1)).symm.trans V1.out);clear kA1 hz1 V1;generalize ht2:t1.extract 8 t1.size=t2 at *;have z2:t2.size+8=t1.size:=by rw[<-ht2,Lib.ext_size];omega
          go_wp2_with fail
          refine(CW1.out _).mono ?_;rintro e W1 ⟨rfl,q1,rfl⟩;have hb1:=ab (cK hb.out q1);generalize wr.drewN q1=wq at *;clear CW1;by_cases c16:16 < t2.size
          · have c16z:(16:Int) < (t2.size:Int):=by omega
            have c16d:decide ((16:Int) < (t2.size:Int))=true:=decide_eq_true c16z;have s8z:(8:Int)<=(t2.size:Int):=by omega
            have k2:=Lib.asc_add t2 8 8;generalize ht2b:t2.extract 8 t2.size=t2b at *;have z2b:t2b.size+8=t2.size:=by rw[<-ht2b,Lib.ext_size];omega
            have CW2:=ab (λW=>jh t2 W (by omega));have CW3:=ab (λW=>jh t2b W (by omega));have kA2:=Lib.word_asc t2 (by omega);have kA3:=Lib.word_asc t2b (by omega);have lA2:=Lib.word_lt t2;have lA3:=Lib.word_lt t2b;generalize Lib.leNat [t2.get! 0,t2.get! 1,t2.get! 2,t2.get! 3,t2.get! 4,t2.get! 5,t2.get! 6,t2.get! 7]=A2 at *;generalize Lib.leNat [t2b.get! 0,t2b.get! 1,t2b.get! 2,t2b.get! 3,t2b.get! 4,t2b.get! 5,t2b.get! 6,t2b.get! 7]=A3 at *;have hor2:bits .or .u64 (A2:Int) (A3:Int)=((A2 ||| A3:Nat):Int):=u64_or_nat A2 A3 lA2 lA3;have lor2:A2 ||| A3 < 18446744073709551616:=Nat.or_lt_two_pow (n:=64) lA2 lA3
            have hand2:bits .and .u64 ((A2 ||| A3:Nat):Int) 9259542123273814144=(((A2 ||| A3) &&& 9259542123273814144:Nat):Int):=u64_and_nat _ 9259542123273814144 lor2 (by omega);have hmask:=Lib.or_mask A2 A3 9259542123273814144;generalize A2 ||| A3=O2 at *
            have K2:=ab (show O2 &&& 9259542123273814144=0->Lib.Asc t2 16 from λh=>k2 (kA2.1 (hmask.1 h).1) (kA3.1 (hmask.1 h).2));generalize O2 &&& 9259542123273814144=Z2 at *;clear k2 kA2 kA3 hmask lor2;by_cases hz2:Z2=0
            · have hz2b:((Z2:Int) == 0)=true:=by simp[hz2]
              have V3:=ab ((mH (f:=f) (lo:=lo) (hi:=hi) 16 t2 (K2.out hz2)).symm.trans V2.out);have s16z:(16:Int)<=(t2.size:Int):=by omega
              clear hz2 K2 V2;generalize ht3:t2.extract 16 t2.size=t3 at *;have z3:t3.size+16=t2.size:=by rw[<-ht3,Lib.ext_size];omega
              go_wp2_with fail
              go_quiet (first|(go_at_call 241;with_reducible refine Calls.quiet_of (CW2.out _))|(go_at_call 241;with_reducible refine Calls.quiet_of (CW3.out _)))
              have hb2:=ab (cK hb1.out nq);generalize wq.drewN nq=wq2 at *;clear CW2 CW3
              go_wp2_with fail
              go_loopw [0] (λs0 wx=>∃u:ByteArray,s0= .string u/\u.size<=t3.size/\Hid (dF f lo hi u=ANS)/\Hid (Below w.heap.size w wx)) (λs0 _=>fX s0)
              case atStart=>exact⟨t3,rfl,Nat.le_refl _,V3,hb2⟩
              case round=>
               obtain⟨u,rfl,hut,vu,hbu⟩:=hrel;by_cases c32:32 < u.size
               · have c32z:(32:Int) < (u.size:Int):=by omega
                 have c32d:decide ((32:Int) < (u.size:Int))=true:=decide_eq_true c32z;have s8u:(8:Int)<=(u.size:Int):=by omega
                 have s16u:(16:Int)<=(u.size:Int):=by omega
                 have s24u:(24:Int)<=(u.size:Int):=by omega
                 have s32u:(32:Int)<=(u.size:Int):=by omega
                 have k16:=Lib.asc_add u 8 8;have k24:=Lib.asc_add u 16 8;have k32:=Lib.asc_add u 24 8;generalize hub:u.extract 8 u.size=ub at *;have zub:ub.size+8=u.size:=by rw[<-hub,Lib.ext_size];omega
                 generalize huc:u.extract 16 u.size=uc at *;have zuc:uc.size+16=u.size:=by rw[<-huc,Lib.ext_size];omega
                 generalize hud:u.extract 24 u.size=ud at *;have zud:ud.size+24=u.size:=by rw[<-hud,Lib.ext_size];omega
                 have CB0:=ab (λW=>jh u W (by omega));have CB1:=ab (λW=>jh ub W (by omega));have CB2:=ab (λW=>jh uc W (by omega));have CB3:=ab (λW=>jh ud W (by omega));have kB0:=Lib.word_asc u (by omega);have kB1:=Lib.word_asc ub (by omega);have kB2:=Lib.word_asc uc (by omega);have kB3:=Lib.word_asc ud (by omega);have lB0:=Lib.word_lt u;have lB1:=Lib.word_lt ub;have lB2:=Lib.word_lt uc;have lB3:=Lib.word_lt ud;generalize Lib.leNat [u.get! 0,u.get! 1,u.get! 2,u.get! 3,u.get! 4,u.get! 5,u.get! 6,u.get! 7]=B0 at *;generalize Lib.leNat [ub.get! 0,ub.get! 1,ub.get! 2,ub.get! 3,ub.get! 4,ub.get! 5,ub.get! 6,ub.get! 7]=B1 at *;generalize Lib.leNat [uc.get! 0,uc.get! 1,uc.get! 2,uc.get! 3,uc.get! 4,uc.get! 5,uc.get! 6,uc.get! 7]=B2 at *;generalize Lib.leNat [ud.get! 0,ud.get! 1,ud.get! 2,ud.get! 3,ud.get! 4,ud.get! 5,ud.get! 6,ud.get! 7]=B3 at *;have ho1:bits .or .u64 (B0:Int) (B1:Int)=((B0 ||| B1:Nat):Int):=u64_or_nat B0 B1 lB0 lB1;have ho2:bits .or .u64 (B2:Int) (B3:Int)=((B2 ||| B3:Nat):Int):=u64_or_nat B2 B3 lB2 lB3;have lo1:B0 ||| B1 < 18446744073709551616:=Nat.or_lt_two_pow (n:=64) lB0 lB1
                 have lo2:B2 ||| B3 < 18446744073709551616:=Nat.or_lt_two_pow (n:=64) lB2 lB3
                 have m1:=Lib.or_mask B0 B1 9259542123273814144;have m2:=Lib.or_mask B2 B3 9259542123273814144;generalize B0 ||| B1=P1 at *
                 generalize B2 ||| B3=P2 at *
                 have ho3:bits .or .u64 (P1:Int) (P2:Int)=((P1 ||| P2:Nat):Int):=u64_or_nat P1 P2 lo1 lo2;have lo3:P1 ||| P2 < 18446744073709551616:=Nat.or_lt_two_pow (n:=64) lo1 lo2
                 have hand3:bits .and .u64 ((P1 ||| P2:Nat):Int) 9259542123273814144=(((P1 ||| P2) &&& 9259542123273814144:Nat):Int):=u64_and_nat _ 9259542123273814144 lo3 (by omega);have m3:=Lib.or_mask P1 P2 9259542123273814144;generalize P1 ||| P2=P3 at *
                 have K3:=ab (show P3 &&& 9259542123273814144=0->Lib.Asc u 32 from λh=>k32 (k24 (k16 (kB0.1 (m1.1 (m3.1 h).1).1) (kB1.1 (m1.1 (m3.1 h).1).2)) (kB2.1 (m2.1 (m3.1 h).2).1)) (kB3.1 (m2.1 (m3.1 h).2).2));generalize P3 &&& 9259542123273814144=Z3 at *;clear kB0 kB1 kB2 kB3 m1 m2 m3 lo1 lo2 lo3 k16 k24 k32;by_cases hz3:Z3=0
                 · have hz3b:((Z3:Int) == 0)=true:=by simp[hz3]
                   have VU:=ab ((mH (f:=f) (lo:=lo) (hi:=hi) 32 u (K3.out hz3)).symm.trans vu.out);generalize hu4:u.extract 32 u.size=u4b at *;have zu4:u4b.size+32=u.size:=by rw[<-hu4,Lib.ext_size];omega
                   clear hz3 K3
                   go_wp2_with fail
                   go_quiet (first|(go_at_call 241;with_reducible refine Calls.quiet_of (CB0.out _))|(go_at_call 241;with_reducible refine Calls.quiet_of (CB1.out _))|(go_at_call 241;with_reducible refine Calls.quiet_of (CB2.out _))|(go_at_call 241;with_reducible refine Calls.quiet_of (CB3.out _)))
                   go_wp2_with fail
                   go_roundw
                   case rel=>exact⟨_,rfl,by omega,VU,ab (cK hbu.out _)⟩
                   case measure=>simp[fX];omega
                 · have hz3b:((Z3:Int) == 0)=false:=by simp[hz3]
                   clear hz3 K3
                   go_wp2_with fail
                   go_quiet (first|(go_at_call 241;with_reducible refine Calls.quiet_of (CB0.out _))|(go_at_call 241;with_reducible refine Calls.quiet_of (CB1.out _))|(go_at_call 241;with_reducible refine Calls.quiet_of (CB2.out _))|(go_at_call 241;with_reducible refine Calls.quiet_of (CB3.out _)))
                   go_wp2_with fail
                   go_roundw
                   case rel=>exact⟨_,rfl,by omega,vu,ab (cK hbu.out _)⟩
                   case measure=>simp[fX];omega
               · have c32z:¬(32:Int) < (u.size:Int):=by omega
                 have c32d:decide ((32:Int) < (u.size:Int))=false:=decide_eq_false c32z
                 go_wp2_with fail
                 go_quiet (fail)
                 go_wp2_with fail
                 go_roundw
                 case rel=>exact⟨_,rfl,by omega,vu,ab (cK hbu.out _)⟩
                 case measure=>simp[fX];omega
            · have hz2b:((Z2:Int) == 0)=false:=by simp[hz2]
              clear hz2 K2
              go_wp2_with fail
              go_quiet (first|(go_at_call 241;with_reducible refine Calls.quiet_of (CW2.out _))|(go_at_call 241;with_reducible refine Calls.quiet_of (CW3.out _)))
              go_wp2_with fail
              go_roundw
              case rel=>exact⟨_,rfl,by omega,V2,ab (cK hb1.out _)⟩
              case measure=>simp[fX];omega
          · have c16z:¬(16:Int) < (t2.size:Int):=by omega
            have c16d:decide ((16:Int) < (t2.size:Int))=false:=decide_eq_false c16z
            go_wp2_with fail
            go_quiet (fail)
            go_wp2_with fail
            go_roundw
            case rel=>exact⟨_,rfl,by omega,V2,ab (cK hb1.out _)⟩
            case measure=>simp[fX];omega
        · have hz1b:((Z1:Int) == 0)=false:=by simp[hz1]
          clear kA1 hz1
          go_wp2_with fail
          refine(CW1.out _).mono ?_;rintro e W1 ⟨rfl,q1,rfl⟩
          go_wp2_with fail
          go_roundw
          case rel=>exact⟨_,rfl,by omega,V1,ab (cK hb.out _)⟩
          case measure=>simp[fX];omega
      · have c8z:¬(8:Int) < (t1.size:Int):=by omega
        go_wp2_with fail
        go_roundw
        case rel=>exact⟨_,rfl,by omega,V1,hb⟩
        case measure=>simp[fX];omega
    · rw[if_neg hasc]at hst;have hl0:gS f lo hi t=gS f lo hi t:=rfl;have hTr:=HT.out.below hb.out;have hc0:=(hTr.1 (t.get! 0).toNat hx0lt).1;have hXlt:=(hTr.1 (t.get! 0).toNat hx0lt).2
      conv at hl0=>rhs;unfold gS
      generalize hx0:t.get! 0=x0 at *;generalize hx1:t.get! 1=x1 at *;generalize hx2:t.get! 2=x2 at *;generalize hx3:t.get! 3=x3 at *;have l1:=x1.toNat_lt;have l2:=x2.toNat_lt;have l3:=x3.toNat_lt;generalize f x0.toNat=X at *;have h7:=uM ⟨X,hXlt⟩;simp only at h7;have ha0:wr.cell? ⟨20,X / 16 * 2,none⟩=some (.int .u8 (lo (X / 16):Nat)):=by rw[Nat.mul_comm];exact(hTr.2 (X / 16) (by omega)).1
      have ha1:wr.cell? ⟨20,X / 16 * 2+1,none⟩=some (.int .u8 (hi (X / 16):Nat)):=by rw[Nat.mul_comm];exact(hTr.2 (X / 16) (by omega)).2.1
      clear hTr;generalize lo (X / 16)=LO at *;generalize hi (X / 16)=HI at *;have hascz:¬((x0.toNat:Int) < 128):=by omega
      obtain⟨SZ,hSZ⟩:=aa (X % 8);rw[hSZ]at hl0;rw[hl0]at hst;clear hl0;by_cases s2:SZ=2
      · subst s2;have hSZz:(X:Int) % 8=2:=by omega
        have HLD:=ab (show ANS=(if(if t.size < 2\/x1.toNat < LO\/HI < x1.toNat then 0 else 2)=0 then false else dF f lo hi (t.extract (if t.size < 2\/x1.toNat < LO\/HI < x1.toNat then 0 else 2) t.size)) from by have h9:=hst;simp(decide:=true) only[if_true,if_false]at h9;exact h9);clear hst;obtain⟨BB,hBB⟩:=aa (decide (t.size < 2\/x1.toNat < LO\/HI < x1.toNat));have HBB:=ab hBB;clear hBB
        go_upto_region 17 with fail
        go_cut [94]from 78 to 94 (λc wx=>c= .bool BB/\Below w.heap.size w wx)
        case first=>
         by_cases q0:t.size < 2
         · have q0z:(t.size:Int) < 2:=by omega
           have q0d:decide ((t.size:Int) < 2)=true:=decide_eq_true q0z
           go_quiet (fail)
           go_wp2_with fail
           go_meet
           exact⟨by rw[show BB=true from HBB.out.symm.trans (decide_eq_true (p:=t.size < 2\/x1.toNat < LO\/HI < x1.toNat) (by omega))]<;>rfl,cK (hb.out.alloc hb.out.size _) _⟩
         · have q0z:¬((t.size:Int) < 2):=by omega
           have q0d:decide ((t.size:Int) < 2)=false:=decide_eq_false q0z;have hz1:(1:Int) < (t.size:Int):=by omega
           have hp1:1 < t.size:=by omega
           have hs1:t[1]'(by omega)=x1:=by rw[<-hx1];exact iR t 1 (by omega)
           by_cases q1:x1.toNat < LO
           · have q1z:(x1.toNat:Int) < (LO:Int):=by omega
             have q1d:decide ((x1.toNat:Int) < (LO:Int))=true:=decide_eq_true q1z
             go_quiet (fail)
             go_wp2_with fail
             go_meet
             exact⟨by rw[show BB=true from HBB.out.symm.trans (decide_eq_true (p:=t.size < 2\/x1.toNat < LO\/HI < x1.toNat) (by omega))]<;>rfl,cK (hb.out.alloc hb.out.size _) _⟩
           · have q1z:¬((x1.toNat:Int) < (LO:Int)):=by omega
             have q1d:decide ((x1.toNat:Int) < (LO:Int))=false:=decide_eq_false q1z;by_cases q2:HI < x1.toNat
             · have q2z:(HI:Int) < (x1.toNat:Int):=by omega
               have q2d:decide ((HI:Int) < (x1.toNat:Int))=true:=decide_eq_true q2z
               go_quiet (fail)
               go_wp2_with fail
               go_meet
               exact⟨by rw[show BB=true from HBB.out.symm.trans (decide_eq_true (p:=t.size < 2\/x1.toNat < LO\/HI < x1.toNat) (by omega))]<;>rfl,cK (hb.out.alloc hb.out.size _) _⟩
             · have q2z:¬((HI:Int) < (x1.toNat:Int)):=by omega
               have q2d:decide ((HI:Int) < (x1.toNat:Int))=false:=decide_eq_false q2z
               go_quiet (fail)
               go_wp2_with fail
               go_meet
               exact⟨by rw[show BB=false from HBB.out.symm.trans (decide_eq_false (p:=t.size < 2\/x1.toNat < LO\/HI < x1.toNat) (by omega))]<;>rfl,cK (hb.out.alloc hb.out.size _) _⟩
        case rest=>
         obtain⟨rfl,hbc⟩:=hcut;have HBC:=ab hbc;clear hbc;cases BB with
         | true=>
           have hb9:t.size < 2\/x1.toNat < LO\/HI < x1.toNat:=of_decide_eq_true HBB.out;have HF:=ab (HLD.out.trans (if_pos (by rw[if_pos hb9])));clear hb9 HLD HBB
           go_wp2_with fail
           go_ret
           exact⟨by rw[HF.out]<;>rfl,HBC.out⟩
         | false=>
           have hb9:¬(t.size < 2\/x1.toNat < LO\/HI < x1.toNat):=of_decide_eq_false HBB.out;have HG:=ab (show dF f lo hi (t.extract 2 t.size)=ANS from(HLD.out.trans (by rw[if_neg hb9];exact if_neg (by omega))).symm);have hsz:2<=t.size:=by omega
           have hszz:(2:Int)<=(t.size:Int):=by omega
           generalize htn:t.extract 2 t.size=tn at *;have ztn:tn.size+2=t.size:=by rw[<-htn,Lib.ext_size];omega
           clear hb9 HLD HBB
           go_wp2_with fail
           go_roundw
           case rel=>exact⟨_,rfl,by omega,HG,HBC⟩
           case measure=>simp[fX];omega
      by_cases s3:SZ=3
      · subst s3;have hSZz:(X:Int) % 8=3:=by omega
        have HLD:=ab (show ANS=(if(if t.size < 3\/x1.toNat < LO\/HI < x1.toNat\/x2.toNat < 128\/191 < x2.toNat then 0 else 3)=0 then false else dF f lo hi (t.extract (if t.size < 3\/x1.toNat < LO\/HI < x1.toNat\/x2.toNat < 128\/191 < x2.toNat then 0 else 3) t.size)) from by have h9:=hst;simp(decide:=true) only[if_true,if_false]at h9;exact h9);clear hst;obtain⟨BB,hBB⟩:=aa (decide (t.size < 3\/x1.toNat < LO\/HI < x1.toNat\/x2.toNat < 128\/191 < x2.toNat));have HBB:=ab hBB;clear hBB
        go_upto_region 21 with fail
        go_cut [125]from 99 to 125 (λc wx=>c= .bool BB/\Below w.heap.size w wx)
        case first=>
         by_cases q0:t.size < 3
         · have q0z:(t.size:Int) < 3:=by omega
           have q0d:decide ((t.size:Int) < 3)=true:=decide_eq_true q0z
           go_quiet (fail)
           go_wp2_with fail
           go_meet
           exact⟨by rw[show BB=true from HBB.out.symm.trans (decide_eq_true (p:=t.size < 3\/x1.toNat < LO\/HI < x1.toNat\/x2.toNat < 128\/191 < x2.toNat) (by omega))]<;>rfl,cK (hb.out.alloc hb.out.size _) _⟩
         · have q0z:¬((t.size:Int) < 3):=by omega
           have q0d:decide ((t.size:Int) < 3)=false:=decide_eq_false q0z;have hz1:(1:Int) < (t.size:Int):=by omega
           have hp1:1 < t.size:=by omega
           have hs1:t[1]'(by omega)=x1:=by rw[<-hx1];exact iR t 1 (by omega)
           have hz2:(2:Int) < (t.size:Int):=by omega
           have hp2:2 < t.size:=by omega
           have hs2:t[2]'(by omega)=x2:=by rw[<-hx2];exact iR t 2 (by omega)
           by_cases q1:x1.toNat < LO
           · have q1z:(x1.toNat:Int) < (LO:Int):=by omega
             have q1d:decide ((x1.toNat:Int) < (LO:Int))=true:=decide_eq_true q1z
             go_quiet (fail)
             go_wp2_with fail
             go_meet
             exact⟨by rw[show BB=true from HBB.out.symm.trans (decide_eq_true (p:=t.size < 3\/x1.toNat < LO\/HI < x1.toNat\/x2.toNat < 128\/191 < x2.toNat) (by omega))]<;>rfl,cK (hb.out.alloc hb.out.size _) _⟩
           · have q1z:¬((x1.toNat:Int) < (LO:Int)):=by omega
             have q1d:decide ((x1.toNat:Int) < (LO:Int))=false:=decide_eq_false q1z;by_cases q2:HI < x1.toNat
             · have q2z:(HI:Int) < (x1.toNat:Int):=by omega
               have q2d:decide ((HI:Int) < (x1.toNat:Int))=true:=decide_eq_true q2z
               go_quiet (fail)
               go_wp2_with fail
               go_meet
               exact⟨by rw[show BB=true from HBB.out.symm.trans (decide_eq_true (p:=t.size < 3\/x1.toNat < LO\/HI < x1.toNat\/x2.toNat < 128\/191 < x2.toNat) (by omega))]<;>rfl,cK (hb.out.alloc hb.out.size _) _⟩
             · have q2z:¬((HI:Int) < (x1.toNat:Int)):=by omega
               have q2d:decide ((HI:Int) < (x1.toNat:Int))=false:=decide_eq_false q2z;by_cases q3:x2.toNat < 128
               · have q3z:(x2.toNat:Int) < 128:=by omega
                 have q3d:decide ((x2.toNat:Int) < 128)=true:=decide_eq_true q3z
                 go_quiet (fail)
                 go_wp2_with fail
                 go_meet
                 exact⟨by rw[show BB=true from HBB.out.symm.trans (decide_eq_true (p:=t.size < 3\/x1.toNat < LO\/HI < x1.toNat\/x2.toNat < 128\/191 < x2.toNat) (by omega))]<;>rfl,cK (hb.out.alloc hb.out.size _) _⟩
               · have q3z:¬((x2.toNat:Int) < 128):=by omega
                 have q3d:decide ((x2.toNat:Int) < 128)=false:=decide_eq_false q3z;by_cases q4:191 < x2.toNat
                 · have q4z:(191:Int) < (x2.toNat:Int):=by omega
                   have q4d:decide ((191:Int) < (x2.toNat:Int))=true:=decide_eq_true q4z
                   go_quiet (fail)
                   go_wp2_with fail
                   go_meet
                   exact⟨by rw[show BB=true from HBB.out.symm.trans (decide_eq_true (p:=t.size < 3\/x1.toNat < LO\/HI < x1.toNat\/x2.toNat < 128\/191 < x2.toNat) (by omega))]<;>rfl,cK (hb.out.alloc hb.out.size _) _⟩
                 · have q4z:¬((191:Int) < (x2.toNat:Int)):=by omega
                   have q4d:decide ((191:Int) < (x2.toNat:Int))=false:=decide_eq_false q4z
                   go_quiet (fail)
                   go_wp2_with fail
                   go_meet
                   exact⟨by rw[show BB=false from HBB.out.symm.trans (decide_eq_false (p:=t.size < 3\/x1.toNat < LO\/HI < x1.toNat\/x2.toNat < 128\/191 < x2.toNat) (by omega))]<;>rfl,cK (hb.out.alloc hb.out.size _) _⟩
        case rest=>
         obtain⟨rfl,hbc⟩:=hcut;have HBC:=ab hbc;clear hbc;cases BB with
         | true=>
           have hb9:t.size < 3\/x1.toNat < LO\/HI < x1.toNat\/x2.toNat < 128\/191 < x2.toNat:=of_decide_eq_true HBB.out;have HF:=ab (HLD.out.trans (if_pos (by rw[if_pos hb9])));clear hb9 HLD HBB
           go_wp2_with fail
           go_ret
           exact⟨by rw[HF.out]<;>rfl,HBC.out⟩
         | false=>
           have hb9:¬(t.size < 3\/x1.toNat < LO\/HI < x1.toNat\/x2.toNat < 128\/191 < x2.toNat):=of_decide_eq_false HBB.out;have HG:=ab (show dF f lo hi (t.extract 3 t.size)=ANS from(HLD.out.trans (by rw[if_neg hb9];exact if_neg (by omega))).symm);have hsz:3<=t.size:=by omega
           have hszz:(3:Int)<=(t.size:Int):=by omega
           generalize htn:t.extract 3 t.size=tn at *;have ztn:tn.size+3=t.size:=by rw[<-htn,Lib.ext_size];omega
           clear hb9 HLD HBB
           go_wp2_with fail
           go_roundw
           case rel=>exact⟨_,rfl,by omega,HG,HBC⟩
           case measure=>simp[fX];omega
      by_cases s4:SZ=4
      · subst s4;have hSZz:(X:Int) % 8=4:=by omega
        have HLD:=ab (show ANS=(if(if t.size < 4\/x1.toNat < LO\/HI < x1.toNat\/x2.toNat < 128\/191 < x2.toNat\/x3.toNat < 128\/191 < x3.toNat then 0 else 4)=0 then false else dF f lo hi (t.extract (if t.size < 4\/x1.toNat < LO\/HI < x1.toNat\/x2.toNat < 128\/191 < x2.toNat\/x3.toNat < 128\/191 < x3.toNat then 0 else 4) t.size)) from by have h9:=hst;simp(decide:=true) only[if_true,if_false]at h9;exact h9);clear hst;obtain⟨BB,hBB⟩:=aa (decide (t.size < 4\/x1.toNat < LO\/HI < x1.toNat\/x2.toNat < 128\/191 < x2.toNat\/x3.toNat < 128\/191 < x3.toNat));have HBB:=ab hBB;clear hBB
        go_upto_region 25 with fail
        go_cut [166]from 130 to 166 (λc wx=>c= .bool BB/\Below w.heap.size w wx)
        case first=>
         by_cases q0:t.size < 4
         · have q0z:(t.size:Int) < 4:=by omega
           have q0d:decide ((t.size:Int) < 4)=true:=decide_eq_true q0z
           go_quiet (fail)
           go_wp2_with fail
           go_meet
           exact⟨by rw[show BB=true from HBB.out.symm.trans (decide_eq_true (p:=t.size < 4\/x1.toNat < LO\/HI < x1.toNat\/x2.toNat < 128\/191 < x2.toNat\/x3.toNat < 128\/191 < x3.toNat) (by omega))]<;>rfl,cK (hb.out.alloc hb.out.size _) _⟩
         · have q0z:¬((t.size:Int) < 4):=by omega
           have q0d:decide ((t.size:Int) < 4)=false:=decide_eq_false q0z;have hz1:(1:Int) < (t.size:Int):=by omega
           have hp1:1 < t.size:=by omega
           have hs1:t[1]'(by omega)=x1:=by rw[<-hx1];exact iR t 1 (by omega)
           have hz2:(2:Int) < (t.size:Int):=by omega
           have hp2:2 < t.size:=by omega
           have hs2:t[2]'(by omega)=x2:=by rw[<-hx2];exact iR t 2 (by omega)
           have hz3:(3:Int) < (t.size:Int):=by omega
           have hp3:3 < t.size:=by omega
           have hs3:t[3]'(by omega)=x3:=by rw[<-hx3];exact iR t 3 (by omega)
           by_cases q1:x1.toNat < LO
           · have q1z:(x1.toNat:Int) < (LO:Int):=by omega
             have q1d:decide ((x1.toNat:Int) < (LO:Int))=true:=decide_eq_true q1z
             go_quiet (fail)
             go_wp2_with fail
             go_meet
             exact⟨by rw[show BB=true from HBB.out.symm.trans (decide_eq_true (p:=t.size < 4\/x1.toNat < LO\/HI < x1.toNat\/x2.toNat < 128\/191 < x2.toNat\/x3.toNat < 128\/191 < x3.toNat) (by omega))]<;>rfl,cK (hb.out.alloc hb.out.size _) _⟩
           · have q1z:¬((x1.toNat:Int) < (LO:Int)):=by omega
             have q1d:decide ((x1.toNat:Int) < (LO:Int))=false:=decide_eq_false q1z;by_cases q2:HI < x1.toNat
             · have q2z:(HI:Int) < (x1.toNat:Int):=by omega
               have q2d:decide ((HI:Int) < (x1.toNat:Int))=true:=decide_eq_true q2z
               go_quiet (fail)
               go_wp2_with fail
               go_meet
               exact⟨by rw[show BB=true from HBB.out.symm.trans (decide_eq_true (p:=t.size < 4\/x1.toNat < LO\/HI < x1.toNat\/x2.toNat < 128\/191 < x2.toNat\/x3.toNat < 128\/191 < x3.toNat) (by omega))]<;>rfl,cK (hb.out.alloc hb.out.size _) _⟩
             · have q2z:¬((HI:Int) < (x1.toNat:Int)):=by omega
               have q2d:decide ((HI:Int) < (x1.toNat:Int))=false:=decide_eq_false q2z;by_cases q3:x2.toNat < 128
               · have q3z:(x2.toNat:Int) < 128:=by omega
                 have q3d:decide ((x2.toNat:Int) < 128)=true:=decide_eq_true q3z
                 go_quiet (fail)
                 go_wp2_with fail
                 go_meet
                 exact⟨by rw[show BB=true from HBB.out.symm.trans (decide_eq_true (p:=t.size < 4\/x1.toNat < LO\/HI < x1.toNat\/x2.toNat < 128\/191 < x2.toNat\/x3.toNat < 128\/191 < x3.toNat) (by omega))]<;>rfl,cK (hb.out.alloc hb.out.size _) _⟩
               · have q3z:¬((x2.toNat:Int) < 128):=by omega
                 have q3d:decide ((x2.toNat:Int) < 128)=false:=decide_eq_false q3z;by_cases q4:191 < x2.toNat
                 · have q4z:(191:Int) < (x2.toNat:Int):=by omega
                   have q4d:decide ((191:Int) < (x2.toNat:Int))=true:=decide_eq_true q4z
                   go_quiet (fail)
                   go_wp2_with fail
                   go_meet
                   exact⟨by rw[show BB=true from HBB.out.symm.trans (decide_eq_true (p:=t.size < 4\/x1.toNat < LO\/HI < x1.toNat\/x2.toNat < 128\/191 < x2.toNat\/x3.toNat < 128\/191 < x3.toNat) (by omega))]<;>rfl,cK (hb.out.alloc hb.out.size _) _⟩
                 · have q4z:¬((191:Int) < (x2.toNat:Int)):=by omega
                   have q4d:decide ((191:Int) < (x2.toNat:Int))=false:=decide_eq_false q4z;by_cases q5:x3.toNat < 128
                   · have q5z:(x3.toNat:Int) < 128:=by omega
                     have q5d:decide ((x3.toNat:Int) < 128)=true:=decide_eq_true q5z
                     go_quiet (fail)
                     go_wp2_with fail
                     go_meet
                     exact⟨by rw[show BB=true from HBB.out.symm.trans (decide_eq_true (p:=t.size < 4\/x1.toNat < LO\/HI < x1.toNat\/x2.toNat < 128\/191 < x2.toNat\/x3.toNat < 128\/191 < x3.toNat) (by omega))]<;>rfl,cK (hb.out.alloc hb.out.size _) _⟩
                   · have q5z:¬((x3.toNat:Int) < 128):=by omega
                     have q5d:decide ((x3.toNat:Int) < 128)=false:=decide_eq_false q5z;by_cases q6:191 < x3.toNat
                     · have q6z:(191:Int) < (x3.toNat:Int):=by omega
                       have q6d:decide ((191:Int) < (x3.toNat:Int))=true:=decide_eq_true q6z
                       go_quiet (fail)
                       go_wp2_with fail
                       go_meet
                       exact⟨by rw[show BB=true from HBB.out.symm.trans (decide_eq_true (p:=t.size < 4\/x1.toNat < LO\/HI < x1.toNat\/x2.toNat < 128\/191 < x2.toNat\/x3.toNat < 128\/191 < x3.toNat) (by omega))]<;>rfl,cK (hb.out.alloc hb.out.size _) _⟩
                     · have q6z:¬((191:Int) < (x3.toNat:Int)):=by omega
                       have q6d:decide ((191:Int) < (x3.toNat:Int))=false:=decide_eq_false q6z
                       go_quiet (fail)
                       go_wp2_with fail
                       go_meet
                       exact⟨by rw[show BB=false from HBB.out.symm.trans (decide_eq_false (p:=t.size < 4\/x1.toNat < LO\/HI < x1.toNat\/x2.toNat < 128\/191 < x2.toNat\/x3.toNat < 128\/191 < x3.toNat) (by omega))]<;>rfl,cK (hb.out.alloc hb.out.size _) _⟩
        case rest=>
         obtain⟨rfl,hbc⟩:=hcut;have HBC:=ab hbc;clear hbc;cases BB with
         | true=>
           have hb9:t.size < 4\/x1.toNat < LO\/HI < x1.toNat\/x2.toNat < 128\/191 < x2.toNat\/x3.toNat < 128\/191 < x3.toNat:=of_decide_eq_true HBB.out;have HF:=ab (HLD.out.trans (if_pos (by rw[if_pos hb9])));clear hb9 HLD HBB
           go_wp2_with fail
           go_ret
           exact⟨by rw[HF.out]<;>rfl,HBC.out⟩
         | false=>
           have hb9:¬(t.size < 4\/x1.toNat < LO\/HI < x1.toNat\/x2.toNat < 128\/191 < x2.toNat\/x3.toNat < 128\/191 < x3.toNat):=of_decide_eq_false HBB.out;have HG:=ab (show dF f lo hi (t.extract 4 t.size)=ANS from(HLD.out.trans (by rw[if_neg hb9];exact if_neg (by omega))).symm);have hsz:4<=t.size:=by omega
           have hszz:(4:Int)<=(t.size:Int):=by omega
           generalize htn:t.extract 4 t.size=tn at *;have ztn:tn.size+4=t.size:=by rw[<-htn,Lib.ext_size];omega
           clear hb9 HLD HBB
           go_wp2_with fail
           go_roundw
           case rel=>exact⟨_,rfl,by omega,HG,HBC⟩
           case measure=>simp[fX];omega
      have hSZz:¬(X:Int) % 8=2:=by omega
      have hSZz3:¬(X:Int) % 8=3:=by omega
      have hSZz4:¬(X:Int) % 8=4:=by omega
      have HF:=ab (show ANS=false from by rw[if_neg s2,if_neg s3,if_neg s4]at hst;exact hst.trans (if_pos rfl));clear hst
      go_wp2_with fail
      all_goals
       go_ret
       exact⟨by rw[HF.out]<;>rfl,hb.out.alloc hb.out.size _⟩
  · have h0z:¬(0:Int) < (t.size:Int):=by omega
    have HF:=ab (show ANS=true from hv.out.symm.trans (oZ (by omega)))
    go_wp2_with fail
    go_ret
    exact⟨by rw[HF.out]<;>rfl,hb.out⟩
end Go.Proofs.YtdilnodbfnlhdaaGreatDoor
namespace Go.Proofs.YtdilnodbfnlhdaaGreatDoor
open Go.RowKit Tide
theorem Ey (f lo hi:Nat->Nat):kh (iM f lo hi) (dF f lo hi) where
 ky:=λ_ _ h hb=>h.below hb
 valid:=λW s hs hT=>Ez f lo hi s W hs hT
theorem yC (a:Nat->Addr) (f lo hi:Nat->Nat):iJ a (iM f lo hi) (gD (dF f lo hi)):=yB a (Ey f lo hi)
end Go.Proofs.YtdilnodbfnlhdaaGreatDoor
namespace Go.Proofs.YtdilnodbfnlhdaaGreatDoor
open Go.RowKit Tide
theorem Cj:(((begin Tryz.prog (λ_ _=>0) default).world.heap[19]?).bind Obj.row?).map (λx=>(x.1.size,x.2))=some (256,339):=by kernel_rfl
theorem Ci:(((begin Tryz.prog (λ_ _=>0) default).world.heap[20]?).bind Obj.row?).map (λx=>(x.1.size,x.2))=some (32,342):=by kernel_rfl
theorem Ea:Tryz.prog.cellTypes Tryz.prog.depth 339=some (List.replicate 256 5):=by kernel_rfl
theorem D9:Tryz.prog.cellTypes Tryz.prog.depth 342=some (List.replicate 32 5):=by kernel_rfl
theorem vL:Tryz.prog.buildable 339=true:=by kernel_rfl
theorem vJ:Tryz.prog.buildable 342=true:=by kernel_rfl
theorem qG:19 < Tryz.prog.globals.size/\20 < Tryz.prog.globals.size:=of_decide_eq_true (by kernel_rfl)
theorem sI {W:World} {g m n:Nat} {t:TypeId} {cs:Array Value} (hh:W.heap[g]? =some (.cells cs t)) (hs:cs.size=n) (hok:Row.ok Tryz.prog W .any 0 t cs) (hts:Tryz.prog.cellTypes Tryz.prog.depth t=some (List.replicate m 5)):
 ∀i,i < n->∃k:Nat,k < 256/\W.cell? ⟨g,i,none⟩=some (.int .u8 (k:Nat)):=by
 intro i hi;obtain⟨ts,h1,_,h3⟩:=hok;have hts2:ts=List.replicate m 5:=Option.some.inj (h1.symm.trans hts);subst hts2;have hv:cs[i]? =some cs[i]:=Array.getElem?_eq_getElem (by omega);obtain⟨u,hu,hc⟩:=h3 i _ hv;have hu2:u=5:=by have:=List.mem_of_getElem? hu;exact(List.mem_replicate.1 this).2
 rw[hu2]at hc;clear hu2 hu h3 h1;have hc2:=hc;unfold Cell.ok at hc2;rw[Tryz.underlying5]at hc2;clear hc;have hcell:=cell_of_row W g i cs t (0,0) hh;rw[hv]at hcell;generalize cs[i]=v at *;cases v with
 | int k' z=>
   obtain⟨rfl,hz⟩:=hc2;have hz2:0<=z/\z<=255:=by have h:=hz;unfold IntKind.has at h;simpa[IntKind.min,IntKind.max,IntKind.signed,IntKind.bits]using h
   refine⟨z.toNat,by omega,?_⟩;rw[hcell,show((z.toNat:Nat):Int)=z by omega]
 | _=>exact hc2.elim
def valOf:Option Value->Nat
 | some (.int _ z)=>z.toNat
 | _=>0
theorem DO {W:World} (h:W.ShapedOpen Tryz.prog):∃f lo hi,iM f lo hi W:=by
 obtain⟨x,hx,hxe⟩:=Option.map_eq_some_iff.1 Cj;obtain⟨y,hy,hye⟩:=Option.map_eq_some_iff.1 Ci;obtain⟨zx,tx⟩:=x;obtain⟨zy,ty⟩:=y;have ex:=Prod.mk.inj hxe;have ey:=Prod.mk.inj hye;simp only at ex ey;obtain⟨cs,h1,h2,h3⟩:=h.1 _ zx tx qG.1 hx;obtain⟨ds,g1,g2,g3⟩:=h.1 _ zy ty qG.2 hy;obtain⟨ex1,rfl⟩:=ex;obtain⟨ey1,rfl⟩:=ey;have hf:=sI h1 (h2.trans ex1) (h3 vL) Ea;have hg:=sI g1 (g2.trans ey1) (g3 vJ) D9;refine⟨λc=>valOf (W.cell? ⟨19,c,none⟩),λi=>valOf (W.cell? ⟨20,2 * i,none⟩),λi=>valOf (W.cell? ⟨20,2 * i+1,none⟩),λc hc=> ?_,λi hi=> ?_⟩
 · obtain⟨k,hk,e⟩:=hf c hc;simp only[e,valOf];exact⟨by simp,by omega⟩
 · obtain⟨k,hk,e⟩:=hg (2 * i) (by omega);obtain⟨k2,hk2,e2⟩:=hg (2 * i+1) (by omega);simp only[e,e2,valOf];exact⟨by simp,by simp,by omega,by omega⟩
end Go.Proofs.YtdilnodbfnlhdaaGreatDoor
