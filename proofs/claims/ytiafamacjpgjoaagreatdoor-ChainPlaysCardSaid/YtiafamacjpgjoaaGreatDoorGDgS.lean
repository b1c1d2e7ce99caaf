import Derived.Test.YtiafamacjpgjoaaGreatDoorGKeep
import Derived.Test.YtiafamacjpgjoaaGreatDoorGConv
import Derived.Laws.MakeOwn
import Derived.WalkKit
import Derived.WalkSpells
import Derived.Deep.QuietTactic
import Derived.BigQuiet
import Derived.Laws.CopyOwn
import Derived.OwnWalkIn
import Derived.Deep.RegionLaw
import Derived.RangeFuncNested
import Derived.RangeFuncCalls
import Derived.RangeFuncLeaves
import Derived.Laws.Bits64
import Derived.Laws.BitsAllLaws
namespace Go.Proofs.YtiafamacjpgjoaaGreatDoor
open Go.RowKit Tide
def bj (n:Nat):List UInt8:=List.replicate n 0
theorem dE (n:Nat):(bj n).length=n:=by simp[bj]
def ak (img:List UInt8) (i:Nat):List UInt8:=(img.drop (64 * i)).take 64
def mO (img:List UInt8) (ar:List (Nat × List UInt8)) (i:Nat):List UInt8:=ar.foldl (λb x=>if x.1=i then x.2 else b) (ak img i)
def dn (img:List UInt8) (x:Nat × List UInt8):List UInt8:=img.take (64 * x.1) ++ x.2 ++ img.drop (64 * x.1+64)
def aR (img:List UInt8) (ar:List (Nat × List UInt8)):List UInt8:=ar.foldl dn img
structure Dv where
 img:List UInt8
 ar:List (Nat × List UInt8)
 stop:Option Nat
abbrev aB:=World->(Nat->Prop)->Nat->Dv->Prop
theorem kY {W W':World} {F:Nat->Prop} {u:Value} {l:List UInt8} {B:Nat} (h:Bytes W B u l) (hB:B<=W.heap.size) (hk:Kept F W W') (hf:∀k,u.ownBlock=some k->¬F k):Bytes W' B u l:=by obtain⟨hn,A,c,rfl,hc1,hc2,hc⟩:=h;refine⟨hn,A,c,rfl,hc1,hc2,λhx=> ?_⟩;obtain⟨b,o,e,hb,hcell⟩:=hc hx;subst e;exact⟨b,o,rfl,hb,λj u hu=>(hk.cell (p:=⟨b,o+j,none⟩) (Nat.lt_of_lt_of_le hb hB) (hf b rfl)).trans (hcell j u hu)⟩
abbrev zT (w:World):World:=w.alloc (.cells (madeCells #[.int .u8 0] 64) 5)
theorem zU:∀W:World,(Instr.makeSlice 47 (.int .i64 64) (.int .i64 64)).run Tryz.prog W= .ok (.slice (some ⟨W.heap.size,0,none⟩) 64 64) (zT W):=λW=>by obtain⟨i0,hi,hz0,hz1,hz2⟩:=info_parts fW;have h:=run_makeSlice (P:=Tryz.prog) W 47 5 i0 (.int .u8 0) Tryz.underlying47 hi hz0 .i64 .i64 64 64 (by omega) (by omega) (by rw[hz1];decide) (by rw[hz2];omega) (by omega);rw[hz1]at h;exact h
theorem sP (n i:Nat) (h:i < n):(madeCells #[.int .u8 0] n)[i]? =some (.int .u8 0):=by have h1:i % 1=0:=Nat.mod_one i;simp[madeCells,h,h1]
theorem wN {W:World} {B b n:Nat} {l:List UInt8} (hl:l.length=n) (hn:n<=65536) (hb:b < B) (hc:∀j (h:j < l.length),W.cell? ⟨b,j,none⟩=some (.int .u8 (l[j].toNat:Int))):Bytes W B (.slice (some ⟨b,0,none⟩) n n) l:=by
 subst hl;refine⟨by rw[aW];omega,some ⟨b,0,none⟩,l.length,by rw[aW],by rw[aW];exact Nat.le_refl _,by omega,λ_=>⟨b,0,rfl,hb,λj u hu=> ?_⟩⟩;have hj:j < l.length:=by
  have:=(List.getElem?_eq_some_iff.1 hu).1
  rwa[aW]at this
 rw[Nat.zero_add,hc j hj,<-hu,iA l j hj]
theorem Am (n j:Nat) (h:j < (bj n).length):(bj n)[j]=0:=by simp[bj]
end Go.Proofs.YtiafamacjpgjoaaGreatDoor
namespace Tide
open Go Go.RowKit
theorem DK {α:Type} (xs:List α) (off:Nat):splice xs off []=xs:=by simp[splice]
theorem Eb {α:Type} (cur cs:List α) (off n:Nat) (h:off+cs.length<=n) (hn:n<=cur.length):(cur.take off ++ cs ++ cur.drop (off+cs.length)).take n=splice (cur.take n) off cs:=by
 have hl:(cur.take off).length=off:=by rw[List.length_take];omega
 have e1:(cur.take off).take n=cur.take off:=List.take_of_length_le (by omega);have e2:cs.take (n - off)=cs:=List.take_of_length_le (by omega);have e3:(cur.take n).take off=cur.take off:=by rw[List.take_take,Nat.min_eq_left (by omega)]
 unfold splice;rw[List.append_assoc,List.take_append,List.take_append,hl,e1,e2,e3,List.drop_take,Nat.sub_sub]
section
variable {P:Program}
theorem pA (w:World) (dT sT ty elem:TypeId) (hu:P.underlying dT=some (.slice elem)) (hsz:(P.info? elem).map (·.size)=some 1)
 (g off dLen dCap:Nat) (sp:Option Addr) (sLen sCap base n cap:Nat) (e:TypeId) (xs:List Value) (hown:w.ownsRow base e 1 (.slice (some ⟨g,0,none⟩) n cap) n xs) (cs:List Value) (hn:cs.length=Nat.min sLen dLen) (hfit:off+cs.length<=n)
 (h1:∀v ∈ cs,v.oneCell'=true) (hsrc:0 < cs.length->∃ad,sp=some ad/\∀j v,cs[j]? =some v->w.cell? (ad.add j)=some v):
 ∃w',(Builtin.copy_ #[dT,sT] ty #[.slice (some ⟨g,off,none⟩) dLen dCap,.slice sp sLen sCap]).run P w= .ok (goInt cs.length) w'/\w'.ownsRow base e 1 (.slice (some ⟨g,0,none⟩) n cap) n (splice xs off cs)/\w.grownBy w' (some g)/\w'.heap.size=w.heap.size:=by
 by_cases h0:cs.length=0
 · obtain rfl:cs= []:=List.eq_nil_of_length_eq_zero h0;refine⟨w,run_copy_none w dT sT ty elem _ _ dLen dCap sLen sCap hu hsz (by simpa using hn.symm),by rw[DK];exact hown,⟨rfl,rfl,rfl,Nat.le_refl _,λ_ _ _=>rfl⟩,rfl⟩
 · obtain⟨ad,rfl,hcell⟩:=hsrc (by omega);obtain⟨hl,hb⟩:=hown;rcases hb with⟨hb,_⟩|⟨g',cap',cur,he,hbase,hg,hnc,hcm,hcs,hx⟩
   · cases hb
   injection he with he1 _ he3;injection he1 with he1;injection he1 with he1;subst he1 he3;rw[Nat.mul_one]at hcs hx hl;have hfit2:off+cs.length<=cur.size:=by omega
   refine⟨_,run_copy_row P w dT sT ty elem g off dLen dCap ad sLen sCap cur e cs hu hsz hg hn hcell hfit2 h1,⟨by rw[length_splice _ _ _ (by omega),hl,Nat.mul_one],.inr ⟨g,cap,_,rfl,hbase,setRow_heap w g _ _ e _ hg,hnc,hcm,?_,?_⟩⟩,⟨rfl,rfl,rfl,by simp[World.setRow],λk _ hk=>setRow_other w g k _ (λe=>hk (by rw[e]))⟩,by simp[World.setRow]⟩
   · simp;omega
   · rw[Nat.mul_one,<-hx];exact Eb _ _ _ _ hfit (by simp;omega)
theorem vl {w:World} {ops:Array Oper} {rest:List Oper} {o:Oper} {a:Act} {Q:Exit->Act->World->Prop} (hgd:o.guard=none) (d s:Operand) (dT sT:TypeId)
 (ho:o.op= .call { callee:= .builtin .copy,args:= #[d,s],argTypes:= #[dT,sT] }) (elem:TypeId) (hu:P.underlying dT=some (.slice elem)) (hsz:(P.info? elem).map (·.size)=some 1)
 (g off dLen dCap:Nat) (hd:a.eval d= .slice (some ⟨g,off,none⟩) dLen dCap) (sp:Option Addr) (sLen sCap:Nat) (hs:a.eval s= .slice sp sLen sCap) (base n cap:Nat) (e:TypeId) (xs:List Value) (hown:w.ownsRow base e 1 (.slice (some ⟨g,0,none⟩) n cap) n xs)
 (cs:List Value) (hn:cs.length=Nat.min sLen dLen) (hfit:off+cs.length<=n) (h1:∀v ∈ cs,v.oneCell'=true) (hsrc:0 < cs.length->∃ad,sp=some ad/\∀j v,cs[j]? =some v->w.cell? (ad.add j)=some v)
 (h:∀w',Hid (w'.ownsRow base e 1 (.slice (some ⟨g,0,none⟩) n cap) n (splice xs off cs))->Hid (w.grownBy w' (some g))->Hid (w'.heap.size=w.heap.size)->wpList P ops Q rest (a.put o.dst (goInt cs.length)) w'):
 wpList P ops Q (o :: rest) a w:=by
 refine wpList_plain hgd λK hK=> ?_;obtain⟨w',hrun,r1,r2,r3⟩:=pA (P:=P) w dT sT o.type elem hu hsz g off dLen dCap sp sLen sCap base n cap e xs hown cs hn hfit h1 hsrc;unfold Oper.wp;simp[execOp,ho,resolve,invoke,builtin,hd,hs,hrun,Result.andThen];exact hK _ _ (h w' r1 r2 r3)
theorem EK {F:Fence} {nF:Nat} {w:World} {ops:Array Oper} {rest:List Oper} {o:Oper} {a:Act} {Q:Exit->Act->World->Prop} (hgd:o.guard=none) (d s:Operand) (dT sT:TypeId)
 (ho:o.op= .call { callee:= .builtin .copy,args:= #[d,s],argTypes:= #[dT,sT] }) (elem:TypeId) (hu:P.underlying dT=some (.slice elem)) (hsz:(P.info? elem).map (·.size)=some 1)
 (g off dLen dCap:Nat) (hd:a.eval d= .slice (some ⟨g,off,none⟩) dLen dCap) (sp:Option Addr) (sLen sCap:Nat) (hs:a.eval s= .slice sp sLen sCap) (base n cap:Nat) (e:TypeId) (xs:List Value) (hown:w.ownsRow base e 1 (.slice (some ⟨g,0,none⟩) n cap) n xs)
 (cs:List Value) (hn:cs.length=Nat.min sLen dLen) (hfit:off+cs.length<=n) (h1:∀v ∈ cs,v.oneCell'=true) (hsrc:0 < cs.length->∃ad,sp=some ad/\∀j v,cs[j]? =some v->w.cell? (ad.add j)=some v)
 (h:∀w',Hid (w'.ownsRow base e 1 (.slice (some ⟨g,0,none⟩) n cap) n (splice xs off cs))->Hid (w.grownBy w' (some g))->Hid (w'.heap.size=w.heap.size)->wpListIn F nF P ops Q rest (a.put o.dst (goInt cs.length)) w'):
 wpListIn F nF P ops Q (o :: rest) a w:=by
 refine wpListIn_plain hgd λK hK=> ?_;obtain⟨w',hrun,r1,r2,r3⟩:=pA (P:=P) w dT sT o.type elem hu hsz g off dLen dCap sp sLen sCap base n cap e xs hown cs hn hfit h1 hsrc;unfold Oper.wpIn;refine⟨by simp[Oper.about,ho,resolve,Target.leads,Sem.run_pure],?_⟩;rw[Oper.semAt_plain F _ _ (by rw[ho];intro c hc';cases hc')];simp[execOp,ho,resolve,invoke,builtin,hd,hs,hrun,Result.andThen];exact hK _ _ (h w' r1 r2 r3)
theorem uH {ops:Array Oper} {o:Oper} {a:Act} {w:World} {K:Act->World->Prop} {Q:Exit->Act->World->Prop} {E:Prop} (hgd:o.guard=none) (d s:Operand) (dT sT:TypeId)
 (ho:o.op= .call { callee:= .builtin .copy,args:= #[d,s],argTypes:= #[dT,sT] }) (elem:TypeId) (hu:P.underlying dT=some (.slice elem)) (hsz:(P.info? elem).map (·.size)=some 1)
 (g off dLen dCap:Nat) (hd:a.eval d= .slice (some ⟨g,off,none⟩) dLen dCap) (sp:Option Addr) (sLen sCap:Nat) (hs:a.eval s= .slice sp sLen sCap) (base n cap:Nat) (e:TypeId) (xs:List Value) (hown:w.ownsRow base e 1 (.slice (some ⟨g,0,none⟩) n cap) n xs)
 (cs:List Value) (hn:cs.length=Nat.min sLen dLen) (hfit:off+cs.length<=n) (h1:∀v ∈ cs,v.oneCell'=true) (hsrc:0 < cs.length->∃ad,sp=some ad/\∀j v,cs[j]? =some v->w.cell? (ad.add j)=some v)
 (h:∀w',Hid (w'.ownsRow base e 1 (.slice (some ⟨g,0,none⟩) n cap) n (splice xs off cs))->Hid (w.grownBy w' (some g))->Hid (w'.heap.size=w.heap.size)->K (a.put o.dst (goInt cs.length)) w'):
 if Region.wanted o (yielded ops a.tmps)=true then Oper.wp P o a w K Q else E:=by
 have hw:Region.wanted o (yielded ops a.tmps)=true:=by simp[Region.wanted,hgd]
 rw[if_pos hw];obtain⟨w',hrun,r1,r2,r3⟩:=pA (P:=P) w dT sT o.type elem hu hsz g off dLen dCap sp sLen sCap base n cap e xs hown cs hn hfit h1 hsrc;unfold Oper.wp;simp[execOp,ho,resolve,invoke,builtin,hd,hs,hrun,Result.andThen];exact h w' r1 r2 r3
end
end Tide
namespace Go.Proofs.YtiafamacjpgjoaaGreatDoor
open Go.RowKit Tide
theorem jv (l:List UInt8) (i j:Nat) (h:j < 64):(ak l i)[j]? =l[64 * i+j]? :=by unfold ak;rw[List.getElem?_take_of_lt h,List.getElem?_drop]
theorem gd (l:List UInt8) (i:Nat) (h:64 * i+64<=l.length):(ak l i).length=64:=by unfold ak;rw[List.length_take,List.length_drop];omega
theorem kB (l:List UInt8) (x:Nat × List UInt8) (h:64 * x.1+64<=l.length) (hb:x.2.length=64):(dn l x).length=l.length:=by unfold dn;rw[List.length_append,List.length_append,List.length_take,List.length_drop];omega
theorem BJ (l:List UInt8) (x:Nat × List UInt8) (h:64 * x.1+64<=l.length) (hb:x.2.length=64) (k:Nat):(dn l x)[k]? =if k < 64 * x.1 then l[k]? else if k < 64 * x.1+64 then x.2[k - 64 * x.1]? else l[k]? :=by
 have h1:(l.take (64 * x.1)).length=64 * x.1:=by rw[List.length_take];omega
 unfold dn;by_cases h2:k < 64 * x.1
 · rw[if_pos h2,List.append_assoc,List.getElem?_append_left (by omega),List.getElem?_take_of_lt h2]
 · rw[if_neg h2];by_cases h3:k < 64 * x.1+64
   · rw[if_pos h3,List.append_assoc,List.getElem?_append_right (by omega),h1,List.getElem?_append_left (by omega)]
   · rw[if_neg h3,List.getElem?_append_right (by rw[List.length_append];omega),List.length_append,h1,List.getElem?_drop]
     congr 1
     omega
theorem m6 (l:List UInt8) (x:Nat × List UInt8) (h:64 * x.1+64<=l.length) (hb:x.2.length=64) (i:Nat):ak (dn l x) i=if x.1=i then x.2 else ak l i:=by
 apply List.ext_getElem?;intro j;by_cases hj:j < 64
 · rw[jv _ _ _ hj,BJ l x h hb];by_cases hi:x.1=i
   · rw[if_neg (by omega),if_pos (by omega),if_pos hi]
     congr 1
     omega
   · rw[if_neg hi,jv _ _ _ hj];by_cases h2:64 * i+j < 64 * x.1
     · rw[if_pos h2]
     · rw[if_neg h2,if_neg (by omega)]
 · rw[List.getElem?_eq_none (by unfold ak;rw[List.length_take];omega)];symm;apply List.getElem?_eq_none;split
   · omega
   · unfold ak;rw[List.length_take];omega
theorem Ds (a b:List UInt8) (m:Nat) (ha:a.length=64 * m) (hb:b.length=64 * m) (h:∀i,i < m->ak a i=ak b i):a=b:=by
 apply List.ext_getElem?;intro k;by_cases hk:k < 64 * m
 · have h1:k / 64 < m:=by omega
   have h2:=congrArg (λl=>l[k % 64]?) (h _ h1);rw[jv _ _ _ (Nat.mod_lt _ (by omega)),jv _ _ _ (Nat.mod_lt _ (by omega))]at h2
   rwa[show 64 * (k / 64)+k % 64=k by omega]at h2
 · rw[List.getElem?_eq_none (by omega),List.getElem?_eq_none (by omega)]
def iC (m:Nat) (ar:List (Nat × List UInt8)):Prop:=∀x ∈ ar,x.1 < m/\x.2.length=64
theorem jg (m:Nat) (ar:List (Nat × List UInt8)) (h:iC m ar):∀img:List UInt8,img.length=64 * m->(aR img ar).length=64 * m:=by
 induction ar with
 | nil=>intro img hi;exact hi
 | cons x r ih=>intro img hi;have hx:=h x (by simp);exact ih (λy hy=>h y (by simp[hy])) (dn img x) (by rw[kB _ _ (by omega) hx.2];exact hi)
theorem pf (m i:Nat) (ar:List (Nat × List UInt8)) (h:iC m ar):∀img:List UInt8,img.length=64 * m->ak (aR img ar) i=mO img ar i:=by
 induction ar with
 | nil=>intro img _;rfl
 | cons x r ih=>intro img hi;have hx:=h x (by simp);have h2:=ih (λy hy=>h y (by simp[hy])) (dn img x) (by rw[kB _ _ (by omega) hx.2];exact hi);show ak (aR (dn img x) r) i=_;rw[h2];unfold mO;rw[m6 _ _ (by omega) hx.2];rfl
theorem rQ (img:List UInt8) (ar:List (Nat × List UInt8)) (x:Nat × List UInt8):aR img (ar ++ [x])=dn (aR img ar) x:=by unfold aR;rw[List.foldl_append];rfl
def gW (d:List UInt8) (now:List UInt8) (ar:List (Nat × List UInt8)):List UInt8:=aR now (ar.map λx=>(x.1,ak d x.1))
theorem pc (i:Nat) (ar:List (Nat × List UInt8)) (h:∀x ∈ ar,x.1≠i):∀b:List UInt8,ar.foldl (λb x=>if x.1=i then x.2 else b) b=b:=by
 induction ar with
 | nil=>intro b;rfl
 | cons x r ih=>intro b;rw[List.foldl_cons,if_neg (h x (by simp))];exact ih (λy hy=>h y (by simp[hy])) b
theorem Cd (d:List UInt8) (i:Nat) (ar:List (Nat × List UInt8)) (h:∃x ∈ ar,x.1=i):∀b:List UInt8,(ar.map λx=>(x.1,ak d x.1)).foldl (λb x=>if x.1=i then x.2 else b) b=ak d i:=by
 induction ar with
 | nil=>obtain⟨x,hx,_⟩:=h;cases hx
 | cons x r ih=>
   intro b;rw[List.map_cons,List.foldl_cons];by_cases hr:∃y ∈ r,y.1=i
   · exact ih hr _
   · obtain⟨y,hy,hyi⟩:=h;have hxy:y=x:=by
      rcases List.mem_cons.1 hy with e|e
      · exact e
      · exact absurd ⟨y,e,hyi⟩ hr
     subst hxy;rw[if_pos hyi,pc i _ (by intro z hz;obtain⟨u,hu,rfl⟩:=List.mem_map.1 hz;intro e;exact hr ⟨u,hu,e⟩),hyi]
theorem yx (m:Nat) (d:List UInt8) (hd:d.length=64 * m) (ar:List (Nat × List UInt8)) (h:iC m ar):iC m (ar.map λx=>(x.1,ak d x.1)):=by intro z hz;obtain⟨u,hu,rfl⟩:=List.mem_map.1 hz;have:=(h u hu).1;exact⟨this,gd _ _ (by omega)⟩
theorem wh (m:Nat) (img d:List UInt8) (ar:List (Nat × List UInt8)) (hi:img.length=64 * m) (hd:d.length=64 * m) (h:iC m ar) (hfar:∀i,i < m->(∀x ∈ ar,x.1≠i)->ak d i=ak img i):
 gW d (aR img ar) ar=d:=by
 have hf:=jg m ar h img hi;have hb:=yx m d hd ar h;refine Ds _ _ m (jg m _ hb _ hf) hd λi him=> ?_;unfold gW;rw[pf m i _ hb _ hf];unfold mO;by_cases hx:∃x ∈ ar,x.1=i
 · exact Cd d i ar hx _
 · have hne:∀x ∈ ar,x.1≠i:=λx hx' e=>hx ⟨x,hx',e⟩;rw[pc i _ (by intro z hz;obtain⟨u,hu,rfl⟩:=List.mem_map.1 hz;exact hne u hu),pf m i ar h img hi];unfold mO;rw[pc i _ hne,hfar i him hne]
theorem uC (l:List UInt8) (i:Nat) (b:List UInt8) (hb:b.length=64):splice (al l) (64 * i) (al b)=al (dn l (i,b)):=by unfold splice dn al;rw[List.length_map,hb,List.map_append,List.map_append,List.map_take,List.map_drop,List.append_assoc]
end Go.Proofs.YtiafamacjpgjoaaGreatDoor
namespace Tide
open Go Go.RowKit
def qy {α:Type} (F:Fence) (n:Nat) (P:Program) (g:Nat) (lb:Array Value) (encs:α->Array Value) (Kp:World->World->Prop) (S:List α->Prop) (Z:List α->α->Prop) (w:World):Prop:=
 ∀ (l:Nat) (J:List α->World->Prop) (W:World),Below w.heap.size w W->(∀s A B,J s A->A.grownBy B none->J s B)->
   (∀pre x A,J pre A->Z pre x->YieldAt F (n - 1) P l (encs x) A λe B=>e= .returned (.bool true)/\J (pre ++ [x]) B/\Kp A B)->
   J [] W->CallsIn F n P g (#[.func (.yield l) #[] #[]] ++ lb) W λe W'=>(∃v,e= .returned v)/\∃xs,S xs/\J xs W'
variable {F:Fence} {n:Nat} {P:Program}
theorem BN {α:Type} {g:Operand} {ps:Array Tmp} {assign body:Code} {Q:Exit->Act->World->Prop} {a:Act} {w:World}
 (hro:F.round=none) (h1:1<=n) {gf:Nat} {lb:Array Value} (hg:a.eval g= .func (.func gf) #[] lb) (hF:F.fn gf) (eg:∀args w,(callFunc gf args).run P w= .ok (.enter gf args) w)
 {encs:α->Array Value} (hps:∀x,(encs x).size=ps.size) {Kp:World->World->Prop} {S:List α->Prop} {Z:List α->α->Prop} (hseq:qy F (n - 1) P gf lb encs Kp S Z w)
 (hKt:∀ {A B C:World},Kp A B->Kp B C->Kp A C) (hKb:∀ (W:World) (l:Nat) (o:Obj),w.heap.size<=l->Kp W (W.putObj l o))
 (I:List α->World->Prop) (hI:∀s A B,I s A->A.grownBy B none->I s B) (hIo:∀s A l o o',I s A->w.heap.size<=l->A.heap[l]? =some o->o.isCells=false->I s (A.putObj l o')) (h0:I [] w)
 (a₁:α->Act)
 (hassign:∀ (l:Nat) (x:α) (W:World) (K:Act->World->Prop),K (a₁ x) W->
   assign.wpIn (F.inRound l) (n - 1 - 1) P (Exit.then K (λ_ _ _=>False)) { tmps:=(ps.zip (encs x)).foldl (λt (p,v)=>t.setIfInBounds p v) a.tmps,defers:= [] } W)
 (hbody:∀ (l:Nat) (pre:List α) (x:α) (W:World),I pre W->Z pre x->
   body.wpIn (F.inRound l) (n - 1 - 1) P (λe _ W'=>e= .normal/\KeepsOthers W W'/\Kp W W'/\I (pre ++ [x]) W') (a₁ x) W)
 (hdone:∀ (D:Nat) (xs:List α) (W:World),w.heap.size<=D->S xs->I xs W->W.heap[D]? =some (.deferred (some []))->Q .normal { a with defers:= { target:= .collected D,args:= #[] } :: a.defers } W):
 (Code.rangeFunc g ps assign body).wpIn F n P Q a w:=by
 refine wpIn_rangeFunc λfn hfn=> ?_;rw[hro];generalize hr:(λst=>({ state:=st,pending:=none,fn,tmps:=a.tmps,params:=ps,assign,body,defers:=w.heap.size }:Loop))=r;have hst:∀st,(r st).state=st:=λst=>by rw[<-hr]
 have hpe:∀st,(r st).pending=none:=λst=>by rw[<-hr]
 have hbusy: { r .ready with state:= .busy }=r .busy:=by rw[<-hr]
 have hback: { r .busy with state:=(if(none:Option Code).isNone then .ready else .done),pending:=(none:Option Code) }=r .ready:=by rw[<-hr];rfl
 let J:List α->World->Prop:=λpre W=>I pre W/\W.heap[w.heap.size+1]? =some (.loop (r .ready))/\W.heap[w.heap.size]? =some (.deferred (some []))
 have hA:∀o,w.grownBy (w.alloc o) none:=λo=>World.grownBy_alloc w o none
 let W1:=(w.alloc (.deferred (some []))).alloc (.loop (r .ready))
 have hJ1:J [] W1:=by
  refine⟨hI _ _ _ (hI _ _ _ h0 (hA _)) (World.grownBy_alloc _ _ none),?_,?_⟩
  · have:=World.alloc_heap_new (w.alloc (.deferred (some []))) (.loop (r .ready))
    rwa[World.size_alloc]at this
  · exact(Below.heap_alloc _ _ _ (by simp)).trans (World.alloc_heap_new w _)
 have hJk:∀s A B,J s A->A.grownBy B none->J s B:=λs A B h hg=>by have aj:∀ (k:Nat) (o:Obj),w.heap.size<=k->A.heap[k]? =some o->B.heap[k]? =some o:=λk o hk ho=>(hg.block k (Array.getElem?_eq_some_iff.1 ho).1 (by simp)).trans ho;exact⟨hI _ _ _ h.1 hg,aj _ _ (by omega) h.2.1,aj _ _ (Nat.le_refl _) h.2.2⟩
 refine⟨w.heap.size+1, [{ target:= .collected w.heap.size,args:= #[] }],W1,{ target:= .fn (.func gf) lb,args:= #[.func (.yield (w.heap.size+1)) #[] #[]] },W1,gf,
  #[.func (.yield (w.heap.size+1)) #[] #[]] ++ lb,W1,?_,?_,?_,?_,λ_=>h1,?_⟩
 · have:=run_enterLoop_outer (P:=P) (w:=w) fn a.tmps ps assign body;rw[this];show _=Result.ok _ ((w.alloc (.deferred (some []))).alloc (.loop (r .ready)));rw[<-hr]
 · simp only[resolve,hg];simp[go_sem]
 · intro f' h;simp[Target.leads]at h;exact h ▸ hF
 · simp[invoke,go_sem,eg]
 refine(hseq (w.heap.size+1) J W1 ?_ hJk ?_ hJ1).mono ?_
 · exact((Below.refl _ w).alloc (Nat.le_refl _) _).alloc (by simp) _
 · -- one round
   rintro pre x A ⟨hi,hl,hd⟩ hN;have hlt:w.heap.size+1 < A.heap.size:=(Array.getElem?_eq_some_iff.1 hl).1;have hy:=run_yield (P:=P) (args:=encs x) hl (by rw[<-hr];exact hps x);have hbg:=run_beginRound (P:=P) hl (hst _);rw[hbusy]at hbg;refine⟨fn,_,assign,body,by rw[hy,<-hr],roundIn_of_wpIn hfn (hassign _ x A _ ⟨_,hbg,?_⟩)⟩;refine wpIn_mono (hbody _ pre x _ (hIo _ _ _ _ _ hi (by omega) hl rfl) hN) ?_;rintro e a' B ⟨rfl,hk,hkp,hi'⟩;have hl2:B.heap[w.heap.size+1]? =some (.loop (r .busy)):=hk.same _ _ (World.putObj_heap_same hlt) rfl;have hd2:B.heap[w.heap.size]? =some (.deferred (some [])):=hk.same _ _ ((World.putObj_heap_other (by omega)).trans hd) rfl;have hend:=run_endRound (P:=P) none hl2;rw[hback]at hend;refine⟨_,_,hend,rfl,⟨hIo _ _ _ _ _ hi' (by omega) hl2 rfl,World.putObj_heap_same (Array.getElem?_eq_some_iff.1 hl2).1,(World.putObj_heap_other (by omega)).trans hd2⟩,?_⟩;exact hKt (hKt (hKb _ _ _ (by omega)) hkp) (hKb _ _ _ (by omega))
 · rintro e W2 ⟨⟨v,rfl⟩,xs,hS,hi,hl,hd⟩;have hend:=run_endLoop (P:=P) hl (by rw[hst];simp);rw[hpe]at hend;exact⟨none,_,hend,hdone _ xs _ (Nat.le_refl _) hS (hIo _ _ _ _ _ hi (by omega) hl rfl) ((World.putObj_heap_other (by omega)).trans hd)⟩
end Tide
namespace Go.Proofs.YtiafamacjpgjoaaGreatDoor
open Go Go.RowKit Tide
def bU:List UInt8->Nat
 | []=>0
 | c :: l=>c.toNat+256 * bU l
theorem oz:∀l:List UInt8,bU l < 256 ^ l.length
 | []=>by simp[bU]
 | c :: l=>by have:=oz l;have hc:=c.toNat_lt;simp only[bU,List.length_cons,Nat.pow_succ];omega
theorem lk:∀ (l:List UInt8) (c:UInt8),bU (l ++ [c])=bU l+256 ^ l.length * c.toNat
 | [],c=>by simp[bU]
 | d :: l,c=>by have:=lk l c;simp only[bU,List.cons_append,this,List.length_cons,Nat.pow_succ,Nat.mul_add];rw[Nat.mul_assoc,Nat.mul_left_comm,Nat.add_assoc]
theorem zM (l:List UInt8) (c:UInt8) (j:Nat) (hj:l.length=j):bU l ||| c.toNat * 2 ^ (8 * j)=bU (l ++ [c]):=by
 have h1:=oz l;have e:(256:Nat) ^ l.length=2 ^ (8 * j):=by rw[hj,show(256:Nat)=2 ^ 8 by rfl,<-Nat.pow_mul]
 rw[e]at h1;rw[lk,e,Nat.or_comm,Nat.mul_comm,<-Nat.two_pow_add_eq_or_of_lt h1,Nat.add_comm]
theorem mf (a b:Nat) (ha:a < 2 ^ 63) (hb:b < 2 ^ 63):bits .or .i64 (a:Int) (b:Int)=((a ||| b:Nat):Int):=by
 have hx:a ||| b < 2 ^ 63:=Nat.or_lt_two_pow ha hb
 have e1:(BitVec.ofInt 64 (a:Int)).toNat=a:=by rw[BitVec.ofInt_natCast,BitVec.toNat_ofNat];exact Nat.mod_eq_of_lt (by omega)
 have e2:(BitVec.ofInt 64 (b:Int)).toNat=b:=by rw[BitVec.ofInt_natCast,BitVec.toNat_ofNat];exact Nat.mod_eq_of_lt (by omega)
 show IntKind.i64.wrap ((BitVec.ofInt 64 (a:Int) ||| BitVec.ofInt 64 (b:Int)).toNat:Int)=_;rw[BitVec.toNat_or,e1,e2];simp[IntKind.wrap,IntKind.signed,IntKind.bits];omega
theorem sJ (l r:List UInt8):bU l<=bU (l ++ r):=by
 induction l with
 | nil=>simp[bU]
 | cons c l ih=>simp only[List.cons_append,bU];omega
theorem AX (l:List UInt8) (c:UInt8) (j:Nat) (hj:l.length=j) (h:bU (l ++ [c]) < 2 ^ 63):bits .or .i64 (bU l:Int) (((c.toNat * 2 ^ (8 * j):Nat)):Int)=((bU (l ++ [c]):Nat):Int):=by
 have h1:=sJ l [c];have e:(256:Nat) ^ l.length=2 ^ (8 * j):=by rw[hj,show(256:Nat)=2 ^ 8 by rfl,<-Nat.pow_mul]
 have h2:c.toNat * 2 ^ (8 * j)<=bU (l ++ [c]):=by rw[lk,e,Nat.mul_comm];omega
 rw[mf _ _ (by omega) (by omega),zM l c j hj]
def gq (n:Nat):Nat->List UInt8
 | 0=> []
 | k+1=>gq n k ++ [UInt8.ofNat (n / 2 ^ (8 * k))]
theorem fL (n k:Nat):(gq n k).length=k:=by
 induction k with
 | zero=>rfl
 | succ k ih=>rw[gq,List.length_append,ih];rfl
theorem oy (n:Nat):∀k,bU (gq n k)=n % 256 ^ k
 | 0=>by simp[gq,bU];omega
 | k+1=>by
   rw[gq,lk,fL,oy n k];have e:(UInt8.ofNat (n / 2 ^ (8 * k))).toNat=n / 256 ^ k % 256:=by rw[show(256:Nat) ^ k=2 ^ (8 * k) by rw[show(256:Nat)=2 ^ 8 by rfl,<-Nat.pow_mul]];simp
   rw[e,Nat.pow_succ,Nat.mod_mul]
def du (n:Nat):List UInt8:=gq n 8 ++ bj 55 ++ [1]
theorem g7 (n:Nat):(du n).length=64:=by simp[du,fL,dE]
theorem sa (n:Nat):(du n)[63]? =some 1:=by unfold du;rw[List.getElem?_append_right (by simp[fL,dE])];simp[fL,dE]
theorem yN (n:Nat) (h:n < 2 ^ 63):bU ((du n).take 8)=n:=by unfold du;rw[List.append_assoc,List.take_append_of_le_length (by rw[fL];omega),List.take_of_length_le (by rw[fL];omega),oy];exact Nat.mod_eq_of_lt (by omega)
theorem zL (n:Nat) (j:Nat):∀k,j<=k->(gq n k).take j=gq n j:=by
 intro k
 induction k with
 | zero=>intro h;obtain rfl:j=0:=by omega
         rfl
 | succ k ih=>
   intro h;by_cases hk:j<=k
   · rw[gq,List.take_append_of_le_length (by rw[fL];omega),ih hk]
   · obtain rfl:j=k+1:=by omega
     exact List.take_of_length_le (by rw[fL];omega)
theorem yO (n:Nat) (h:n < 65536):bU ((du n).take 2)=n:=by unfold du;rw[List.append_assoc,List.take_append_of_le_length (by rw[fL];omega),zL n 2 8 (by omega),oy];exact Nat.mod_eq_of_lt (by omega)
def iJ (n k:Nat):List UInt8:=gq n k ++ bj (64 - k)
theorem yP (n k:Nat) (h:k<=64):(iJ n k).length=64:=by simp[iJ,fL,dE];omega
theorem yR (n k:Nat) (h:k < 64):(iJ n k).set k (UInt8.ofNat (n / 2 ^ (8 * k)))=iJ n (k+1):=by
 unfold iJ;have e:bj (64 - k)=0 :: bj (64 - (k+1)):=by unfold bj;rw[show 64 - k=(64 - (k+1))+1 by omega,List.replicate_succ]
 rw[e,List.set_append_right _ _ (by rw[fL];omega),fL,Nat.sub_self,List.set_cons_zero];simp[gq]
theorem yQ (n:Nat):(iJ n 8).set 63 1=du n:=by
 unfold iJ du;rw[List.set_append_right _ _ (by rw[fL];omega),fL,List.append_assoc]
 congr 1
def aJ (at_ size:Nat):Nat:=at_+1+(size+63) / 64
def cl (im:List UInt8) (i:Nat):Option UInt8:=im[64 * i+63]?
def fl (im:List UInt8) (i:Nat):Nat:=bU ((ak im i).take 2)
def fJ (im:List UInt8) (lim:Nat):Nat->Nat->List (Nat × Nat)
 | 0,_=> []
 | k+1,i=>if i < lim/\cl im i=some 1/\fl im i≠0/\aJ i (fl im i)<=lim then(i,fl im i) :: fJ im lim k (aJ i (fl im i)) else[]
def fV (im:List UInt8) (first:Nat):List (Nat × Nat):=fJ im (first+64) 64 (first+1)
def kg (im:List UInt8) (first:Nat):Nat:=((fV im first).getLast?.map λx=>aJ x.1 x.2).getD (first+1)
def fe (im:List UInt8) (i size:Nat):List UInt8:=(im.drop (64 * i)).take size
theorem pK (im:List UInt8) (i:Nat):fl im i < 65536:=by
 have h:=oz ((ak im i).take 2);have h2:((ak im i).take 2).length<=2:=by rw[List.length_take];omega
 have h3:256 ^ ((ak im i).take 2).length<=256 ^ 2:=Nat.pow_le_pow_right (by omega) h2;unfold fl;omega
end Go.Proofs.YtiafamacjpgjoaaGreatDoor
