import Derived.Test.YtdilnodbfnlhdaaGreatDoorGKeep
import Derived.Test.YtdilnodbfnlhdaaGreatDoorGConv
import Derived.Laws.MakeOwn
import Derived.WalkKit
import Derived.WalkSpells
import Derived.Deep.QuietTactic
import Derived.BigQuiet
import Derived.Laws.CopyOwn
import Derived.OwnWalkIn
import Derived.Deep.RegionLaw
import Derived.RangeFuncNested
import Derived.RangeFuncCalls
import Derived.RangeFuncLeaves
import Derived.Laws.Bits64
import Derived.Laws.BitsAllLaws
namespace Go.Proofs.YtdilnodbfnlhdaaGreatDoor
open Go.RowKit Tide
def aN (n:Nat):List UInt8:=List.replicate n 0
theorem dr (n:Nat):(aN n).length=n:=by simp[aN]
def ak (ae:List UInt8) (i:Nat):List UInt8:=(ae.drop (64 * i)).take 64
def l8 (ae:List UInt8) (aq:List (Nat × List UInt8)) (i:Nat):List UInt8:=aq.foldl (λb x=>if x.1=i then x.2 else b) (ak ae i)
def dg (ae:List UInt8) (x:Nat × List UInt8):List UInt8:=ae.take (64 * x.1) ++ x.2 ++ ae.drop (64 * x.1+64)
def aI (ae:List UInt8) (aq:List (Nat × List UInt8)):List UInt8:=aq.foldl dg ae
structure Dv where
 ae:List UInt8
 aq:List (Nat × List UInt8)
 stop:Option Nat
abbrev az:=World->(Nat->Prop)->Nat->Dv->Prop
theorem kk {W W':World} {F:Nat->Prop} {u:Value} {l:List UInt8} {B:Nat} (h:Bytes W B u l) (hB:B<=W.heap.size) (hk:Kept F W W') (hf:∀k,u.ownBlock=some k->¬F k):Bytes W' B u l:=by obtain⟨hn,A,c,rfl,hc1,hc2,hc⟩:=h;refine⟨hn,A,c,rfl,hc1,hc2,λhx=> ?_⟩;obtain⟨b,o,e,hb,hcell⟩:=hc hx;subst e;exact⟨b,o,rfl,hb,λj u hu=>(hk.cell (p:=⟨b,o+j,none⟩) (Nat.lt_of_lt_of_le hb hB) (hf b rfl)).trans (hcell j u hu)⟩
abbrev yY (w:World):World:=w.alloc (.cells (madeCells #[.int .u8 0] 64) 5)
theorem y4:∀W:World,(Instr.makeSlice 38 (.int .i64 64) (.int .i64 64)).run Tryz.prog W= .ok (.slice (some ⟨W.heap.size,0,none⟩) 64 64) (yY W):=λW=>by obtain⟨i0,hi,hz0,hz1,hz2⟩:=info_parts jE;have h:=run_makeSlice (P:=Tryz.prog) W 38 5 i0 (.int .u8 0) Tryz.underlying38 hi hz0 .i64 .i64 64 64 (by omega) (by omega) (by rw[hz1];decide) (by rw[hz2];omega) (by omega);rw[hz1]at h;exact h
theorem rA (n i:Nat) (h:i < n):(madeCells #[.int .u8 0] n)[i]? =some (.int .u8 0):=by have h1:i % 1=0:=Nat.mod_one i;simp[madeCells,h,h1]
theorem vS {W:World} {B b n:Nat} {l:List UInt8} (hl:l.length=n) (hn:n<=65536) (hb:b < B) (hc:∀j (h:j < l.length),W.cell? ⟨b,j,none⟩=some (.int .u8 (l[j].toNat:Int))):Bytes W B (.slice (some ⟨b,0,none⟩) n n) l:=by
 subst hl;refine⟨by rw[aR];omega,some ⟨b,0,none⟩,l.length,by rw[aR],by rw[aR];exact Nat.le_refl _,by omega,λ_=>⟨b,0,rfl,hb,λj u hu=> ?_⟩⟩;have hj:j < l.length:=by
  have:=(List.getElem?_eq_some_iff.1 hu).1
  rwa[aR]at this
 rw[Nat.zero_add,hc j hj,<-hu,ib l j hj]
theorem zr (n j:Nat) (h:j < (aN n).length):(aN n)[j]=0:=by simp[aN]
end Go.Proofs.YtdilnodbfnlhdaaGreatDoor
namespace Tide
open Go Go.RowKit
theorem Dm {α:Type} (xs:List α) (off:Nat):splice xs off []=xs:=by simp[splice]
theorem DW {α:Type} (cur cs:List α) (off n:Nat) (h:off+cs.length<=n) (hn:n<=cur.length):(cur.take off ++ cs ++ cur.drop (off+cs.length)).take n=splice (cur.take n) off cs:=by
 have hl:(cur.take off).length=off:=by rw[List.length_take];omega
 have e1:(cur.take off).take n=cur.take off:=List.take_of_length_le (by omega);have e2:cs.take (n - off)=cs:=List.take_of_length_le (by omega);have e3:(cur.take n).take off=cur.take off:=by rw[List.take_take,Nat.min_eq_left (by omega)]
 unfold splice;rw[List.append_assoc,List.take_append,List.take_append,hl,e1,e2,e3,List.drop_take,Nat.sub_sub]
section
variable {P:Program}
theorem oH (w:World) (dT sT ty elem:TypeId) (hu:P.underlying dT=some (.slice elem)) (hsz:(P.info? elem).map (·.size)=some 1)
 (g off dLen dCap:Nat) (sp:Option Addr) (sLen sCap base n cap:Nat) (e:TypeId) (xs:List Value) (hown:w.ownsRow base e 1 (.slice (some ⟨g,0,none⟩) n cap) n xs) (cs:List Value) (hn:cs.length=Nat.min sLen dLen) (hfit:off+cs.length<=n)
 (h1:∀v ∈ cs,v.oneCell'=true) (hsrc:0 < cs.length->∃ad,sp=some ad/\∀j v,cs[j]? =some v->w.cell? (ad.add j)=some v):
 ∃w',(Builtin.copy_ #[dT,sT] ty #[.slice (some ⟨g,off,none⟩) dLen dCap,.slice sp sLen sCap]).run P w= .ok (goInt cs.length) w'/\w'.ownsRow base e 1 (.slice (some ⟨g,0,none⟩) n cap) n (splice xs off cs)/\w.grownBy w' (some g)/\w'.heap.size=w.heap.size:=by
 by_cases h0:cs.length=0
 · obtain rfl:cs= []:=List.eq_nil_of_length_eq_zero h0;refine⟨w,run_copy_none w dT sT ty elem _ _ dLen dCap sLen sCap hu hsz (by simpa using hn.symm),by rw[Dm];exact hown,⟨rfl,rfl,rfl,Nat.le_refl _,λ_ _ _=>rfl⟩,rfl⟩
 · obtain⟨ad,rfl,hcell⟩:=hsrc (by omega);obtain⟨hl,hb⟩:=hown;rcases hb with⟨hb,_⟩|⟨g',cap',cur,he,hbase,hg,hnc,hcm,hcs,hx⟩
   · cases hb
   injection he with he1 _ he3;injection he1 with he1;injection he1 with he1;subst he1 he3;rw[Nat.mul_one]at hcs hx hl;have hfit2:off+cs.length<=cur.size:=by omega
   refine⟨_,run_copy_row P w dT sT ty elem g off dLen dCap ad sLen sCap cur e cs hu hsz hg hn hcell hfit2 h1,⟨by rw[length_splice _ _ _ (by omega),hl,Nat.mul_one],.inr ⟨g,cap,_,rfl,hbase,setRow_heap w g _ _ e _ hg,hnc,hcm,?_,?_⟩⟩,⟨rfl,rfl,rfl,by simp[World.setRow],λk _ hk=>setRow_other w g k _ (λe=>hk (by rw[e]))⟩,by simp[World.setRow]⟩
   · simp;omega
   · rw[Nat.mul_one,<-hx];exact DW _ _ _ _ hfit (by simp;omega)
theorem ue {w:World} {ops:Array Oper} {rest:List Oper} {o:Oper} {a:Act} {Q:Exit->Act->World->Prop} (hgd:o.guard=none) (d s:Operand) (dT sT:TypeId)
 (ho:o.op= .call { callee:= .builtin .copy,args:= #[d,s],argTypes:= #[dT,sT] }) (elem:TypeId) (hu:P.underlying dT=some (.slice elem)) (hsz:(P.info? elem).map (·.size)=some 1)
 (g off dLen dCap:Nat) (hd:a.eval d= .slice (some ⟨g,off,none⟩) dLen dCap) (sp:Option Addr) (sLen sCap:Nat) (hs:a.eval s= .slice sp sLen sCap) (base n cap:Nat) (e:TypeId) (xs:List Value) (hown:w.ownsRow base e 1 (.slice (some ⟨g,0,none⟩) n cap) n xs)
 (cs:List Value) (hn:cs.length=Nat.min sLen dLen) (hfit:off+cs.length<=n) (h1:∀v ∈ cs,v.oneCell'=true) (hsrc:0 < cs.length->∃ad,sp=some ad/\∀j v,cs[j]? =some v->w.cell? (ad.add j)=some v)
 (h:∀w',Hid (w'.ownsRow base e 1 (.slice (some ⟨g,0,none⟩) n cap) n (splice xs off cs))->Hid (w.grownBy w' (some g))->Hid (w'.heap.size=w.heap.size)->wpList P ops Q rest (a.put o.dst (goInt cs.length)) w'):
 wpList P ops Q (o :: rest) a w:=by
 refine wpList_plain hgd λK hK=> ?_;obtain⟨w',hrun,r1,r2,r3⟩:=oH (P:=P) w dT sT o.type elem hu hsz g off dLen dCap sp sLen sCap base n cap e xs hown cs hn hfit h1 hsrc;unfold Oper.wp;simp[execOp,ho,resolve,invoke,builtin,hd,hs,hrun,Result.andThen];exact hK _ _ (h w' r1 r2 r3)
theorem EG {F:Fence} {nF:Nat} {w:World} {ops:Array Oper} {rest:List Oper} {o:Oper} {a:Act} {Q:Exit->Act->World->Prop} (hgd:o.guard=none) (d s:Operand) (dT sT:TypeId)
 (ho:o.op= .call { callee:= .builtin .copy,args:= #[d,s],argTypes:= #[dT,sT] }) (elem:TypeId) (hu:P.underlying dT=some (.slice elem)) (hsz:(P.info? elem).map (·.size)=some 1)
 (g off dLen dCap:Nat) (hd:a.eval d= .slice (some ⟨g,off,none⟩) dLen dCap) (sp:Option Addr) (sLen sCap:Nat) (hs:a.eval s= .slice sp sLen sCap) (base n cap:Nat) (e:TypeId) (xs:List Value) (hown:w.ownsRow base e 1 (.slice (some ⟨g,0,none⟩) n cap) n xs)
 (cs:List Value) (hn:cs.length=Nat.min sLen dLen) (hfit:off+cs.length<=n) (h1:∀v ∈ cs,v.oneCell'=true) (hsrc:0 < cs.length->∃ad,sp=some ad/\∀j v,cs[j]? =some v->w.cell? (ad.add j)=some v)
 (h:∀w',Hid (w'.ownsRow base e 1 (.slice (some ⟨g,0,none⟩) n cap) n (splice xs off cs))->Hid (w.grownBy w' (some g))->Hid (w'.heap.size=w.heap.size)->wpListIn F nF P ops Q rest (a.put o.dst (goInt cs.length)) w'):
 wpListIn F nF P ops Q (o :: rest) a w:=by
 refine wpListIn_plain hgd λK hK=> ?_;obtain⟨w',hrun,r1,r2,r3⟩:=oH (P:=P) w dT sT o.type elem hu hsz g off dLen dCap sp sLen sCap base n cap e xs hown cs hn hfit h1 hsrc;unfold Oper.wpIn;refine⟨by simp[Oper.about,ho,resolve,Target.leads,Sem.run_pure],?_⟩;rw[Oper.semAt_plain F _ _ (by rw[ho];intro c hc';cases hc')];simp[execOp,ho,resolve,invoke,builtin,hd,hs,hrun,Result.andThen];exact hK _ _ (h w' r1 r2 r3)
theorem tq {ops:Array Oper} {o:Oper} {a:Act} {w:World} {K:Act->World->Prop} {Q:Exit->Act->World->Prop} {E:Prop} (hgd:o.guard=none) (d s:Operand) (dT sT:TypeId)
 (ho:o.op= .call { callee:= .builtin .copy,args:= #[d,s],argTypes:= #[dT,sT] }) (elem:TypeId) (hu:P.underlying dT=some (.slice elem)) (hsz:(P.info? elem).map (·.size)=some 1)
 (g off dLen dCap:Nat) (hd:a.eval d= .slice (some ⟨g,off,none⟩) dLen dCap) (sp:Option Addr) (sLen sCap:Nat) (hs:a.eval s= .slice sp sLen sCap) (base n cap:Nat) (e:TypeId) (xs:List Value) (hown:w.ownsRow base e 1 (.slice (some ⟨g,0,none⟩) n cap) n xs)
 (cs:List Value) (hn:cs.length=Nat.min sLen dLen) (hfit:off+cs.length<=n) (h1:∀v ∈ cs,v.oneCell'=true) (hsrc:0 < cs.length->∃ad,sp=some ad/\∀j v,cs[j]? =some v->w.cell? (ad.add j)=some v)
 (h:∀w',Hid (w'.ownsRow base e 1 (.slice (some ⟨g,0,none⟩) n cap) n (splice xs off cs))->Hid (w.grownBy w' (some g))->Hid (w'.heap.size=w.heap.size)->K (a.put o.dst (goInt cs.length)) w'):
 if Region.wanted o (yielded ops a.tmps)=true then Oper.wp P o a w K Q else E:=by
 have hw:Region.wanted o (yielded ops a.tmps)=true:=by simp[Region.wanted,hgd]
 rw[if_pos hw];obtain⟨w',hrun,r1,r2,r3⟩:=oH (P:=P) w dT sT o.type elem hu hsz g off dLen dCap sp sLen sCap base n cap e xs hown cs hn hfit h1 hsrc;unfold Oper.wp;simp[execOp,ho,resolve,invoke,builtin,hd,hs,hrun,Result.andThen];exact h w' r1 r2 r3
end
end Tide
namespace Go.Proofs.YtdilnodbfnlhdaaGreatDoor
open Go.RowKit Tide
theorem iF (l:List UInt8) (i j:Nat) (h:j < 64):(ak l i)[j]? =l[64 * i+j]? :=by unfold ak;rw[List.getElem?_take_of_lt h,List.getElem?_drop]
theorem gV (l:List UInt8) (i:Nat) (h:64 * i+64<=l.length):(ak l i).length=64:=by unfold ak;rw[List.length_take,List.length_drop];omega
theorem jS (l:List UInt8) (x:Nat × List UInt8) (h:64 * x.1+64<=l.length) (hb:x.2.length=64):(dg l x).length=l.length:=by unfold dg;rw[List.length_append,List.length_append,List.length_take,List.length_drop];omega
theorem Bi (l:List UInt8) (x:Nat × List UInt8) (h:64 * x.1+64<=l.length) (hb:x.2.length=64) (k:Nat):(dg l x)[k]? =if k < 64 * x.1 then l[k]? else if k < 64 * x.1+64 then x.2[k - 64 * x.1]? else l[k]? :=by
 have h1:(l.take (64 * x.1)).length=64 * x.1:=by rw[List.length_take];omega
 unfold dg;by_cases h2:k < 64 * x.1
 · rw[if_pos h2,List.append_assoc,List.getElem?_append_left (by omega),List.getElem?_take_of_lt h2]
 · rw[if_neg h2];by_cases h3:k < 64 * x.1+64
   · rw[if_pos h3,List.append_assoc,List.getElem?_append_right (by omega),h1,List.getElem?_append_left (by omega)]
   · rw[if_neg h3,List.getElem?_append_right (by rw[List.length_append];omega),List.length_append,h1,List.getElem?_drop]
     congr 1
     omega
theorem mu (l:List UInt8) (x:Nat × List UInt8) (h:64 * x.1+64<=l.length) (hb:x.2.length=64) (i:Nat):ak (dg l x) i=if x.1=i then x.2 else ak l i:=by
 apply List.ext_getElem?;intro j;by_cases hj:j < 64
 · rw[iF _ _ _ hj,Bi l x h hb];by_cases hi:x.1=i
   · rw[if_neg (by omega),if_pos (by omega),if_pos hi]
     congr 1
     omega
   · rw[if_neg hi,iF _ _ _ hj];by_cases h2:64 * i+j < 64 * x.1
     · rw[if_pos h2]
     · rw[if_neg h2,if_neg (by omega)]
 · rw[List.getElem?_eq_none (by unfold ak;rw[List.length_take];omega)];symm;apply List.getElem?_eq_none;split
   · omega
   · unfold ak;rw[List.length_take];omega
theorem Cr (a b:List UInt8) (m:Nat) (ha:a.length=64 * m) (hb:b.length=64 * m) (h:∀i,i < m->ak a i=ak b i):a=b:=by
 apply List.ext_getElem?;intro k;by_cases hk:k < 64 * m
 · have h1:k / 64 < m:=by omega
   have h2:=congrArg (λl=>l[k % 64]?) (h _ h1);rw[iF _ _ _ (Nat.mod_lt _ (by omega)),iF _ _ _ (Nat.mod_lt _ (by omega))]at h2
   rwa[show 64 * (k / 64)+k % 64=k by omega]at h2
 · rw[List.getElem?_eq_none (by omega),List.getElem?_eq_none (by omega)]
def gL (m:Nat) (aq:List (Nat × List UInt8)):Prop:=∀x ∈ aq,x.1 < m/\x.2.length=64
theorem iv (m:Nat) (aq:List (Nat × List UInt8)) (h:gL m aq):∀ae:List UInt8,ae.length=64 * m->(aI ae aq).length=64 * m:=by
 induction aq with
 | nil=>intro ae hi;exact hi
 | cons x r ih=>intro ae hi;have hx:=h x (by simp);exact ih (λy hy=>h y (by simp[hy])) (dg ae x) (by rw[jS _ _ (by omega) hx.2];exact hi)
theorem oz (m i:Nat) (aq:List (Nat × List UInt8)) (h:gL m aq):∀ae:List UInt8,ae.length=64 * m->ak (aI ae aq) i=l8 ae aq i:=by
 induction aq with
 | nil=>intro ae _;rfl
 | cons x r ih=>intro ae hi;have hx:=h x (by simp);have h2:=ih (λy hy=>h y (by simp[hy])) (dg ae x) (by rw[jS _ _ (by omega) hx.2];exact hi);show ak (aI (dg ae x) r) i=_;rw[h2];unfold l8;rw[mu _ _ (by omega) hx.2];rfl
theorem qD (ae:List UInt8) (aq:List (Nat × List UInt8)) (x:Nat × List UInt8):aI ae (aq ++ [x])=dg (aI ae aq) x:=by unfold aI;rw[List.foldl_append];rfl
def gw (d:List UInt8) (now:List UInt8) (aq:List (Nat × List UInt8)):List UInt8:=aI now (aq.map λx=>(x.1,ak d x.1))
theorem oy (i:Nat) (aq:List (Nat × List UInt8)) (h:∀x ∈ aq,x.1≠i):∀b:List UInt8,aq.foldl (λb x=>if x.1=i then x.2 else b) b=b:=by
 induction aq with
 | nil=>intro b;rfl
 | cons x r ih=>intro b;rw[List.foldl_cons,if_neg (h x (by simp))];exact ih (λy hy=>h y (by simp[hy])) b
theorem By (d:List UInt8) (i:Nat) (aq:List (Nat × List UInt8)) (h:∃x ∈ aq,x.1=i):∀b:List UInt8,(aq.map λx=>(x.1,ak d x.1)).foldl (λb x=>if x.1=i then x.2 else b) b=ak d i:=by
 induction aq with
 | nil=>obtain⟨x,hx,_⟩:=h;cases hx
 | cons x r ih=>
   intro b;rw[List.map_cons,List.foldl_cons];by_cases hr:∃y ∈ r,y.1=i
   · exact ih hr _
   · obtain⟨y,hy,hyi⟩:=h;have hxy:y=x:=by
      rcases List.mem_cons.1 hy with e|e
      · exact e
      · exact absurd ⟨y,e,hyi⟩ hr
     subst hxy;rw[if_pos hyi,oy i _ (by intro z hz;obtain⟨u,hu,rfl⟩:=List.mem_map.1 hz;intro e;exact hr ⟨u,hu,e⟩),hyi]
theorem xq (m:Nat) (d:List UInt8) (hd:d.length=64 * m) (aq:List (Nat × List UInt8)) (h:gL m aq):gL m (aq.map λx=>(x.1,ak d x.1)):=by intro z hz;obtain⟨u,hu,rfl⟩:=List.mem_map.1 hz;have:=(h u hu).1;exact⟨this,gV _ _ (by omega)⟩
theorem u7 (m:Nat) (ae d:List UInt8) (aq:List (Nat × List UInt8)) (hi:ae.length=64 * m) (hd:d.length=64 * m) (h:gL m aq) (hfar:∀i,i < m->(∀x ∈ aq,x.1≠i)->ak d i=ak ae i):
 gw d (aI ae aq) aq=d:=by
 have hf:=iv m aq h ae hi;have hb:=xq m d hd aq h;refine Cr _ _ m (iv m _ hb _ hf) hd λi him=> ?_;unfold gw;rw[oz m i _ hb _ hf];unfold l8;by_cases hx:∃x ∈ aq,x.1=i
 · exact By d i aq hx _
 · have hne:∀x ∈ aq,x.1≠i:=λx hx' e=>hx ⟨x,hx',e⟩;rw[oy i _ (by intro z hz;obtain⟨u,hu,rfl⟩:=List.mem_map.1 hz;exact hne u hu),oz m i aq h ae hi];unfold l8;rw[oy i _ hne,hfar i him hne]
theorem th (l:List UInt8) (i:Nat) (b:List UInt8) (hb:b.length=64):splice (aj l) (64 * i) (aj b)=aj (dg l (i,b)):=by unfold splice dg aj;rw[List.length_map,hb,List.map_append,List.map_append,List.map_take,List.map_drop,List.append_assoc]
end Go.Proofs.YtdilnodbfnlhdaaGreatDoor
namespace Tide
open Go Go.RowKit
def px {α:Type} (F:Fence) (n:Nat) (P:Program) (g:Nat) (lb:Array Value) (encs:α->Array Value) (Kp:World->World->Prop) (S:List α->Prop) (Z:List α->α->Prop) (w:World):Prop:=
 ∀ (l:Nat) (J:List α->World->Prop) (W:World),Below w.heap.size w W->(∀s A B,J s A->A.grownBy B none->J s B)->
   (∀pre x A,J pre A->Z pre x->YieldAt F (n - 1) P l (encs x) A λe B=>e= .returned (.bool true)/\J (pre ++ [x]) B/\Kp A B)->
   J [] W->CallsIn F n P g (#[.func (.yield l) #[] #[]] ++ lb) W λe W'=>(∃v,e= .returned v)/\∃xs,S xs/\J xs W'
variable {F:Fence} {n:Nat} {P:Program}
theorem Bl {α:Type} {g:Operand} {ps:Array Tmp} {assign body:Code} {Q:Exit->Act->World->Prop} {a:Act} {w:World}
 (hro:F.round=none) (h1:1<=n) {gf:Nat} {lb:Array Value} (hg:a.eval g= .func (.func gf) #[] lb) (hF:F.fn gf) (eg:∀args w,(callFunc gf args).run P w= .ok (.enter gf args) w)
 {encs:α->Array Value} (hps:∀x,(encs x).size=ps.size) {Kp:World->World->Prop} {S:List α->Prop} {Z:List α->α->Prop} (hseq:px F (n - 1) P gf lb encs Kp S Z w)
 (hKt:∀ {A B C:World},Kp A B->Kp B C->Kp A C) (hKb:∀ (W:World) (l:Nat) (o:Obj),w.heap.size<=l->Kp W (W.putObj l o))
 (I:List α->World->Prop) (hI:∀s A B,I s A->A.grownBy B none->I s B) (hIo:∀s A l o o',I s A->w.heap.size<=l->A.heap[l]? =some o->o.isCells=false->I s (A.putObj l o')) (h0:I [] w)
 (a₁:α->Act)
 (hassign:∀ (l:Nat) (x:α) (W:World) (K:Act->World->Prop),K (a₁ x) W->
   assign.wpIn (F.inRound l) (n - 1 - 1) P (Exit.then K (λ_ _ _=>False)) { tmps:=(ps.zip (encs x)).foldl (λt (p,v)=>t.setIfInBounds p v) a.tmps,defers:= [] } W)
 (hbody:∀ (l:Nat) (pre:List α) (x:α) (W:World),I pre W->Z pre x->
   body.wpIn (F.inRound l) (n - 1 - 1) P (λe _ W'=>e= .normal/\KeepsOthers W W'/\Kp W W'/\I (pre ++ [x]) W') (a₁ x) W)
 (hdone:∀ (D:Nat) (xs:List α) (W:World),w.heap.size<=D->S xs->I xs W->W.heap[D]? =some (.deferred (some []))->Q .normal { a with defers:= { target:= .collected D,args:= #[] } :: a.defers } W):
 (Code.rangeFunc g ps assign body).wpIn F n P Q a w:=by
 refine wpIn_rangeFunc λfn hfn=> ?_;rw[hro];generalize hr:(λst=>({ state:=st,pending:=none,fn,tmps:=a.tmps,params:=ps,assign,body,defers:=w.heap.size }:Loop))=r;have hst:∀st,(r st).state=st:=λst=>by rw[<-hr]
 have hpe:∀st,(r st).pending=none:=λst=>by rw[<-hr]
 have hbusy: { r .ready with state:= .busy }=r .busy:=by rw[<-hr]
 have hback: { r .busy with state:=(if(none:Option Code).isNone then .ready else .done),pending:=(none:Option Code) }=r .ready:=by rw[<-hr];rfl
 let J:List α->World->Prop:=λpre W=>I pre W/\W.heap[w.heap.size+1]? =some (.loop (r .ready))/\W.heap[w.heap.size]? =some (.deferred (some []))
 have hA:∀o,w.grownBy (w.alloc o) none:=λo=>World.grownBy_alloc w o none
 let W1:=(w.alloc (.deferred (some []))).alloc (.loop (r .ready))
 have hJ1:J [] W1:=by
  refine⟨hI _ _ _ (hI _ _ _ h0 (hA _)) (World.grownBy_alloc _ _ none),?_,?_⟩
  · have:=World.alloc_heap_new (w.alloc (.deferred (some []))) (.loop (r .ready))
    rwa[World.size_alloc]at this
  · exact(Below.heap_alloc _ _ _ (by simp)).trans (World.alloc_heap_new w _)
 have hJk:∀s A B,J s A->A.grownBy B none->J s B:=λs A B h hg=>by have an:∀ (k:Nat) (o:Obj),w.heap.size<=k->A.heap[k]? =some o->B.heap[k]? =some o:=λk o hk ho=>(hg.block k (Array.getElem?_eq_some_iff.1 ho).1 (by simp)).trans ho;exact⟨hI _ _ _ h.1 hg,an _ _ (by omega) h.2.1,an _ _ (Nat.le_refl _) h.2.2⟩
 refine⟨w.heap.size+1, [{ target:= .collected w.heap.size,args:= #[] }],W1,{ target:= .fn (.func gf) lb,args:= #[.func (.yield (w.heap.size+1)) #[] #[]] },W1,gf,
  #[.func (.yield (w.heap.size+1)) #[] #[]] ++ lb,W1,?_,?_,?_,?_,λ_=>h1,?_⟩
 · have:=run_enterLoop_outer (P:=P) (w:=w) fn a.tmps ps assign body;rw[this];show _=Result.ok _ ((w.alloc (.deferred (some []))).alloc (.loop (r .ready)));rw[<-hr]
 · simp only[resolve,hg];simp[go_sem]
 · intro f' h;simp[Target.leads]at h;exact h ▸ hF
 · simp[invoke,go_sem,eg]
 refine(hseq (w.heap.size+1) J W1 ?_ hJk ?_ hJ1).mono ?_
 · exact((Below.refl _ w).alloc (Nat.le_refl _) _).alloc (by simp) _
 · -- one round
   rintro pre x A ⟨hi,hl,hd⟩ hN;have hlt:w.heap.size+1 < A.heap.size:=(Array.getElem?_eq_some_iff.1 hl).1;have hy:=run_yield (P:=P) (args:=encs x) hl (by rw[<-hr];exact hps x);have hbg:=run_beginRound (P:=P) hl (hst _);rw[hbusy]at hbg;refine⟨fn,_,assign,body,by rw[hy,<-hr],roundIn_of_wpIn hfn (hassign _ x A _ ⟨_,hbg,?_⟩)⟩;refine wpIn_mono (hbody _ pre x _ (hIo _ _ _ _ _ hi (by omega) hl rfl) hN) ?_;rintro e a' B ⟨rfl,hk,hkp,hi'⟩;have hl2:B.heap[w.heap.size+1]? =some (.loop (r .busy)):=hk.same _ _ (World.putObj_heap_same hlt) rfl;have hd2:B.heap[w.heap.size]? =some (.deferred (some [])):=hk.same _ _ ((World.putObj_heap_other (by omega)).trans hd) rfl;have hend:=run_endRound (P:=P) none hl2;rw[hback]at hend;refine⟨_,_,hend,rfl,⟨hIo _ _ _ _ _ hi' (by omega) hl2 rfl,World.putObj_heap_same (Array.getElem?_eq_some_iff.1 hl2).1,(World.putObj_heap_other (by omega)).trans hd2⟩,?_⟩;exact hKt (hKt (hKb _ _ _ (by omega)) hkp) (hKb _ _ _ (by omega))
 · rintro e W2 ⟨⟨v,rfl⟩,xs,hS,hi,hl,hd⟩;have hend:=run_endLoop (P:=P) hl (by rw[hst];simp);rw[hpe]at hend;exact⟨none,_,hend,hdone _ xs _ (Nat.le_refl _) hS (hIo _ _ _ _ _ hi (by omega) hl rfl) ((World.putObj_heap_other (by omega)).trans hd)⟩
end Tide
namespace Go.Proofs.YtdilnodbfnlhdaaGreatDoor
open Go Go.RowKit Tide
def bB:List UInt8->Nat
 | []=>0
 | c :: l=>c.toNat+256 * bB l
theorem nM:∀l:List UInt8,bB l < 256 ^ l.length
 | []=>by simp[bB]
 | c :: l=>by have:=nM l;have hc:=c.toNat_lt;simp only[bB,List.length_cons,Nat.pow_succ];omega
theorem kz:∀ (l:List UInt8) (c:UInt8),bB (l ++ [c])=bB l+256 ^ l.length * c.toNat
 | [],c=>by simp[bB]
 | d :: l,c=>by have:=kz l c;simp only[bB,List.cons_append,this,List.length_cons,Nat.pow_succ,Nat.mul_add];rw[Nat.mul_assoc,Nat.mul_left_comm,Nat.add_assoc]
theorem yN (l:List UInt8) (c:UInt8) (j:Nat) (hj:l.length=j):bB l ||| c.toNat * 2 ^ (8 * j)=bB (l ++ [c]):=by
 have h1:=nM l;have e:(256:Nat) ^ l.length=2 ^ (8 * j):=by rw[hj,show(256:Nat)=2 ^ 8 by rfl,<-Nat.pow_mul]
 rw[e]at h1;rw[kz,e,Nat.or_comm,Nat.mul_comm,<-Nat.two_pow_add_eq_or_of_lt h1,Nat.add_comm]
theorem lB (a b:Nat) (ha:a < 2 ^ 63) (hb:b < 2 ^ 63):bits .or .i64 (a:Int) (b:Int)=((a ||| b:Nat):Int):=by
 have hx:a ||| b < 2 ^ 63:=Nat.or_lt_two_pow ha hb
 have e1:(BitVec.ofInt 64 (a:Int)).toNat=a:=by rw[BitVec.ofInt_natCast,BitVec.toNat_ofNat];exact Nat.mod_eq_of_lt (by omega)
 have e2:(BitVec.ofInt 64 (b:Int)).toNat=b:=by rw[BitVec.ofInt_natCast,BitVec.toNat_ofNat];exact Nat.mod_eq_of_lt (by omega)
 show IntKind.i64.wrap ((BitVec.ofInt 64 (a:Int) ||| BitVec.ofInt 64 (b:Int)).toNat:Int)=_;rw[BitVec.toNat_or,e1,e2];simp[IntKind.wrap,IntKind.signed,IntKind.bits];omega
theorem rq (l r:List UInt8):bB l<=bB (l ++ r):=by
 induction l with
 | nil=>simp[bB]
 | cons c l ih=>simp only[List.cons_append,bB];omega
theorem Ac (l:List UInt8) (c:UInt8) (j:Nat) (hj:l.length=j) (h:bB (l ++ [c]) < 2 ^ 63):bits .or .i64 (bB l:Int) (((c.toNat * 2 ^ (8 * j):Nat)):Int)=((bB (l ++ [c]):Nat):Int):=by
 have h1:=rq l [c];have e:(256:Nat) ^ l.length=2 ^ (8 * j):=by rw[hj,show(256:Nat)=2 ^ 8 by rfl,<-Nat.pow_mul]
 have h2:c.toNat * 2 ^ (8 * j)<=bB (l ++ [c]):=by rw[kz,e,Nat.mul_comm];omega
 rw[lB _ _ (by omega) (by omega),yN l c j hj]
def fP (n:Nat):Nat->List UInt8
 | 0=> []
 | k+1=>fP n k ++ [UInt8.ofNat (n / 2 ^ (8 * k))]
theorem fj (n k:Nat):(fP n k).length=k:=by
 induction k with
 | zero=>rfl
 | succ k ih=>rw[fP,List.length_append,ih];rfl
theorem nL (n:Nat):∀k,bB (fP n k)=n % 256 ^ k
 | 0=>by simp[fP,bB];omega
 | k+1=>by
   rw[fP,kz,fj,nL n k];have e:(UInt8.ofNat (n / 2 ^ (8 * k))).toNat=n / 256 ^ k % 256:=by rw[show(256:Nat) ^ k=2 ^ (8 * k) by rw[show(256:Nat)=2 ^ 8 by rfl,<-Nat.pow_mul]];simp
   rw[e,Nat.pow_succ,Nat.mod_mul]
def dj (n:Nat):List UInt8:=fP n 8 ++ aN 55 ++ [1]
theorem gA (n:Nat):(dj n).length=64:=by simp[dj,fj,dr]
theorem qJ (n:Nat):(dj n)[63]? =some 1:=by unfold dj;rw[List.getElem?_append_right (by simp[fj,dr])];simp[fj,dr]
theorem xO (n:Nat) (h:n < 2 ^ 63):bB ((dj n).take 8)=n:=by unfold dj;rw[List.append_assoc,List.take_append_of_le_length (by rw[fj];omega),List.take_of_length_le (by rw[fj];omega),nL];exact Nat.mod_eq_of_lt (by omega)
theorem yM (n:Nat) (j:Nat):∀k,j<=k->(fP n k).take j=fP n j:=by
 intro k
 induction k with
 | zero=>intro h;obtain rfl:j=0:=by omega
         rfl
 | succ k ih=>
   intro h;by_cases hk:j<=k
   · rw[fP,List.take_append_of_le_length (by rw[fj];omega),ih hk]
   · obtain rfl:j=k+1:=by omega
     exact List.take_of_length_le (by rw[fj];omega)
theorem xP (n:Nat) (h:n < 65536):bB ((dj n).take 2)=n:=by unfold dj;rw[List.append_assoc,List.take_append_of_le_length (by rw[fj];omega),yM n 2 8 (by omega),nL];exact Nat.mod_eq_of_lt (by omega)
def gR (n k:Nat):List UInt8:=fP n k ++ aN (64 - k)
theorem xQ (n k:Nat) (h:k<=64):(gR n k).length=64:=by simp[gR,fj,dr];omega
theorem xS (n k:Nat) (h:k < 64):(gR n k).set k (UInt8.ofNat (n / 2 ^ (8 * k)))=gR n (k+1):=by
 unfold gR;have e:aN (64 - k)=0 :: aN (64 - (k+1)):=by unfold aN;rw[show 64 - k=(64 - (k+1))+1 by omega,List.replicate_succ]
 rw[e,List.set_append_right _ _ (by rw[fj];omega),fj,Nat.sub_self,List.set_cons_zero];simp[fP]
theorem xR (n:Nat):(gR n 8).set 63 1=dj n:=by
 unfold gR dj;rw[List.set_append_right _ _ (by rw[fj];omega),fj,List.append_assoc]
 congr 1
def ax (at_ size:Nat):Nat:=at_+1+(size+63) / 64
def bL (im:List UInt8) (i:Nat):Option UInt8:=im[64 * i+63]?
def eP (im:List UInt8) (i:Nat):Nat:=bB ((ak im i).take 2)
def fh (im:List UInt8) (lim:Nat):Nat->Nat->List (Nat × Nat)
 | 0,_=> []
 | k+1,i=>if i < lim/\bL im i=some 1/\eP im i≠0/\ax i (eP im i)<=lim then(i,eP im i) :: fh im lim k (ax i (eP im i)) else[]
def fD (im:List UInt8) (first:Nat):List (Nat × Nat):=fh im (first+64) 64 (first+1)
def jz (im:List UInt8) (first:Nat):Nat:=((fD im first).getLast?.map λx=>ax x.1 x.2).getD (first+1)
def eK (im:List UInt8) (i size:Nat):List UInt8:=(im.drop (64 * i)).take size
theorem oM (im:List UInt8) (i:Nat):eP im i < 65536:=by
 have h:=nM ((ak im i).take 2);have h2:((ak im i).take 2).length<=2:=by rw[List.length_take];omega
 have h3:256 ^ ((ak im i).take 2).length<=256 ^ 2:=Nat.pow_le_pow_right (by omega) h2;unfold eP;omega
end Go.Proofs.YtdilnodbfnlhdaaGreatDoor
