import Derived.Below
import Derived.Laws.OwnMore
import Derived.Deep.AppendLies
import Derived.Deep.Draws
import Derived.Laws.Rows
import Derived.Lib.Hide
import Derived.WalkSpells
theorem aa {α : Sort _} (a : α) : ∃ x, a = x := ⟨a, rfl⟩
theorem ab {p : Prop} (h : p) : Go.RowKit.Hid p := h
namespace Tide
open Go Go.RowKit
def al (l:List UInt8):List Value:=l.map λc=>Value.int .u8 (c.toNat:Int)
theorem aW (l:List UInt8):(al l).length=l.length:=by simp[al]
theorem nh (a b:List UInt8):al (a ++ b)=al a ++ al b:=by simp[al]
theorem iA (l:List UInt8) (j:Nat) (h:j < l.length):(al l)[j]? =some (.int .u8 (l[j].toNat:Int)):=by simp[al,h]
theorem gB (l:List UInt8):∀u ∈ al l,u.oneCell'=true:=by intro u hu;simp only[al,List.mem_map]at hu;obtain⟨c,_,rfl⟩:=hu;rfl
def Row (w:World) (B:Nat) (v:Value) (xs:List Value):Prop:=
 xs.length<=9223372036854775807/\∃A c,v= .slice A xs.length c/\xs.length<=c/\c<=9223372036854775807/\
   (xs≠ []->∃b o,A=some ⟨b,o,none⟩/\b < B/\∀j u,xs[j]? =some u->w.cell? ⟨b,o+j,none⟩=some u)
def Bytes (w:World) (B:Nat) (v:Value) (l:List UInt8):Prop:=Row w B v (al l)
def dX (w:World) (B:Nat) (v:Value) (ps:List (List UInt8)):Prop:=
 ∃vs:List Value,Row w B v vs/\vs.length=ps.length/\∀ (i:Nat) (u:Value) (p:List UInt8),vs[i]? =some u->ps[i]? =some p->Bytes w B u p
section
variable {w w':World} {B B':Nat} {v:Value} {xs:List Value} {l:List UInt8} {ps:List (List UInt8)}
theorem Row.aj (h:Row w B v xs) (hk:∀b o,b < B->w'.cell? ⟨b,o,none⟩=w.cell? ⟨b,o,none⟩):Row w' B v xs:=by obtain⟨hn,A,c,rfl,h1,h2,hc⟩:=h;refine⟨hn,A,c,rfl,h1,h2,λhx=> ?_⟩;obtain⟨b,o,e,hb,hcell⟩:=hc hx;exact⟨b,o,e,hb,λj u hu=>(hk _ _ hb).trans (hcell j u hu)⟩
theorem Row.more (h:Row w B v xs) (hB:B<=B'):Row w B' v xs:=by obtain⟨hn,A,c,rfl,h1,h2,hc⟩:=h;refine⟨hn,A,c,rfl,h1,h2,λhx=> ?_⟩;obtain⟨b,o,e,hb,hcell⟩:=hc hx;exact⟨b,o,e,by omega,hcell⟩
theorem Bytes.aj (h:Bytes w B v l) (hk:∀b o,b < B->w'.cell? ⟨b,o,none⟩=w.cell? ⟨b,o,none⟩):Bytes w' B v l:=Row.aj h hk
theorem Bytes.more (h:Bytes w B v l) (hB:B<=B'):Bytes w B' v l:=Row.more h hB
theorem dX.aj (h:dX w B v ps) (hk:∀b o,b < B->w'.cell? ⟨b,o,none⟩=w.cell? ⟨b,o,none⟩):dX w' B v ps:=by obtain⟨vs,h1,h2,h3⟩:=h;exact⟨vs,h1.aj hk,h2,λi u p hu hp=>(h3 i u p hu hp).aj hk⟩
theorem eH (hb:Below B w w'):∀b o,b < B->w'.cell? ⟨b,o,none⟩=w.cell? ⟨b,o,none⟩:=λb o h=>hb.cell (p:=⟨b,o,none⟩) h
theorem Bytes.below (h:Bytes w B v l) (hb:Below B w w'):Bytes w' B v l:=h.aj (eH hb)
theorem dX.below (h:dX w B v ps) (hb:Below B w w'):dX w' B v ps:=h.aj (eH hb)
theorem Bytes.form (h:Bytes w B v l):∃A c,v= .slice A l.length c/\l.length<=c/\c<=9223372036854775807/\
 ∀j,j < l.length->∃b o,A=some ⟨b,o,none⟩/\b < B/\∀j (h:j < l.length),w.cell? ⟨b,o+j,none⟩=some (.int .u8 (l[j].toNat:Int)):=by
 obtain⟨_,A,c,rfl,h1,h2,hc⟩:=h;refine⟨A,c,by rw[aW],by simpa[aW]using h1,h2,λj hj=> ?_⟩;obtain⟨b,o,e,hb,hcell⟩:=hc (by intro e;have:=aW l;rw[e]at this;simp at this;omega);exact⟨b,o,e,hb,λi hi=>hcell i _ (iA l i hi)⟩
theorem dX.form (h:dX w B v ps):ps.length<=9223372036854775807/\∃A c,v= .slice A ps.length c/\
 ∀i (hi:i < ps.length),∃b o u,A=some ⟨b,o,none⟩/\w.cell? ⟨b,o+i,none⟩=some u/\Bytes w B u ps[i]:=by
 obtain⟨vs,⟨hn,A,c,rfl,h1,h2,hc⟩,hl,h3⟩:=h;refine⟨by omega,A,c,by rw[hl],λi hi=> ?_⟩;have hi':i < vs.length:=by omega
 obtain⟨b,o,e,hb,hcell⟩:=hc (by intro e;subst e;simp at hi');exact⟨b,o,vs[i],e,hcell i _ (List.getElem?_eq_getElem hi'),h3 i _ _ (List.getElem?_eq_getElem hi') (List.getElem?_eq_getElem hi)⟩
theorem di (w:World) (B:Nat):Bytes w B (.slice none 0 0) []:=⟨by simp[al],none,0,by simp[al],by simp[al],by simp,λh=>absurd rfl h⟩
theorem Row.cm {base:Nat} {e:TypeId} {n:Nat} (h:w.ownsRow base e 1 v n xs) (hB:w.heap.size<=B):Row w B v xs:=by
 have hl:=h.1;have hlt:=h.lt;simp at hl;subst hl;have h':=h;rcases h.2 with⟨rfl,h0⟩|⟨g,cap,cur,rfl,_,_,h1,h2,_⟩
 · have:xs= []:=List.eq_nil_of_length_eq_zero h0;subst this;exact⟨by simp,none,0,by simp,by simp,by simp,λe=>absurd rfl e⟩
 · unfold maxLen at h2;have:=(hlt g rfl).2;refine⟨by omega,some ⟨g,0,none⟩,cap,rfl,h1,h2,λhx=>⟨g,0,rfl,by omega,λj u hu=> ?_⟩⟩;have hj:=(List.getElem?_eq_some_iff.1 hu).1;rw[Nat.zero_add,h'.cellAt j (by omega)];exact hu
theorem Bytes.cm {base:Nat} {e:TypeId} {n:Nat} (h:w.ownsRow base e 1 v n (al l)):Bytes w w.heap.size v l:=Row.cm h (Nat.le_refl _)
theorem Row.new (w:World) (e:TypeId) (cs:Array Value) (fr:Nat × Nat) (g n:Nat) (hg:g=w.heap.size) (hn:n=cs.size) (hm:n<=9223372036854775807):
 Row (w.alloc (.cells cs e fr)) (w.heap.size+1) (.slice (some ⟨g,0,none⟩) n n) cs.toList:=by
 subst hg hn;refine⟨by simpa using hm,some ⟨w.heap.size,0,none⟩,cs.size,by simp,by simp,hm,λ_=>⟨w.heap.size,0,rfl,Nat.lt_succ_self _,λj x hx=> ?_⟩⟩;rw[Nat.zero_add,cell_of_row _ _ j _ _ _ (heap_alloc_new w (.cells cs e fr))];simpa using hx
theorem Bytes.new (w:World) (e:TypeId) (cs:Array Value) (fr:Nat × Nat) (g n:Nat) (l:List UInt8) (hg:g=w.heap.size) (hl:cs.toList=al l) (hn:n=l.length) (hm:n<=9223372036854775807):
 Bytes (w.alloc (.cells cs e fr)) (w.heap.size+1) (.slice (some ⟨g,0,none⟩) n n) l:=by
 unfold Bytes;rw[<-hl];exact Row.new w e cs fr g n hg (by rw[hn,<-Array.length_toList,hl,aW]) hm
theorem Bytes.alloc {o:Obj} (h:Bytes w B v l) (hB:B<=w.heap.size):Bytes (w.alloc o) B v l:=h.aj λb o' hb=>World.cell?_alloc_lt w o ⟨b,o',none⟩ (by show b < w.heap.size;omega)
theorem dX.Ah {v2:Value} {l2:List UInt8} (e:TypeId) (g:Nat) (hg:g=w.heap.size) (hB:B<=w.heap.size) (h:Bytes w B v l) (h2:Bytes w B v2 l2):
 dX (w.alloc (.cells #[v,v2] e)) (w.heap.size+1) (.slice (some ⟨g,0,none⟩) 2 2) [l,l2]:=
 ⟨[v,v2],Row.new w e #[v,v2] (0,0) g 2 hg rfl (by omega),rfl,λi u p hu hp=>by
   have hj:=(List.getElem?_eq_some_iff.1 hu).1;have:i=0\/i=1:=by simp at hj;omega
   rcases this with rfl|rfl
   · simp at hu hp;subst hu hp;exact(h.alloc hB).more (by omega)
   · simp at hu hp;subst hu hp;exact(h2.alloc hB).more (by omega)⟩
theorem Bytes.sub {b o n c:Nat} (h:Bytes w B (.slice (some ⟨b,o,none⟩) n c) l) {lo hi m c':Nat} {l':List UInt8} (hlo:lo<=hi) (hhi:hi<=l.length) (hl:l'=(l.take hi).drop lo) (hm:m=hi - lo) (h1:m<=c') (h2:c'<=9223372036854775807):
 Bytes w B (.slice (some ⟨b,o+lo,none⟩) m c') l':=by
 subst hl hm;obtain⟨_,A,c0,he,_,_,hc⟩:=h;have hlen:(al ((l.take hi).drop lo)).length=hi - lo:=by rw[aW,List.length_drop,List.length_take];omega
 refine⟨by omega,some ⟨b,o+lo,none⟩,c',by rw[hlen],by omega,h2,λhne=> ?_⟩;have hpos:0 < hi - lo:=by rw[<-hlen];exact List.length_pos_iff.2 hne
 obtain⟨b',o',e,hb,hcell⟩:=hc (by intro e;have:=aW l;rw[e]at this;simp at this;omega);injection he with he1;rw[e]at he1;injection he1 with he1;injection he1 with hb' ho';subst hb' ho';refine⟨_,_,rfl,hb,λj u hu=> ?_⟩;have hj:j < hi - lo:=by rw[<-hlen];exact(List.getElem?_eq_some_iff.1 hu).1
 rw[Nat.add_assoc];apply hcell;rw[<-hu];simp only[al,List.getElem?_map,List.getElem?_drop];rw[List.getElem?_take_of_lt (by omega)]
theorem Bytes.take {b o n c:Nat} (h:Bytes w B (.slice (some ⟨b,o,none⟩) n c) l) {hi m c':Nat} {l':List UInt8} (hhi:hi<=l.length) (hl:l'=l.take hi) (hm:m=hi) (h1:m<=c') (h2:c'<=9223372036854775807):
 Bytes w B (.slice (some ⟨b,o,none⟩) m c') l':=h.sub (lo:=0) (Nat.zero_le _) hhi (by simpa using hl) (by omega) h1 h2
end
end Tide
namespace Tide
structure bh where
 kind:Nat
 af:Nat
 ep:Nat
 aK:List UInt8
structure bk where
 af:Nat
 bs:List UInt8
 aQ:Nat
structure aV where
 aD:List bk
 trimmed:Nat
 ag:Nat
def dm (s:aV) (a:Nat):Bool:=s.aD.any λp=>p.af == a
def cH (s:aV) (r:bh) (g:Nat):aV:=
 if r.kind=1 then(if dm s r.af then s else { s with aD:=s.aD ++ [⟨r.af,r.aK,g⟩] })
 else if r.kind=2 then { s with trimmed:=r.af,ag:=r.ep } else { s with ag:=r.ep }
def cE (s:aV):aV:= { s with aD:=s.aD.filter λp=>decide (s.trimmed<=p.af) }
def dw (l:List (bh × Nat)):aV:=l.foldl (λs x=>cH s x.1 x.2) ⟨[],0,0⟩
def cJ (l:List (bh × Nat)):List bk:=l.filterMap λx=>if x.1.kind=1 then some ⟨x.1.af,x.1.aK,x.2⟩else none
def gA (s:aV):Nat:=s.aD.foldl (λt p=>max t (p.af+1)) s.trimmed
theorem jN (l:List (bh × Nat)) (x:bh × Nat):dw (l ++ [x])=cH (dw l) x.1 x.2:=by unfold dw;rw[List.foldl_append];rfl
theorem jK (l m:List (bh × Nat)):cJ (l ++ m)=cJ l ++ cJ m:=by unfold cJ;rw[List.filterMap_append]
theorem uA {α:Type} (P:List α->Prop) (h0:P []) (h1:∀l x,P l->P (l ++ [x])):∀l,P l:=by
 intro l;rw[<-List.reverse_reverse l]
 induction l.reverse with
 | nil=>exact h0
 | cons x r ih=>rw[List.reverse_cons];exact h1 _ _ ih
theorem kE:∀l:List (bh × Nat),((cJ l).map bk.af).Nodup->(dw l).aD=cJ l:=by
 refine uA _ (λ_=>rfl) λl x ih hn=> ?_;rw[jK,List.map_append]at hn;have h1:=ih (List.nodup_append.1 hn).1;rw[jN,jK];unfold cH;by_cases hk:x.1.kind=1
 · rw[if_pos hk];have hp:cJ [x]= [⟨x.1.af,x.1.aK,x.2⟩]:=by simp[cJ,hk]
   rw[hp]at hn ⊢;have hh:dm (dw l) x.1.af=false:=by unfold dm;rw[h1,List.any_eq_false];intro p hpm he;exact(List.nodup_append.1 hn).2.2 p.af (List.mem_map.2 ⟨p,hpm,rfl⟩) x.1.af (by simp) (by simpa using he)
   rw[hh];simp[h1]
 · rw[if_neg hk];have hp:cJ [x]= []:=by simp[cJ,hk]
   rw[hp,List.append_nil];split
   · exact h1
   · exact h1
theorem rT (s:aV) (r:bh) (g:Nat) (h1:r.kind=1\/r.kind=2->s.trimmed<=r.af):cE (cH s r g)=cE (cH (cE s) r g):=by
 unfold cH;by_cases hk:r.kind=1
 · rw[if_pos hk,if_pos hk];have ha:=h1 (.inl hk);have hh:dm (cE s) r.af=dm s r.af:=by
    unfold dm cE;simp only[List.any_filter]
    congr 1
    funext p;by_cases e:p.af=r.af
    · rw[e];simp[ha]
    · simp[e]
   rw[hh];split
   · unfold cE;simp
   · unfold cE;simp[List.filter_append]
 · rw[if_neg hk,if_neg hk];by_cases hk2:r.kind=2
   · rw[if_pos hk2,if_pos hk2];have ha:=h1 (.inr hk2);unfold cE;simp only[List.filter_filter]
     congr 1
     apply List.filter_congr;intro p _;by_cases e:r.af<=p.af
     · have:s.trimmed<=p.af:=by omega
       simp[e,this]
     · simp[e]
   · rw[if_neg hk2,if_neg hk2];unfold cE;simp
theorem uJ (ps:List bk) (t:Nat):∀n,ps.foldl (λt p=>max t (p.af+1)) t<=n<->t<=n/\∀p ∈ ps,p.af+1<=n:=by
 induction ps generalizing t with
 | nil=>intro n;simp
 | cons p ps ih=>
   intro n;rw[List.foldl_cons,ih];constructor
   · rintro⟨h1,h2⟩;refine⟨by omega,λq hq=> ?_⟩;rcases List.mem_cons.1 hq with rfl|hq
     · omega
     · exact h2 q hq
   · rintro⟨h1,h2⟩;have:=h2 p (by simp);exact⟨by omega,λq hq=>h2 q (by simp[hq])⟩
end Tide
namespace Tide
def aq (n:Nat):List UInt8:=if h:n < 128 then[UInt8.ofNat n]else UInt8.ofNat (n % 128+128) :: aq (n / 128)
termination_by n
decreasing_by omega
theorem gQ {n:Nat} (h:n < 128):aq n= [UInt8.ofNat n]:=by rw[aq,dif_pos h]
theorem jH {n:Nat} (h:¬n < 128):aq n=UInt8.ofNat (n % 128+128) :: aq (n / 128):=by rw[aq,dif_neg h]
theorem sX:∀ (k n:Nat),n < 128 ^ (k+1)->(aq n).length<=k+1
 | 0,n,h=>by rw[gQ (by omega)];simp
 | k+1,n,h=>by
   by_cases h0:n < 128
   · rw[gQ h0];simp
   · rw[jH h0,List.length_cons];have:=sX k (n / 128) (by rw[Nat.div_lt_iff_lt_mul (by omega)];rw[Nat.pow_succ]at h;exact h);omega
theorem fY {n:Nat} (h:n < 2 ^ 62):(aq n).length<=9:=sX 8 n (by omega)
theorem sY (n:Nat):1<=(aq n).length:=by
 by_cases h0:n < 128
 · rw[gQ h0];simp
 · rw[jH h0];simp
def eB (s:ByteArray):List UInt8:=aq s.size ++ s.data.toList
end Tide
namespace Tide
def aO (x:Int):Bool:=decide (0<=x) && decide (x<=4611686018427387903)
def eI (st:Option (List UInt8)) (x:Int):Option (List UInt8):=if aO x then st.map (· ++ aq x.toNat) else none
def iS (st:Option (List UInt8)) (s:ByteArray):Option (List UInt8):=st.map (· ++ eB s)
theorem DM {x:Int} (h:aO x=true) (q:List UInt8):eI (some q) x=some (q ++ aq x.toNat):=by unfold eI;rw[if_pos h];rfl
theorem DL {x:Int} (h:aO x=false) (st:Option (List UInt8)):eI st x=none:=by unfold eI;rw[if_neg (by rw[h];simp)]
theorem Cz {n:Nat} (h:n<=4611686018427387903):aO (n:Int)=true:=by unfold aO;simp;omega
end Tide
namespace Tide
def high:Nat->List UInt8->Nat
 | f+1,c :: l=>if 128<=c.toNat then high f l+1 else 0
 | _,_=>0
def cK:List UInt8->Nat
 | []=>0
 | c :: l=>c.toNat % 128+128 * cK l
def rdNum (l:List UInt8):Nat × Nat × Nat:=
 match l[high 8 l]? with
 | none=>(2,0,0)
 | some b=>if 128<=b.toNat\/(b.toNat=0/\0 < high 8 l)\/(high 8 l=8/\64<=b.toNat) then(4,0,0) else(0,cK (l.take (high 8 l+1)),high 8 l+1)
theorem sj:∀ (f:Nat) (l:List UInt8),high f l<=f/\high f l<=l.length
 | 0,l=>by unfold high;cases l<;>simp
 | f+1, []=>by unfold high;simp
 | f+1,c :: l=>by have:=sj f l;unfold high;split<;>simp<;>omega
theorem u9:∀ (l:List UInt8),cK l < 128 ^ l.length
 | []=>by simp[cK]
 | c :: l=>by have:=u9 l;unfold cK;rw[List.length_cons,Nat.pow_succ];omega
theorem sk:∀ (f n:Nat) (r:List UInt8),n < 128 ^ (f+1)->high f (aq n ++ r)=(aq n).length - 1
 | 0,n,r,h=>by rw[gQ (by omega)];unfold high;simp
 | f+1,n,r,h=>by
   by_cases h0:n < 128
   · rw[gQ h0];have e:(UInt8.ofNat n).toNat=n:=UInt8.toNat_ofNat_of_lt' (show n < 256 by omega);show high (f+1) (UInt8.ofNat n :: r)=_;unfold high;rw[e,if_neg (by omega)];simp
   · rw[jH h0];have e:(UInt8.ofNat (n % 128+128)).toNat=n % 128+128:=UInt8.toNat_ofNat_of_lt' (show n % 128+128 < 256 by omega);have ih:=sk f (n / 128) r (by rw[Nat.div_lt_iff_lt_mul (by omega)];rw[Nat.pow_succ]at h;exact h);have hp:=sY (n / 128);show high (f+1) (UInt8.ofNat (n % 128+128) :: (aq (n / 128) ++ r))=_;unfold high;rw[e,if_pos (by omega),ih,List.length_cons];omega
theorem p8:∀n,cK (aq n)=n
 | n=>by
   by_cases h0:n < 128
   · rw[gQ h0];have e:(UInt8.ofNat n).toNat=n:=UInt8.toNat_ofNat_of_lt' (show n < 256 by omega);simp only[cK,e];omega
   · rw[jH h0];have e:(UInt8.ofNat (n % 128+128)).toNat=n % 128+128:=UInt8.toNat_ofNat_of_lt' (show n % 128+128 < 256 by omega);have ih:=p8 (n / 128);simp only[cK,e,ih];omega
termination_by n=>n
decreasing_by omega
theorem sW:∀n,∃ (l:List UInt8) (b:UInt8),aq n=l ++ [b]/\b.toNat < 128/\(b.toNat=0->l= [])
 | n=>by
   by_cases h0:n < 128
   · have e:(UInt8.ofNat n).toNat=n:=UInt8.toNat_ofNat_of_lt' (show n < 256 by omega);exact⟨[],UInt8.ofNat n,by rw[gQ h0];rfl,by omega,λ_=>rfl⟩
   · obtain⟨l,b,h1,h2,h3⟩:=sW (n / 128);refine⟨_ :: l,b,by rw[jH h0,h1];rfl,h2,λhb=> ?_⟩;have hl:=h3 hb;subst hl;have hv:=p8 (n / 128);rw[h1]at hv;simp[cK]at hv;omega
termination_by n=>n
decreasing_by omega
theorem B4 {n:Nat} (h:n < 2 ^ 62) (r:List UInt8):rdNum (aq n ++ r)=(0,n,(aq n).length):=by
 obtain⟨l,b,h1,h2,h3⟩:=sW n;have hh:=sk 8 n r (by omega);have hlen:(aq n).length=l.length+1:=by rw[h1];simp
 have hk:high 8 (aq n ++ r)=l.length:=by omega
 have h9:=fY h;have hv:=p8 n;have h64:l.length=8->b.toNat < 64:=by
  intro h8;rcases Nat.lt_or_ge b.toNat 64 with hb|hb
  · exact hb
  · exfalso;have key:∀l:List UInt8,b.toNat % 128 * 128 ^ l.length<=cK (l ++ [b]):=by
     intro l
     induction l with
     | nil=>simp[cK]
     | cons c l ih=>have e:cK (c :: l ++ [b])=c.toNat % 128+128 * cK (l ++ [b]):=rfl;rw[e,List.length_cons,Nat.pow_succ,<-Nat.mul_assoc];omega
    have:=key l;rw[<-h1,hv,h8]at this;omega
 unfold rdNum;rw[hk,h1,List.append_assoc];have hget:(l ++ ([b] ++ r))[l.length]? =some b:=by simp
 rw[hget];simp only;rw[if_neg (by
  rintro(hb|⟨hb,hp⟩|⟨h8,hb⟩)
  · omega
  · rw[h3 hb]at hp;simp at hp
  · have:=h64 h8;omega)]
 have ht:(l ++ ([b] ++ r)).take (l.length+1)=l ++ [b]:=by rw[<-List.append_assoc,List.take_append_of_le_length (by simp),List.take_of_length_le (by simp)]
 rw[ht,<-h1,hv,hlen]
end Tide
namespace Tide
theorem me:∀ (f j:Nat) (l:List UInt8),(∀c ∈ l.take j,128<=c.toNat)->j<=f->j<=l.length->(j=f\/j=l.length\/∃h:j < l.length,l[j].toNat < 128)->high f l=j
 | 0,j,l,_,hj,_,_=>by
   have:j=0:=by omega
   subst this;unfold high;cases l<;>rfl
 | f+1,j, [],_,_,hl,_=>by
   have:j=0:=by simpa using hl
   subst this;rfl
 | f+1,0,c :: l,_,_,_,h=>by
   unfold high;rw[if_neg];rcases h with h|h|⟨h,hc⟩
   · omega
   · simp at h
   · simpa using hc
 | f+1,j+1,c :: l,ha,hj,hl,h=>by
   have hc:128<=c.toNat:=ha c (by simp);unfold high;rw[if_pos hc];have:=me f j l (λx hx=>ha x (by rw[List.take_succ_cons];exact List.mem_cons_of_mem _ hx)) (by omega) (by simpa using hl) (by
    rcases h with h|h|⟨h,hx⟩
    · exact .inl (by omega)
    · exact .inr (.inl (by simpa using h))
    · exact .inr (.inr ⟨by simpa using h,by simpa using hx⟩))
   omega
theorem u7:∀ (l m:List UInt8),cK (l ++ m)=cK l+128 ^ l.length * cK m
 | [],m=>by simp[cK]
 | c :: l,m=>by have:=u7 l m;simp only[cK,List.cons_append,this,List.length_cons,Nat.pow_succ];rw[Nat.mul_add,<-Nat.mul_assoc,Nat.mul_comm 128 (128 ^ l.length)];omega
theorem EF (l:List UInt8) (c:UInt8):cK (l ++ [c])=cK l+c.toNat % 128 * 128 ^ l.length:=by rw[u7,Nat.mul_comm];simp[cK]
theorem vd (l:List UInt8) (j:Nat) (h:j < l.length):cK (l.take (j+1))=cK (l.take j)+l[j].toNat % 128 * 128 ^ j:=by rw[List.take_succ_eq_append_getElem h,EF,List.length_take,Nat.min_eq_left (by omega)]
theorem p9 (l:List UInt8) (j:Nat):cK (l.take j) < 128 ^ j:=by have:=u9 (l.take j);have h2:(128:Nat) ^ (l.take j).length<=128 ^ j:=Nat.pow_le_pow_right (by omega) (by simp;omega);omega
theorem BX {l:List UInt8} {j:Nat} (ha:∀c ∈ l.take j,128<=c.toNat) (h:j < l.length) (h8:j<=8) (hc:l[j].toNat < 128):
 rdNum l=if(l[j].toNat=0/\0 < j)\/4611686018427387903 < cK (l.take (j+1)) then(4,0,0) else(0,cK (l.take (j+1)),j+1):=by
 have hh:=me 8 j l ha h8 (by omega) (.inr (.inr ⟨h,hc⟩));unfold rdNum;rw[hh,List.getElem?_eq_getElem h];simp only;have hv:=vd l j h;have hl:=p9 l j;have key:(4611686018427387903 < cK (l.take (j+1)))<->(j=8/\64<=l[j].toNat):=by
  have hm:l[j].toNat % 128=l[j].toNat:=Nat.mod_eq_of_lt hc;rw[hm]at hv;constructor
  · intro h1;by_cases h9:j=8
    · subst h9;refine⟨rfl,?_⟩;omega
    · exfalso;have h7:(128:Nat) ^ j<=128 ^ 7:=Nat.pow_le_pow_right (by omega) (by omega);have hx:l[j].toNat * 128 ^ j<=127 * 128 ^ 7:=Nat.mul_le_mul (by omega) h7;omega
  · rintro⟨rfl,h1⟩;omega
 by_cases hb:(l[j].toNat=0/\0 < j)\/4611686018427387903 < cK (l.take (j+1))
 · rw[if_pos hb,if_pos];rcases hb with hb|hb
   · exact .inr (.inl hb)
   · exact .inr (.inr (key.1 hb))
 · rw[if_neg hb,if_neg];rintro(h1|h1|h1)
   · omega
   · exact hb (.inl h1)
   · exact hb (.inr (key.2 h1))
theorem B5 {l:List UInt8} (ha:∀c ∈ l,128<=c.toNat) (h:l.length < 9):rdNum l=(2,0,0):=by have hh:=me 8 l.length l (by rw[List.take_length];exact ha) (by omega) (Nat.le_refl _) (.inr (.inl rfl));unfold rdNum;rw[hh,List.getElem?_eq_none (Nat.le_refl _)]
theorem BZ {l:List UInt8} (ha:∀c ∈ l.take 9,128<=c.toNat) (h:9<=l.length):rdNum l=(4,0,0):=by have hh:=me 8 8 l (λc hc=>ha c (by rw[show(9:Nat)=8+1 from rfl,List.take_succ_eq_append_getElem (show 8 < l.length by omega)];exact List.mem_append_left _ hc)) (by omega) (by omega) (.inl rfl);have h8:128<=l[8].toNat:=ha _ (by rw[show(9:Nat)=8+1 from rfl,List.take_succ_eq_append_getElem (show 8 < l.length by omega)];exact List.mem_append_right _ (List.mem_singleton.2 rfl));unfold rdNum;rw[hh,List.getElem?_eq_getElem (show 8 < l.length by omega)];simp only;rw[if_pos (.inl h8)]
end Tide
namespace Tide
open Go
structure aF where
 place:Nat
 number:Nat
 bJ:Nat
 aE:List (List UInt8)
structure aC where
 places:Nat
 ae:List aF
def cI (n:Nat):Nat:=1+(n+63) / 64
def eA (gs:List aF) (p:Int):Bool:=gs.any λg=>(g.place:Int) == p
def cU (gs:List aF) (P:Nat):Nat->Int
 | 0=> -1
 | k+1=>if eA gs ((P:Int) - 1 - k) then cU gs P k else(P:Int) - 1 - k
def cS (gs:List aF):Int:=match gs.getLast? with
 | none=> -1
 | some g=>(g.number:Int)
def de (s:aC):Option aC:=if cU s.ae s.places s.places < 0 then none else some { s with ae:=s.ae ++ [⟨(cU s.ae s.places s.places).toNat,(cS s.ae+1).toNat,0, []⟩] }
def dN (gs:List aF) (n:Nat):Bool:=match gs.getLast? with
 | none=>false
 | some g=>decide (g.bJ+cI n<=63)
def aF.push (g:aF) (b:List UInt8):aF:= { g with bJ:=g.bJ+cI b.length,aE:=g.aE ++ [b] }
def fZ (gs:List aF) (b:List UInt8):List aF:=match gs.getLast? with
 | none=>gs
 | some g=>gs.dropLast ++ [g.push b]
def aZ (s:aC) (b:List UInt8):aC × Int × Int:=
 if b.length < 1\/3968 < b.length then(s,0,4)
 else if dN s.ae b.length then({ s with ae:=fZ s.ae b },cS s.ae,0)
 else match de s with
  | none=>(s,0,13)
  | some t=>({ t with ae:=fZ t.ae b },cS t.ae,0)
def gk (gs:List aF) (n:Int):Option Nat:=gs.findIdx? λg=>(g.number:Int) == n
def fU (s:aC) (n:Int):aC × Int:=match gk s.ae n with
 | none=>(s,16)
 | some i=>if i+1=s.ae.length then(s,17) else({ s with ae:=s.ae.eraseIdx i },0)
def pg (gs:List aF) (n:Int):List (List UInt8):=match gs.find? λg=>(g.number:Int) == n with
 | none=> []
 | some g=>g.aE
structure aC.Wf (s:aC):Prop where
 place:∀g ∈ s.ae,g.place < s.places
 apart:(s.ae.map aF.place).Nodup
 ga:(s.ae.map aF.number).Pairwise (· < ·)
 aE:∀g ∈ s.ae,g.bJ=(g.aE.map λb=>cI b.length).sum/\g.bJ<=63/\∀b ∈ g.aE,1<=b.length/\b.length<=3968
theorem pB (gs:List aF) (P:Nat):∀k,k<=P->cU gs P k= -1\/((P:Int) - k<=cU gs P k/\cU gs P k < P)
 | 0,_=> .inl rfl
 | k+1,h=>by
   unfold cU;split
   · rcases pB gs P k (by omega) with h1|h1
     · exact .inl h1
     · exact .inr ⟨by omega,h1.2⟩
   · exact .inr ⟨by omega,by omega⟩
theorem uc (gs:List aF) (P:Nat):∀k,k<=P->0<=cU gs P k->eA gs (cU gs P k)=false
 | 0,_,h=>by simp[cU]at h
 | k+1,hk,h=>by
   unfold cU at h ⊢;split
   · rename_i ht;rw[if_pos ht]at h;exact uc gs P k (by omega) h
   · rename_i ht;simpa using ht
theorem uN {gs:List aF} {p:Int} (h:eA gs p=false):∀g ∈ gs,(g.place:Int)≠p:=by intro g hg e;have:eA gs p=true:=List.any_eq_true.2 ⟨g,hg,by simpa using e⟩;rw[h]at this;cases this
theorem iK (gs:List aF) (g:aF):cS (gs ++ [g])=(g.number:Int):=by simp[cS]
theorem zH (gs:List aF): -1<=cS gs:=by unfold cS;split<;>omega
theorem zI {gs:List aF} (h:(gs.map aF.number).Pairwise (· < ·)):∀g ∈ gs,(g.number:Int)<=cS gs:=by
 rcases List.eq_nil_or_concat gs with rfl|⟨l,x,hc⟩
 · intro g hg;cases hg
 · rw[List.concat_eq_append]at hc;subst hc;intro g hg;rw[iK];rw[List.map_append,List.pairwise_append]at h;rcases List.mem_append.1 hg with hg|hg
   · have:=h.2.2 g.number (List.mem_map.2 ⟨g,hg,rfl⟩) x.number (by simp);omega
   · simp only[List.mem_singleton]at hg;subst hg;exact Int.le_refl _
theorem pR {s t:aC} (h:s.Wf) (ht:de s=some t):t.Wf:=by
 unfold de at ht;split at ht
 · cases ht
 · rename_i h0;injection ht with ht;subst ht;have hlow:=pB s.ae s.places s.places (Nat.le_refl _);have hfree:=uN (uc s.ae s.places s.places (Nat.le_refl _) (by omega));have hmax:=zI h.ga;have hge:=zH s.ae;refine⟨?_,?_,?_,?_⟩
   · intro g hg;rcases List.mem_append.1 hg with hg|hg
     · exact h.place g hg
     · simp only[List.mem_singleton]at hg;subst hg;show(cU s.ae s.places s.places).toNat < s.places;omega
   · rw[List.map_append];refine List.nodup_append.2 ⟨h.apart,by simp,?_⟩;intro a ha b hb;simp only[List.map_cons,List.map_nil,List.mem_singleton]at hb;obtain⟨g,hg,rfl⟩:=List.mem_map.1 ha;have:=hfree g hg;omega
   · rw[List.map_append];refine List.pairwise_append.2 ⟨h.ga,by simp,?_⟩;intro a ha b hb;simp only[List.map_cons,List.map_nil,List.mem_singleton]at hb;obtain⟨g,hg,rfl⟩:=List.mem_map.1 ha;have:=hmax g hg;omega
   · intro g hg;rcases List.mem_append.1 hg with hg|hg
     · exact h.aE g hg
     · simp only[List.mem_singleton]at hg;subst hg;exact⟨rfl,Nat.zero_le _,λb hb=>by cases hb⟩
theorem iv (l:List aF) (g:aF) (b:List UInt8):fZ (l ++ [g]) b=l ++ [g.push b]:=by simp[fZ]
theorem ld (l:List aF) (g:aF) (n:Nat):dN (l ++ [g]) n=decide (g.bJ+cI n<=63):=by simp[dN]
theorem oU {s:aC} (h:s.Wf) (b:List UInt8) (hb:1<=b.length/\b.length<=3968) (hf:dN s.ae b.length=true):({ s with ae:=fZ s.ae b }:aC).Wf:=by
 obtain⟨P,gs⟩:=s;rcases List.eq_nil_or_concat gs with rfl|⟨l,x,hc⟩
 · cases hf
 rw[List.concat_eq_append]at hc;subst hc;simp only at hf ⊢;rw[ld]at hf;have hf:=of_decide_eq_true hf;rw[iv];refine⟨?_,?_,?_,?_⟩
 · intro g hg;rcases List.mem_append.1 hg with hg|hg
   · exact h.place g (List.mem_append.2 (.inl hg))
   · simp only[List.mem_singleton]at hg;subst hg;exact h.place x (by simp)
 · have:=h.apart;simp only[List.map_append,List.map_cons,List.map_nil]at this ⊢;exact this
 · have:=h.ga;simp only[List.map_append,List.map_cons,List.map_nil]at this ⊢;exact this
 · intro g hg;rcases List.mem_append.1 hg with hg|hg
   · exact h.aE g (List.mem_append.2 (.inl hg))
   · simp only[List.mem_singleton]at hg;subst hg;obtain⟨h1,h2,h3⟩:=h.aE x (by simp);refine⟨?_,hf,λc hc=> ?_⟩
     · show x.bJ+cI b.length=((x.aE ++ [b]).map _).sum;rw[List.map_append,List.sum_append,h1];simp
     · rcases List.mem_append.1 hc with hc|hc
       · exact h3 c hc
       · simp only[List.mem_singleton]at hc;subst hc;exact hb
theorem uL {s t:aC} (ht:de s=some t) (n:Nat) (hn:n<=3968):dN t.ae n=true:=by
 unfold de at ht;split at ht
 · cases ht
 · injection ht with ht;subst ht;rw[ld];unfold cI;exact decide_eq_true (by show 0+_<=63;omega)
theorem kV {s:aC} (h:s.Wf) (b:List UInt8):(aZ s b).1.Wf:=by
 unfold aZ;split
 · exact h
 · rename_i hb;split
   · rename_i hf;exact oU h b (by omega) hf
   · split
     · exact h
     · rename_i t ht;exact oU (pR h ht) b (by omega) (uL ht _ (by omega))
theorem xY {s:aC} (h:s.Wf) (n:Int):(fU s n).1.Wf:=by
 unfold fU;split
 · exact h
 · split
   · exact h
   · have hs:=λ(i:Nat)=>List.eraseIdx_sublist s.ae i;exact⟨λg hg=>h.place g ((hs _).subset hg),h.apart.sublist ((hs _).map _),h.ga.sublist ((hs _).map _),λg hg=>h.aE g ((hs _).subset hg)⟩
end Tide
namespace Tide
open Go
structure ah where
 store:aC
 rows:List bk
 trimmed:Nat
 ag:Nat
 top:Nat
def ax (r:bh):List UInt8:=
 if r.kind=1 then aq 1 ++ aq r.af ++ (aq r.aK.length ++ r.aK)
 else if r.kind=2 then aq 2 ++ aq r.af ++ aq r.ep
 else aq 3 ++ aq r.ep
def bG (ag:Nat) (ep a most:Int):Nat:=if ep < ag\/1073741824 < ep then 8 else if a < 0\/most < a then 1 else 0
def gJ (u:ah) (a:Int):Bool:=decide ((u.trimmed:Int)<=a) && u.rows.any λp=>(p.af:Int) == a
def aA (u:ah) (r:bh):aC × Int × Int:=aZ u.store (ax r)
def aT (u:ah) (ep a:Int) (b:List UInt8):ah × Nat:=
 if bG u.ag ep a 4095≠0 then(u,bG u.ag ep a 4095)
 else if b.length < 1\/2048 < b.length then(u,3)
 else if a < u.trimmed then(u,11)
 else if gJ u a then(u,9)
 else if(aA u ⟨1,a.toNat,0,b⟩).2.2≠0 then({ u with store:=(aA u ⟨1,a.toNat,0,b⟩).1 },(aA u ⟨1,a.toNat,0,b⟩).2.2.toNat)
 else({ u with store:=(aA u ⟨1,a.toNat,0,b⟩).1,rows:=u.rows ++ [⟨a.toNat,b,(aA u ⟨1,a.toNat,0,b⟩).2.1.toNat⟩],top:=max u.top (a.toNat+1) },0)
def bt (u:ah) (ep a:Int):List UInt8 × Nat:=
 if bG u.ag ep a 4095≠0 then([],bG u.ag ep a 4095)
 else if a < u.trimmed then([],11)
 else match u.rows.find? λp=>(p.af:Int) == a with
  | none=>([],10)
  | some p=>(p.bs,0)
def dj (rows:List bk) (to:Nat):Nat->aC->aC
 | 0,s=>s
 | k+1,s=>match s.ae with
   | g :: h :: r=>if rows.any (λp=>p.aQ == g.number && decide (to<=p.af)) then s else dj rows to k { s with ae:=h :: r }
   | _=>s
def dA (n:Nat) (s:aC):aC:= { s with ae:=s.ae.dropWhile λg=>decide (g.number < n) }
def fx (rows:List bk) (to last:Nat):Nat:=(rows.filter λp=>decide (to<=p.af)).foldl (λn p=>min n p.aQ) last
theorem mw (ps:List bk):∀n,ps.foldl (λn p=>min n p.aQ) n<=n/\(∀p ∈ ps,ps.foldl (λn p=>min n p.aQ) n<=p.aQ)/\(ps.foldl (λn p=>min n p.aQ) n=n\/∃p ∈ ps,ps.foldl (λn p=>min n p.aQ) n=p.aQ):=by
 induction ps with
 | nil=>intro n;exact⟨Nat.le_refl _,λp hp=>(by cases hp),.inl rfl⟩
 | cons q ps ih=>
   intro n;rw[List.foldl_cons];obtain⟨h1,h2,h3⟩:=ih (min n q.aQ);refine⟨by omega,λp hp=> ?_,?_⟩
   · rcases List.mem_cons.1 hp with rfl|hp
     · omega
     · exact h2 p hp
   · rcases h3 with h3|⟨p,hp,h3⟩
     · by_cases h:n<=q.aQ
       · exact .inl (by omega)
       · exact .inr ⟨q,by simp,by omega⟩
     · exact .inr ⟨p,by simp[hp],h3⟩
theorem Eg (rows:List bk) (to last:Nat):∀ (k:Nat) (s:aC),s.ae.length<=k->(s.ae.map aF.number).Pairwise (· < ·)->(∀g,s.ae.getLast? =some g->g.number=last)->
 (∀p ∈ rows,to<=p.af->∃g ∈ s.ae,g.number=p.aQ)->dj rows to k s=dA (fx rows to last) s:=by
 intro k
 induction k with
 | zero=>intro s h0 _ _ _;have:s.ae= []:=List.eq_nil_of_length_eq_zero (by omega);unfold dj dA;rw[this];cases s;simp only at this;subst this;rfl
 | succ k ih=>
   intro s hk hr hl hp;obtain⟨P,ae⟩:=s;simp only at hk hr hl hp;have hn:=mw (rows.filter λp=>decide (to<=p.af)) last
   match ae,hk,hr,hl,hp with
   | [],_,_,_,_=>rfl
   | [g],_,_,hl,hp=>
     unfold dj dA;have hgl:=hl g rfl;have:¬g.number < fx rows to last:=by unfold fx;omega
     simp[this]
   | g :: h :: r,hk,hr,hl,hp=>
     have hgt:∀x ∈ h :: r,g.number < x.number:=λx hx=>by rw[List.map_cons,List.pairwise_cons]at hr;exact hr.1 _ (List.mem_map.2 ⟨x,hx,rfl⟩)
     have hlast:g.number < last:=by have hle:∃x,(h :: r).getLast? =some x:=⟨_,List.getLast?_eq_some_getLast (by simp)⟩;obtain⟨x,hx⟩:=hle;have:=hl x (by rw[List.getLast?_cons_cons];exact hx);have:=hgt x (List.mem_of_getLast? hx);omega
     unfold dj;simp only;by_cases ha:rows.any (λp=>p.aQ == g.number && decide (to<=p.af))=true
     · rw[if_pos ha];obtain⟨p,hpm,he⟩:=List.any_eq_true.1 ha;simp only[Bool.and_eq_true,beq_iff_eq,decide_eq_true_eq]at he;have:=hn.2.1 p (List.mem_filter.2 ⟨hpm,by simpa using he.2⟩);have h9:¬g.number < fx rows to last:=by unfold fx;omega
       unfold dA;simp[h9]
     · rw[if_neg ha];have hno:∀p ∈ rows,to<=p.af->p.aQ≠g.number:=λp hpm hto he=>ha (List.any_eq_true.2 ⟨p,hpm,by simp[he,hto]⟩);have hlt:g.number < fx rows to last:=by
        unfold fx;rcases hn.2.2 with h3|⟨p,hpm,h3⟩
        · omega
        · rw[List.mem_filter]at hpm;have hto:to<=p.af:=by simpa using hpm.2
          obtain⟨x,hx,hxe⟩:=hp p hpm.1 hto;rcases List.mem_cons.1 hx with rfl|hx
          · exact absurd hxe.symm (hno p hpm.1 hto)
          · have:=hgt x hx;omega
       rw[ih ⟨P,h :: r⟩ (by simpa using hk) (by rw[List.map_cons,List.pairwise_cons]at hr;exact hr.2) (λx hx=>hl x (by rw[List.getLast?_cons_cons];exact hx)) (λp hpm hto=>by
        obtain⟨x,hx,hxe⟩:=hp p hpm hto;rcases List.mem_cons.1 hx with rfl|hx
        · exact absurd hxe.symm (hno p hpm hto)
        · exact⟨x,hx,hxe⟩)]
       unfold dA;simp[hlt]
end Tide
namespace Tide
open Go
def fQ (r:bh):Prop:=(r.kind=1/\r.af<=4095/\1<=r.aK.length/\r.aK.length<=2048)\/(r.kind=2/\r.af<=4096/\r.ep<=1073741824)\/(r.kind=3/\r.ep<=1073741824)
def bW (gs:List aF):List (List UInt8 × Nat):=gs.flatMap λg=>g.aE.map λb=>(b,g.number)
theorem ph (a b:List aF):bW (a ++ b)=bW a ++ bW b:=by unfold bW;rw[List.flatMap_append]
theorem Cp (l:List aF) (g:aF) (b:List UInt8):bW (l ++ [g.push b])=bW (l ++ [g]) ++ [(b,g.number)]:=by rw[ph,ph];simp[bW,aF.push]
theorem tL (l:List aF) (P N:Nat):bW (l ++ [⟨P,N,0, []⟩])=bW l:=by rw[ph];simp[bW]
theorem jY {m:aC} {b:List UInt8} (hr:(aZ m b).2.2=0):∃no:Nat,(aZ m b).2.1=(no:Int)/\bW (aZ m b).1.ae=bW m.ae ++ [(b,no)]/\∃l g,(aZ m b).1.ae=l ++ [g]/\g.number=no:=by
 unfold aZ at hr ⊢;split at hr
 · exact absurd hr (show ¬(4:Int)=0 by decide)
 · rename_i hb;rw[if_neg hb];have key:∀gs:List aF,gs≠ []->∃no:Nat,cS gs=(no:Int)/\bW (fZ gs b)=bW gs ++ [(b,no)]/\∃l g,fZ gs b=l ++ [g]/\g.number=no:=λgs hne=>by
    rcases List.eq_nil_or_concat gs with h0|⟨l,x,hc⟩
    · exact absurd h0 hne
    · rw[List.concat_eq_append]at hc;subst hc;exact⟨x.number,iK l x,by rw[iv,Cp],l,x.push b,iv l x b,rfl⟩
   split at hr
   · rename_i hf;rw[if_pos hf];exact key m.ae (by intro e;rw[e]at hf;cases hf)
   · rename_i hf;rw[if_neg hf];cases ht:de m with
     | none=>rw[ht]at hr;exact absurd hr (show ¬(13:Int)=0 by decide)
     | some t=>
       have hts:∃P N,t.ae=m.ae ++ [⟨P,N,0, []⟩]:=by
        unfold de at ht;split at ht
        · cases ht
        · injection ht with ht;exact⟨_,_,by rw[<-ht]⟩
       obtain⟨P,N,hts⟩:=hts;obtain⟨no,k1,k2,k3⟩:=key t.ae (by rw[hts];simp);refine⟨no,k1,?_,k3⟩;show bW (fZ t.ae b)=_;rw[k2,hts,tL]
theorem wb {m:aC} {b:List UInt8} (hr:(aZ m b).2.2≠0):(aZ m b).1=m:=by
 unfold aZ at hr ⊢;split
 · rfl
 · rename_i hb;rw[if_neg hb]at hr;split
   · rename_i hf;rw[if_pos hf]at hr;exact absurd rfl hr
   · rename_i hf;rw[if_neg hf]at hr;cases ht:de m with
     | none=>rfl
     | some t=>rw[ht]at hr;exact absurd rfl hr
structure Holds (u:ah) (s:aV) (l:List (bh × Nat)):Prop where
 wf:u.store.Wf
 aE:bW u.store.ae=l.map λx=>(ax x.1,x.2)
 fu:∀x ∈ l,fQ x.1
 apart:((cJ l).map bk.af).Nodup
 state:cE (dw l)=s
 trimmed:s.trimmed=u.trimmed
 ag:s.ag=u.ag
 aD:s.aD=u.rows.filter λp=>decide (u.trimmed<=p.af)
 once:(u.rows.map bk.af).Nodup
 low:∀p ∈ u.rows,p.af+1<=u.top
 top:u.top=0\/∃p ∈ u.rows,p.af+1=u.top
section
variable {u:ah} {s:aV} {l:List (bh × Nat)}
theorem Holds.tail (h:Holds u s l):gA s=max u.top u.trimmed:=by
 have hle:∀n,gA s<=n<->max u.top u.trimmed<=n:=λn=>by
  unfold gA;rw[uJ,h.trimmed,h.aD];constructor
  · rintro⟨h1,h2⟩;rcases h.top with h3|⟨p,hp,h3⟩
    · omega
    · by_cases hpt:u.trimmed<=p.af
      · have:=h2 p (List.mem_filter.2 ⟨hp,by simpa using hpt⟩);omega
      · omega
  · intro h1;refine⟨by omega,λp hp=> ?_⟩;have:=h.low p (List.mem_filter.1 hp).1;omega
 have a:=(hle (gA s)).1 (Nat.le_refl _);have b:=(hle (max u.top u.trimmed)).2 (Nat.le_refl _);omega
theorem Holds.rZ (h:Holds u s l) (a:Nat):dm s a=gJ u (a:Int):=by
 unfold dm gJ;rw[h.aD,List.any_filter];by_cases ha:u.trimmed<=a
 · have e:decide ((u.trimmed:Int)<=(a:Int))=true:=decide_eq_true (by omega);rw[e,Bool.true_and]
   congr 1
   funext p;by_cases hpa:p.af=a
   · rw[hpa,decide_eq_true ha,Bool.true_and,beq_self_eq_true,beq_self_eq_true]
   · rw[beq_eq_false_iff_ne.2 hpa,beq_eq_false_iff_ne.2 (show ¬(p.af:Int)=(a:Int) by omega),Bool.and_false]
 · have e:decide ((u.trimmed:Int)<=(a:Int))=false:=decide_eq_false (by omega);rw[e,Bool.false_and,List.any_eq_false];intro p _ hp;have hp2:(decide (u.trimmed<=p.af) && (p.af == a))=true:=hp;rw[Bool.and_eq_true,decide_eq_true_eq,beq_iff_eq]at hp2;omega
end
end Tide
namespace Tide
open Go
section
variable {u:ah} {s:aV} {l:List (bh × Nat)}
theorem yA (s:aV):cE (cE s)=cE s:=by unfold cE;simp only[List.filter_filter,Bool.and_self]
theorem Holds.fixed (h:Holds u s l):cE s=s:=by rw[<-h.state,yA]
theorem Holds.told (h:Holds u s l):(dw l).trimmed=u.trimmed/\(dw l).ag=u.ag:=by have h1:=h.trimmed;have h2:=h.ag;rw[<-h.state]at h1 h2;exact⟨h1,h2⟩
theorem Holds.fresh (h:Holds u s l) {a:Nat} (hh:dm s a=false) (ha:u.trimmed<=a):∀p ∈ cJ l,p.af≠a:=λp hp he=>by
 have hpg:p ∈ s.aD:=by rw[<-h.state];unfold cE;simp only;rw[kE l h.apart,h.told.1];exact List.mem_filter.2 ⟨hp,by simp;omega⟩
 unfold dm at hh;rw[List.any_eq_false]at hh;exact hh p hpg (by simp[he])
theorem Bo (r:bh) (g:Nat) (hk:r.kind=1):cJ [(r,g)]= [⟨r.af,r.aK,g⟩]:=by simp[cJ,hk]
theorem tl (r:bh) (g:Nat) (hk:r.kind≠1):cJ [(r,g)]= []:=by simp[cJ,hk]
theorem Holds.write (h:Holds u s l) {a:Nat} {b:List UInt8} (hh:dm s a=false) (ha:u.trimmed<=a) (ha2:a<=4095) (hb:1<=b.length/\b.length<=2048) (hok:(aA u ⟨1,a,0,b⟩).2.2=0):
 ∃no:Nat,(aA u ⟨1,a,0,b⟩).2.1=(no:Int)/\Holds { u with store:=(aA u ⟨1,a,0,b⟩).1,rows:=u.rows ++ [⟨a,b,no⟩],top:=max u.top (a+1) } (cH s ⟨1,a,0,b⟩ no) (l ++ [(⟨1,a,0,b⟩,no)]):=by
 obtain⟨no,h1,h2,_⟩:=jY hok;have hc:cH s ⟨1,a,0,b⟩ no= { s with aD:=s.aD ++ [⟨a,b,no⟩] }:=by unfold cH;rw[if_pos rfl,if_neg (by rw[show dm s (⟨1,a,0,b⟩:bh).af=dm s a from rfl,hh];decide)]
 have hra:∀p ∈ u.rows,p.af≠a:=λp hp he=>by
  have hp2:p ∈ s.aD:=by rw[h.aD];exact List.mem_filter.2 ⟨hp,by simp;omega⟩
  unfold dm at hh;rw[List.any_eq_false]at hh;exact hh p hp2 (by simp[he])
 refine⟨no,h1,?_⟩;rw[hc]
 exact {
  wf:=kV h.wf _
  aE:=by show bW (aZ u.store _).1.ae=_;rw[h2,h.aE,List.map_append];rfl
  fu:=λx hx=>by
   rcases List.mem_append.1 hx with hx|hx
   · exact h.fu x hx
   · simp only[List.mem_singleton]at hx;subst hx;exact .inl ⟨rfl,ha2,hb.1,hb.2⟩
  apart:=by
   rw[jK,Bo _ _ rfl,List.map_append,List.nodup_append];refine⟨h.apart,by simp,λx hx y hy=> ?_⟩;obtain⟨p,hp,rfl⟩:=List.mem_map.1 hx;have hya:y=a:=by simpa using hy
   rw[hya];exact h.fresh hh ha p hp
  state:=by
   rw[jN];have hf:=rT (dw l) ⟨1,a,0,b⟩ no (λ_=>by rw[h.told.1];exact ha);simp only;rw[hf,h.state,hc];unfold cE;simp only
   congr 1
   rw[List.filter_append];have hfx:=congrArg aV.aD h.fixed;unfold cE at hfx;simp only at hfx;rw[hfx,h.trimmed];simp[ha]
  trimmed:=h.trimmed
  ag:=h.ag
  aD:=by simp only;rw[List.filter_append,<-h.aD];simp[ha]
  once:=by
   simp only;rw[List.map_append,List.nodup_append];refine⟨h.once,by simp,λx hx y hy=> ?_⟩;obtain⟨p,hp,rfl⟩:=List.mem_map.1 hx;have hya:y=a:=by simpa using hy
   rw[hya];exact hra p hp
  low:=λp hp=>by
   simp only at hp ⊢;rcases List.mem_append.1 hp with hp|hp
   · have:=h.low p hp;omega
   · simp only[List.mem_singleton]at hp;subst hp;simp only;omega
  top:=by
   simp only;by_cases ht:u.top<=a+1
   · exact .inr ⟨⟨a,b,no⟩,by simp,by simp only;omega⟩
   · rcases h.top with h3|⟨p,hp,h3⟩
     · omega
     · exact .inr ⟨p,by simp[hp],by omega⟩ }
theorem Holds.seal (h:Holds u s l) {e:Nat} (he:e<=1073741824) (hok:(aA u ⟨3,0,e, []⟩).2.2=0):
 ∃no:Nat,(aA u ⟨3,0,e, []⟩).2.1=(no:Int)/\Holds { u with store:=(aA u ⟨3,0,e, []⟩).1,ag:=e } (cH s ⟨3,0,e, []⟩ no) (l ++ [(⟨3,0,e, []⟩,no)]):=by
 obtain⟨no,h1,h2,_⟩:=jY hok;have hc:∀s:aV,cH s ⟨3,0,e, []⟩ no= { s with ag:=e }:=λs=>by unfold cH;rw[if_neg (show ¬(3:Nat)=1 by decide),if_neg (show ¬(3:Nat)=2 by decide)]
 refine⟨no,h1,?_⟩;rw[hc]
 exact {
  wf:=kV h.wf _
  aE:=by show bW (aZ u.store _).1.ae=_;rw[h2,h.aE,List.map_append];rfl
  fu:=λx hx=>by
   rcases List.mem_append.1 hx with hx|hx
   · exact h.fu x hx
   · simp only[List.mem_singleton]at hx;subst hx;exact .inr (.inr ⟨rfl,he⟩)
  apart:=by rw[jK,tl _ _ (show ¬(3:Nat)=1 by decide),List.append_nil];exact h.apart
  state:=by rw[jN];simp only;rw[hc];have:=h.state;unfold cE at this ⊢;simp only;rw[<-this]
  trimmed:=h.trimmed
  ag:=rfl
  aD:=h.aD
  once:=h.once
  low:=h.low
  top:=h.top }
theorem Holds.trim (h:Holds u s l) {t:Nat} (ht:u.trimmed < t) (ht2:t<=4096) (he:u.ag<=1073741824) (hok:(aA u ⟨2,t,u.ag, []⟩).2.2=0):
 ∃no:Nat,(aA u ⟨2,t,u.ag, []⟩).2.1=(no:Int)/\Holds { u with store:=(aA u ⟨2,t,u.ag, []⟩).1,trimmed:=t } (cE (cH s ⟨2,t,u.ag, []⟩ no)) (l ++ [(⟨2,t,u.ag, []⟩,no)]):=by
 obtain⟨no,h1,h2,_⟩:=jY hok;have hc:∀s:aV,cH s ⟨2,t,u.ag, []⟩ no= { s with trimmed:=t,ag:=u.ag }:=λs=>by unfold cH;rw[if_neg (show ¬(2:Nat)=1 by decide),if_pos rfl]
 refine⟨no,h1,?_⟩
 exact {
  wf:=kV h.wf _
  aE:=by show bW (aZ u.store _).1.ae=_;rw[h2,h.aE,List.map_append];rfl
  fu:=λx hx=>by
   rcases List.mem_append.1 hx with hx|hx
   · exact h.fu x hx
   · simp only[List.mem_singleton]at hx;subst hx;exact .inr (.inl ⟨rfl,ht2,he⟩)
  apart:=by rw[jK,tl _ _ (show ¬(2:Nat)=1 by decide),List.append_nil];exact h.apart
  state:=by rw[jN];have hf:=rT (dw l) ⟨2,t,u.ag, []⟩ no (λ_=>by rw[h.told.1];simp only;omega);simp only;rw[hf,h.state]
  trimmed:=by rw[hc];rfl
  ag:=by rw[hc];rfl
  aD:=by
   rw[hc];unfold cE;simp only;rw[h.aD,List.filter_filter];apply List.filter_congr;intro p _;by_cases hp:t<=p.af
   · rw[decide_eq_true hp,decide_eq_true (show u.trimmed<=p.af by omega)];rfl
   · rw[decide_eq_false hp];rfl
  once:=h.once
  low:=h.low
  top:=h.top }
end
theorem Holds.new (P:Nat):Holds ⟨⟨P, []⟩, [],0,0,0⟩ ⟨[],0,0⟩ [] where
 wf:=⟨λg hg=>(by cases hg),List.nodup_nil,List.Pairwise.nil,λg hg=>(by cases hg)⟩
 aE:=rfl
 fu:=λx hx=>by cases hx
 apart:=List.nodup_nil
 state:=rfl
 trimmed:=rfl
 ag:=rfl
 aD:=rfl
 once:=List.nodup_nil
 low:=λp hp=>by cases hp
 top:= .inl rfl
end Tide
namespace Tide
open Go
theorem EG {s:aC} (h:s.Wf) {gs:List aF} (hs:gs.Sublist s.ae):(⟨s.places,gs⟩:aC).Wf where
 place:=λg hg=>h.place g (hs.subset hg)
 apart:=h.apart.sublist (hs.map _)
 ga:=h.ga.sublist (hs.map _)
 aE:=λg hg=>h.aE g (hs.subset hg)
theorem rn (n:Nat):∀gs:List aF,(gs.map aF.number).Pairwise (· < ·)->bW (gs.dropWhile λg=>decide (g.number < n))=(bW gs).filter λx=>decide (n<=x.2)
 | [],_=>rfl
 | g :: gs,h=>by
   rw[List.map_cons,List.pairwise_cons]at h;have e:bW (g :: gs)=(g.aE.map λb=>(b,g.number)) ++ bW gs:=rfl;by_cases hn:g.number < n
   · rw[List.dropWhile_cons_of_pos (by simpa using hn),rn n gs h.2,e,List.filter_append];have:(g.aE.map λb=>(b,g.number)).filter (λx=>decide (n<=x.2))= []:=by rw[List.filter_eq_nil_iff];intro x hx;obtain⟨b,_,rfl⟩:=List.mem_map.1 hx;simp;omega
     rw[this,List.nil_append]
   · rw[List.dropWhile_cons_of_neg (by simpa using hn)];have hall:∀x ∈ bW (g :: gs),n<=x.2:=λx hx=>by
      unfold bW at hx;obtain⟨y,hy,hx⟩:=List.mem_flatMap.1 hx;obtain⟨b,_,rfl⟩:=List.mem_map.1 hx;rcases List.mem_cons.1 hy with rfl|hy
      · simp only;omega
      · have:=h.1 _ (List.mem_map.2 ⟨y,hy,rfl⟩);simp only;omega
     rw[List.filter_eq_self.2 (λx hx=>by simpa using hall x hx)]
theorem oR (n:Nat):∀l:List (bh × Nat),cJ (l.filter λx=>decide (n<=x.2))=(cJ l).filter λp=>decide (n<=p.aQ)
 | []=>rfl
 | x :: l=>by
   have ih:=oR n l;have e:cJ (x :: l)=cJ [x] ++ cJ l:=jK [x] l;rw[e,List.filter_append,<-ih];by_cases hx:n<=x.2
   · rw[List.filter_cons_of_pos (by simpa using hx)];rw[show cJ (x :: l.filter λx=>decide (n<=x.2))=cJ [x] ++ cJ (l.filter λx=>decide (n<=x.2)) from jK [x] _]
     congr 1
     by_cases hk:x.1.kind=1
     · simp[cJ,hk,hx]
     · simp[cJ,hk]
   · rw[List.filter_cons_of_neg (by simpa using hx)];have:(cJ [x]).filter (λp=>decide (n<=p.aQ))= []:=by
      by_cases hk:x.1.kind=1
      · simp[cJ,hk];omega
      · simp[cJ,hk]
     rw[this,List.nil_append]
theorem Holds.xZ {u:ah} {s:aV} {k:List (bh × Nat)} {t:bh × Nat} (h:Holds u s (k ++ [t])) (ht:t.1.kind=2) {n:Nat} (hn:n<=t.2) (hp:∀p ∈ s.aD,n<=p.aQ):
 Holds { u with store:=dA n u.store } s ((k.filter λx=>decide (n<=x.2)) ++ [t]):=by
 have el:((k ++ [t]).filter λx=>decide (n<=x.2))=(k.filter λx=>decide (n<=x.2)) ++ [t]:=by rw[List.filter_append];simp[hn]
 have hst:∀k:List (bh × Nat),(dw (k ++ [t])).trimmed=t.1.af/\(dw (k ++ [t])).ag=t.1.ep:=λk=>by rw[jN];unfold cH;rw[if_neg (by omega),if_pos ht];exact⟨rfl,rfl⟩
 have hap:((cJ ((k ++ [t]).filter λx=>decide (n<=x.2))).map bk.af).Nodup:=by rw[oR];exact h.apart.sublist (List.filter_sublist.map _)
 have hpg:s.aD=(cJ (k ++ [t])).filter λp=>decide (t.1.af<=p.af):=by rw[<-h.state];unfold cE;simp only;rw[kE _ h.apart,(hst k).1]
 exact {
  wf:=EG h.wf (List.dropWhile_sublist _)
  aE:=by show bW (u.store.ae.dropWhile _)=_;rw[rn n _ h.wf.ga,h.aE,List.filter_map,<-el];rfl
  fu:=λx hx=>h.fu x (by rw[<-el]at hx;exact(List.mem_filter.1 hx).1)
  apart:=by rw[<-el];exact hap
  state:=by
   rw[<-h.state];have h1:=kE _ hap;rw[el]at h1;unfold cE;rw[h1,kE _ h.apart,(hst k).1,(hst k).2,(hst _).1,(hst _).2,<-el,oR]
   congr 1
   rw[List.filter_filter];apply List.filter_congr;intro p hpm;by_cases hta:t.1.af<=p.af
   · have:=hp p (by rw[hpg];exact List.mem_filter.2 ⟨hpm,by simpa using hta⟩);simp[hta,this]
   · simp[hta]
  trimmed:=h.trimmed
  ag:=h.ag
  aD:=h.aD
  once:=h.once
  low:=h.low
  top:=h.top }
end Tide
namespace Tide
open Go
def gI (u:ah) (a:Int):Option Nat:=if a < (u.trimmed:Int) then none else u.rows.findIdx? λr=>(r.af:Int) == a
def jk:Option Nat->Int
 | none=> -1
 | some i=>i
theorem yu {u:ah} {a:Int} (h:∀k (hk:k < u.rows.length),¬(((u.rows[k]).af:Int)=a/\(u.trimmed:Int)<=a)):gI u a=none:=by
 unfold gI;split
 · rfl
 · rename_i h1;rw[List.findIdx?_eq_none_iff];intro r hr;obtain⟨k,hk,rfl⟩:=List.getElem_of_mem hr;have:=h k hk;rw[beq_eq_false_iff_ne];intro e;exact this ⟨e,by omega⟩
theorem ys {u:ah} {a:Int} {j:Nat} (hj:j < u.rows.length) (h:∀k (hk:k < u.rows.length),k < j->¬(((u.rows[k]).af:Int)=a/\(u.trimmed:Int)<=a)) (h1:((u.rows[j]).af:Int)=a) (h2:(u.trimmed:Int)<=a):gI u a=some j:=by unfold gI;rw[if_neg (by omega),List.findIdx?_eq_some_iff_getElem];refine⟨hj,by simpa using h1,λk hk=> ?_⟩;have:=h k (by omega) hk;have hne:((u.rows[k]'(by omega)).af:Int)≠a:=λe=>this ⟨e,h2⟩;simpa using hne
theorem yL (u:ah) (a:Int):gJ u a=decide (0<=jk (gI u a)):=by
 unfold gJ gI;by_cases h:a < (u.trimmed:Int)
 · rw[if_pos h,decide_eq_false (by omega)];simp[jk]
 · rw[if_neg h,decide_eq_true (by omega),Bool.true_and];cases h1:u.rows.findIdx? λr=>(r.af:Int) == a with
   | none=>rw[List.findIdx?_eq_none_iff]at h1;rw[List.any_eq_false.2 (λx hx=>by rw[h1 x hx];simp)];simp[jk]
   | some i=>obtain⟨hi,h2,_⟩:=List.findIdx?_eq_some_iff_getElem.1 h1;rw[List.any_eq_true.2 ⟨_,List.getElem_mem hi,h2⟩];simp[jk]
theorem yt {u:ah} {a:Int} (h:¬a < (u.trimmed:Int)):(gI u a=none/\u.rows.find? (λr=>(r.af:Int) == a)=none)\/∃ (i:Nat) (hi:i < u.rows.length),gI u a=some i/\u.rows.find? (λr=>(r.af:Int) == a)=some u.rows[i]:=by
 unfold gI;rw[if_neg h];cases h1:u.rows.findIdx? λr=>(r.af:Int) == a with
 | none=>refine .inl ⟨rfl,?_⟩;rw[List.findIdx?_eq_none_iff]at h1;rw[List.find?_eq_none];intro x hx;rw[h1 x hx];simp
 | some i=>obtain⟨hi,h2,h3⟩:=List.findIdx?_eq_some_iff_getElem.1 h1;refine .inr ⟨i,hi,rfl,?_⟩;rw[List.find?_eq_some_iff_getElem];exact⟨h2,i,hi,rfl,λj hj=>by simpa using h3 j hj⟩
theorem qV {ag:Nat} {ep a most:Int} (h:bG ag ep a most=0):(ag:Int)<=ep/\ep<=1073741824/\0<=a/\a<=most:=by
 unfold bG at h;split at h
 · cases h
 · split at h
   · cases h
   · omega
theorem nA (s:aC) (b:List UInt8):0<=(aZ s b).2.2:=by
 unfold aZ;split
 · simp
 · split
   · simp
   · cases de s with
     | none=>simp
     | some t=>simp
theorem vW {s:aC} {b:List UInt8} (h:(aZ s b).2.2=0):((aZ s b).2.1.toNat:Int)=(aZ s b).2.1:=by obtain⟨no,h1,_⟩:=jY h;rw[h1];rfl
theorem xU (P:Nat) (g h:aF) (r:List aF):fU ⟨P,g :: h :: r⟩ (g.number:Int)=(⟨P,h :: r⟩,0):=by
 have:gk (g :: h :: r) (g.number:Int)=some 0:=by unfold gk;rw[List.findIdx?_cons];simp
 unfold fU;simp only[this];rw[if_neg (by simp)];rfl
end Tide
