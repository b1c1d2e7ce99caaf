import Derived.Below
import Derived.Laws.OwnMore
import Derived.Deep.AppendLies
import Derived.Deep.Draws
import Derived.Laws.Rows
import Derived.Lib.Hide
import Derived.WalkSpells
theorem aa {α : Sort _} (a : α) : ∃ x, a = x := ⟨a, rfl⟩
theorem ab {p : Prop} (h : p) : Go.RowKit.Hid p := h
namespace Tide
open Go Go.RowKit
def aj (l:List UInt8):List Value:=l.map λc=>Value.int .u8 (c.toNat:Int)
theorem aR (l:List UInt8):(aj l).length=l.length:=by simp[aj]
theorem oR (a b:List UInt8):aj (a ++ b)=aj a ++ aj b:=by simp[aj]
theorem ib (l:List UInt8) (j:Nat) (h:j < l.length):(aj l)[j]? =some (.int .u8 (l[j].toNat:Int)):=by simp[aj,h]
theorem jg (l:List UInt8):∀u ∈ aj l,u.oneCell'=true:=by intro u hu;simp only[aj,List.mem_map]at hu;obtain⟨c,_,rfl⟩:=hu;rfl
def Row (w:World) (B:Nat) (v:Value) (xs:List Value):Prop:=
 xs.length<=9223372036854775807/\∃A c,v= .slice A xs.length c/\xs.length<=c/\c<=9223372036854775807/\
   (xs≠ []->∃b o,A=some ⟨b,o,none⟩/\b < B/\∀j u,xs[j]? =some u->w.cell? ⟨b,o+j,none⟩=some u)
def Bytes (w:World) (B:Nat) (v:Value) (l:List UInt8):Prop:=Row w B v (aj l)
def fK (w:World) (B:Nat) (v:Value) (ps:List (List UInt8)):Prop:=
 ∃vs:List Value,Row w B v vs/\vs.length=ps.length/\∀ (i:Nat) (u:Value) (p:List UInt8),vs[i]? =some u->ps[i]? =some p->Bytes w B u p
section
variable {w w':World} {B B':Nat} {v:Value} {xs:List Value} {l:List UInt8} {ps:List (List UInt8)}
theorem Row.an (h:Row w B v xs) (hk:∀b o,b < B->w'.cell? ⟨b,o,none⟩=w.cell? ⟨b,o,none⟩):Row w' B v xs:=by obtain⟨hn,A,c,rfl,h1,h2,hc⟩:=h;refine⟨hn,A,c,rfl,h1,h2,λhx=> ?_⟩;obtain⟨b,o,e,hb,hcell⟩:=hc hx;exact⟨b,o,e,hb,λj u hu=>(hk _ _ hb).trans (hcell j u hu)⟩
theorem Row.more (h:Row w B v xs) (hB:B<=B'):Row w B' v xs:=by obtain⟨hn,A,c,rfl,h1,h2,hc⟩:=h;refine⟨hn,A,c,rfl,h1,h2,λhx=> ?_⟩;obtain⟨b,o,e,hb,hcell⟩:=hc hx;exact⟨b,o,e,by omega,hcell⟩
theorem Bytes.an (h:Bytes w B v l) (hk:∀b o,b < B->w'.cell? ⟨b,o,none⟩=w.cell? ⟨b,o,none⟩):Bytes w' B v l:=Row.an h hk
theorem Bytes.more (h:Bytes w B v l) (hB:B<=B'):Bytes w B' v l:=Row.more h hB
theorem fK.an (h:fK w B v ps) (hk:∀b o,b < B->w'.cell? ⟨b,o,none⟩=w.cell? ⟨b,o,none⟩):fK w' B v ps:=by obtain⟨vs,h1,h2,h3⟩:=h;exact⟨vs,h1.an hk,h2,λi u p hu hp=>(h3 i u p hu hp).an hk⟩
theorem ew (hb:Below B w w'):∀b o,b < B->w'.cell? ⟨b,o,none⟩=w.cell? ⟨b,o,none⟩:=λb o h=>hb.cell (p:=⟨b,o,none⟩) h
theorem Bytes.below (h:Bytes w B v l) (hb:Below B w w'):Bytes w' B v l:=h.an (ew hb)
theorem fK.below (h:fK w B v ps) (hb:Below B w w'):fK w' B v ps:=h.an (ew hb)
theorem Bytes.form (h:Bytes w B v l):∃A c,v= .slice A l.length c/\l.length<=c/\c<=9223372036854775807/\
 ∀j,j < l.length->∃b o,A=some ⟨b,o,none⟩/\b < B/\∀j (h:j < l.length),w.cell? ⟨b,o+j,none⟩=some (.int .u8 (l[j].toNat:Int)):=by
 obtain⟨_,A,c,rfl,h1,h2,hc⟩:=h;refine⟨A,c,by rw[aR],by simpa[aR]using h1,h2,λj hj=> ?_⟩;obtain⟨b,o,e,hb,hcell⟩:=hc (by intro e;have:=aR l;rw[e]at this;simp at this;omega);exact⟨b,o,e,hb,λi hi=>hcell i _ (ib l i hi)⟩
theorem fK.form (h:fK w B v ps):ps.length<=9223372036854775807/\∃A c,v= .slice A ps.length c/\
 ∀i (hi:i < ps.length),∃b o u,A=some ⟨b,o,none⟩/\w.cell? ⟨b,o+i,none⟩=some u/\Bytes w B u ps[i]:=by
 obtain⟨vs,⟨hn,A,c,rfl,h1,h2,hc⟩,hl,h3⟩:=h;refine⟨by omega,A,c,by rw[hl],λi hi=> ?_⟩;have hi':i < vs.length:=by omega
 obtain⟨b,o,e,hb,hcell⟩:=hc (by intro e;subst e;simp at hi');exact⟨b,o,vs[i],e,hcell i _ (List.getElem?_eq_getElem hi'),h3 i _ _ (List.getElem?_eq_getElem hi') (List.getElem?_eq_getElem hi)⟩
theorem fO (w:World) (B:Nat):Bytes w B (.slice none 0 0) []:=⟨by simp[aj],none,0,by simp[aj],by simp[aj],by simp,λh=>absurd rfl h⟩
theorem Row.dm {base:Nat} {e:TypeId} {n:Nat} (h:w.ownsRow base e 1 v n xs) (hB:w.heap.size<=B):Row w B v xs:=by
 have hl:=h.1;have hlt:=h.lt;simp at hl;subst hl;have h':=h;rcases h.2 with⟨rfl,h0⟩|⟨g,cap,cur,rfl,_,_,h1,h2,_⟩
 · have:xs= []:=List.eq_nil_of_length_eq_zero h0;subst this;exact⟨by simp,none,0,by simp,by simp,by simp,λe=>absurd rfl e⟩
 · unfold maxLen at h2;have:=(hlt g rfl).2;refine⟨by omega,some ⟨g,0,none⟩,cap,rfl,h1,h2,λhx=>⟨g,0,rfl,by omega,λj u hu=> ?_⟩⟩;have hj:=(List.getElem?_eq_some_iff.1 hu).1;rw[Nat.zero_add,h'.cellAt j (by omega)];exact hu
theorem Bytes.dm {base:Nat} {e:TypeId} {n:Nat} (h:w.ownsRow base e 1 v n (aj l)):Bytes w w.heap.size v l:=Row.dm h (Nat.le_refl _)
theorem Row.new (w:World) (e:TypeId) (cs:Array Value) (fr:Nat × Nat) (g n:Nat) (hg:g=w.heap.size) (hn:n=cs.size) (hm:n<=9223372036854775807):
 Row (w.alloc (.cells cs e fr)) (w.heap.size+1) (.slice (some ⟨g,0,none⟩) n n) cs.toList:=by
 subst hg hn;refine⟨by simpa using hm,some ⟨w.heap.size,0,none⟩,cs.size,by simp,by simp,hm,λ_=>⟨w.heap.size,0,rfl,Nat.lt_succ_self _,λj x hx=> ?_⟩⟩;rw[Nat.zero_add,cell_of_row _ _ j _ _ _ (heap_alloc_new w (.cells cs e fr))];simpa using hx
theorem Bytes.alloc {o:Obj} (h:Bytes w B v l) (hB:B<=w.heap.size):Bytes (w.alloc o) B v l:=h.an λb o' hb=>World.cell?_alloc_lt w o ⟨b,o',none⟩ (by show b < w.heap.size;omega)
theorem Bytes.sub {b o n c:Nat} (h:Bytes w B (.slice (some ⟨b,o,none⟩) n c) l) {lo hi m c':Nat} {l':List UInt8} (hlo:lo<=hi) (hhi:hi<=l.length) (hl:l'=(l.take hi).drop lo) (hm:m=hi - lo) (h1:m<=c') (h2:c'<=9223372036854775807):
 Bytes w B (.slice (some ⟨b,o+lo,none⟩) m c') l':=by
 subst hl hm;obtain⟨_,A,c0,he,_,_,hc⟩:=h;have hlen:(aj ((l.take hi).drop lo)).length=hi - lo:=by rw[aR,List.length_drop,List.length_take];omega
 refine⟨by omega,some ⟨b,o+lo,none⟩,c',by rw[hlen],by omega,h2,λhne=> ?_⟩;have hpos:0 < hi - lo:=by rw[<-hlen];exact List.length_pos_iff.2 hne
 obtain⟨b',o',e,hb,hcell⟩:=hc (by intro e;have:=aR l;rw[e]at this;simp at this;omega);injection he with he1;rw[e]at he1;injection he1 with he1;injection he1 with hb' ho';subst hb' ho';refine⟨_,_,rfl,hb,λj u hu=> ?_⟩;have hj:j < hi - lo:=by rw[<-hlen];exact(List.getElem?_eq_some_iff.1 hu).1
 rw[Nat.add_assoc];apply hcell;rw[<-hu];simp only[aj,List.getElem?_map,List.getElem?_drop];rw[List.getElem?_take_of_lt (by omega)]
theorem Bytes.take {b o n c:Nat} (h:Bytes w B (.slice (some ⟨b,o,none⟩) n c) l) {hi m c':Nat} {l':List UInt8} (hhi:hi<=l.length) (hl:l'=l.take hi) (hm:m=hi) (h1:m<=c') (h2:c'<=9223372036854775807):
 Bytes w B (.slice (some ⟨b,o,none⟩) m c') l':=h.sub (lo:=0) (Nat.zero_le _) hhi (by simpa using hl) (by omega) h1 h2
end
end Tide
namespace Tide
structure aX where
 kind:Nat
 af:Nat
 ep:Nat
 aw:List UInt8
structure bE where
 af:Nat
 bs:List UInt8
 cF:Nat
structure aT where
 aU:List bE
 trimmed:Nat
 aF:Nat
def de (s:aT) (a:Nat):Bool:=s.aU.any λp=>p.af == a
def dR (s:aT) (r:aX) (g:Nat):aT:=
 if r.kind=1 then(if de s r.af then s else { s with aU:=s.aU ++ [⟨r.af,r.aw,g⟩] })
 else if r.kind=2 then { s with trimmed:=r.af,aF:=r.ep } else { s with aF:=r.ep }
def dc (s:aT):aT:= { s with aU:=s.aU.filter λp=>decide (s.trimmed<=p.af) }
def dM (l:List (aX × Nat)):aT:=l.foldl (λs x=>dR s x.1 x.2) ⟨[],0,0⟩
def eX (l:List (aX × Nat)):List bE:=l.filterMap λx=>if x.1.kind=1 then some ⟨x.1.af,x.1.aw,x.2⟩else none
theorem me (l:List (aX × Nat)) (x:aX × Nat):dM (l ++ [x])=dR (dM l) x.1 x.2:=by unfold dM;rw[List.foldl_append];rfl
theorem n9 (l m:List (aX × Nat)):eX (l ++ m)=eX l ++ eX m:=by unfold eX;rw[List.filterMap_append]
theorem td {α:Type} (P:List α->Prop) (h0:P []) (h1:∀l x,P l->P (l ++ [x])):∀l,P l:=by
 intro l;rw[<-List.reverse_reverse l]
 induction l.reverse with
 | nil=>exact h0
 | cons x r ih=>rw[List.reverse_cons];exact h1 _ _ ih
theorem sy:∀l:List (aX × Nat),((eX l).map bE.af).Nodup->(dM l).aU=eX l:=by
 refine td _ (λ_=>rfl) λl x ih hn=> ?_;rw[n9,List.map_append]at hn;have h1:=ih (List.nodup_append.1 hn).1;rw[me,n9];unfold dR;by_cases hk:x.1.kind=1
 · rw[if_pos hk];have hp:eX [x]= [⟨x.1.af,x.1.aw,x.2⟩]:=by simp[eX,hk]
   rw[hp]at hn ⊢;have hh:de (dM l) x.1.af=false:=by unfold de;rw[h1,List.any_eq_false];intro p hpm he;exact(List.nodup_append.1 hn).2.2 p.af (List.mem_map.2 ⟨p,hpm,rfl⟩) x.1.af (by simp) (by simpa using he)
   rw[hh];simp[h1]
 · rw[if_neg hk];have hp:eX [x]= []:=by simp[eX,hk]
   rw[hp,List.append_nil];split
   · exact h1
   · exact h1
theorem xy (s:aT) (r:aX) (g:Nat) (h1:r.kind=1\/r.kind=2->s.trimmed<=r.af):dc (dR s r g)=dc (dR (dc s) r g):=by
 unfold dR;by_cases hk:r.kind=1
 · rw[if_pos hk,if_pos hk];have ha:=h1 (.inl hk);have hh:de (dc s) r.af=de s r.af:=by
    unfold de dc;simp only[List.any_filter]
    congr 1
    funext p;by_cases e:p.af=r.af
    · rw[e];simp[ha]
    · simp[e]
   rw[hh];split
   · unfold dc;simp
   · unfold dc;simp[List.filter_append]
 · rw[if_neg hk,if_neg hk];by_cases hk2:r.kind=2
   · rw[if_pos hk2,if_pos hk2];have ha:=h1 (.inr hk2);unfold dc;simp only[List.filter_filter]
     congr 1
     apply List.filter_congr;intro p _;by_cases e:r.af<=p.af
     · have:s.trimmed<=p.af:=by omega
       simp[e,this]
     · simp[e]
   · rw[if_neg hk2,if_neg hk2];unfold dc;simp
end Tide
namespace Tide
def ao (n:Nat):List UInt8:=if h:n < 128 then[UInt8.ofNat n]else UInt8.ofNat (n % 128+128) :: ao (n / 128)
termination_by n
decreasing_by omega
theorem iz {n:Nat} (h:n < 128):ao n= [UInt8.ofNat n]:=by rw[ao,dif_pos h]
theorem jJ {n:Nat} (h:¬n < 128):ao n=UInt8.ofNat (n % 128+128) :: ao (n / 128):=by rw[ao,dif_neg h]
theorem lL:∀ (k n:Nat),n < 128 ^ (k+1)->(ao n).length<=k+1
 | 0,n,h=>by rw[iz (by omega)];simp
 | k+1,n,h=>by
   by_cases h0:n < 128
   · rw[iz h0];simp
   · rw[jJ h0,List.length_cons];have:=lL k (n / 128) (by rw[Nat.div_lt_iff_lt_mul (by omega)];rw[Nat.pow_succ]at h;exact h);omega
theorem bH {n:Nat} (h:n < 2 ^ 62):(ao n).length<=9:=lL 8 n (by omega)
theorem kB (n:Nat):1<=(ao n).length:=by
 by_cases h0:n < 128
 · rw[iz h0];simp
 · rw[jJ h0];simp
def bN (s:ByteArray):List UInt8:=ao s.size ++ s.data.toList
end Tide
namespace Tide
def aP (x:Int):Bool:=decide (0<=x) && decide (x<=4611686018427387903)
def aA (st:Option (List UInt8)) (x:Int):Option (List UInt8):=if aP x then st.map (· ++ ao x.toNat) else none
def bM (st:Option (List UInt8)) (s:ByteArray):Option (List UInt8):=st.map (· ++ bN s)
def fH (st:Option (List UInt8)) (l:List Int):Option (List UInt8):=l.foldl aA (aA st l.length)
theorem oP {x:Int} (h:aP x=true) (q:List UInt8):aA (some q) x=some (q ++ ao x.toNat):=by unfold aA;rw[if_pos h];rfl
theorem Dt {x:Int} (h:aP x=false) (st:Option (List UInt8)):aA st x=none:=by unfold aA;rw[if_neg (by rw[h];simp)]
theorem B8 {n:Nat} (h:n<=4611686018427387903):aP (n:Int)=true:=by unfold aP;simp;omega
end Tide
namespace Tide
def high:Nat->List UInt8->Nat
 | f+1,c :: l=>if 128<=c.toNat then high f l+1 else 0
 | _,_=>0
def bS:List UInt8->Nat
 | []=>0
 | c :: l=>c.toNat % 128+128 * bS l
def rdNum (l:List UInt8):Nat × Nat × Nat:=
 match l[high 8 l]? with
 | none=>(2,0,0)
 | some b=>if 128<=b.toNat\/(b.toNat=0/\0 < high 8 l)\/(high 8 l=8/\64<=b.toNat) then(4,0,0) else(0,bS (l.take (high 8 l+1)),high 8 l+1)
theorem qS:∀ (f:Nat) (l:List UInt8),high f l<=f/\high f l<=l.length
 | 0,l=>by unfold high;cases l<;>simp
 | f+1, []=>by unfold high;simp
 | f+1,c :: l=>by have:=qS f l;unfold high;split<;>simp<;>omega
theorem tW:∀ (l:List UInt8),bS l < 128 ^ l.length
 | []=>by simp[bS]
 | c :: l=>by have:=tW l;unfold bS;rw[List.length_cons,Nat.pow_succ];omega
theorem qT:∀ (f n:Nat) (r:List UInt8),n < 128 ^ (f+1)->high f (ao n ++ r)=(ao n).length - 1
 | 0,n,r,h=>by rw[iz (by omega)];unfold high;simp
 | f+1,n,r,h=>by
   by_cases h0:n < 128
   · rw[iz h0];have e:(UInt8.ofNat n).toNat=n:=UInt8.toNat_ofNat_of_lt' (show n < 256 by omega);show high (f+1) (UInt8.ofNat n :: r)=_;unfold high;rw[e,if_neg (by omega)];simp
   · rw[jJ h0];have e:(UInt8.ofNat (n % 128+128)).toNat=n % 128+128:=UInt8.toNat_ofNat_of_lt' (show n % 128+128 < 256 by omega);have ih:=qT f (n / 128) r (by rw[Nat.div_lt_iff_lt_mul (by omega)];rw[Nat.pow_succ]at h;exact h);have hp:=kB (n / 128);show high (f+1) (UInt8.ofNat (n % 128+128) :: (ao (n / 128) ++ r))=_;unfold high;rw[e,if_pos (by omega),ih,List.length_cons];omega
theorem oX:∀n,bS (ao n)=n
 | n=>by
   by_cases h0:n < 128
   · rw[iz h0];have e:(UInt8.ofNat n).toNat=n:=UInt8.toNat_ofNat_of_lt' (show n < 256 by omega);simp only[bS,e];omega
   · rw[jJ h0];have e:(UInt8.ofNat (n % 128+128)).toNat=n % 128+128:=UInt8.toNat_ofNat_of_lt' (show n % 128+128 < 256 by omega);have ih:=oX (n / 128);simp only[bS,e,ih];omega
termination_by n=>n
decreasing_by omega
theorem rK:∀n,∃ (l:List UInt8) (b:UInt8),ao n=l ++ [b]/\b.toNat < 128/\(b.toNat=0->l= [])
 | n=>by
   by_cases h0:n < 128
   · have e:(UInt8.ofNat n).toNat=n:=UInt8.toNat_ofNat_of_lt' (show n < 256 by omega);exact⟨[],UInt8.ofNat n,by rw[iz h0];rfl,by omega,λ_=>rfl⟩
   · obtain⟨l,b,h1,h2,h3⟩:=rK (n / 128);refine⟨_ :: l,b,by rw[jJ h0,h1];rfl,h2,λhb=> ?_⟩;have hl:=h3 hb;subst hl;have hv:=oX (n / 128);rw[h1]at hv;simp[bS]at hv;omega
termination_by n=>n
decreasing_by omega
theorem Bs {n:Nat} (h:n < 2 ^ 62) (r:List UInt8):rdNum (ao n ++ r)=(0,n,(ao n).length):=by
 obtain⟨l,b,h1,h2,h3⟩:=rK n;have hh:=qT 8 n r (by omega);have hlen:(ao n).length=l.length+1:=by rw[h1];simp
 have hk:high 8 (ao n ++ r)=l.length:=by omega
 have h9:=bH h;have hv:=oX n;have h64:l.length=8->b.toNat < 64:=by
  intro h8;rcases Nat.lt_or_ge b.toNat 64 with hb|hb
  · exact hb
  · exfalso;have key:∀l:List UInt8,b.toNat % 128 * 128 ^ l.length<=bS (l ++ [b]):=by
     intro l
     induction l with
     | nil=>simp[bS]
     | cons c l ih=>have e:bS (c :: l ++ [b])=c.toNat % 128+128 * bS (l ++ [b]):=rfl;rw[e,List.length_cons,Nat.pow_succ,<-Nat.mul_assoc];omega
    have:=key l;rw[<-h1,hv,h8]at this;omega
 unfold rdNum;rw[hk,h1,List.append_assoc];have hget:(l ++ ([b] ++ r))[l.length]? =some b:=by simp
 rw[hget];simp only;rw[if_neg (by
  rintro(hb|⟨hb,hp⟩|⟨h8,hb⟩)
  · omega
  · rw[h3 hb]at hp;simp at hp
  · have:=h64 h8;omega)]
 have ht:(l ++ ([b] ++ r)).take (l.length+1)=l ++ [b]:=by rw[<-List.append_assoc,List.take_append_of_le_length (by simp),List.take_of_length_le (by simp)]
 rw[ht,<-h1,hv,hlen]
end Tide
namespace Tide
theorem lA:∀ (f j:Nat) (l:List UInt8),(∀c ∈ l.take j,128<=c.toNat)->j<=f->j<=l.length->(j=f\/j=l.length\/∃h:j < l.length,l[j].toNat < 128)->high f l=j
 | 0,j,l,_,hj,_,_=>by
   have:j=0:=by omega
   subst this;unfold high;cases l<;>rfl
 | f+1,j, [],_,_,hl,_=>by
   have:j=0:=by simpa using hl
   subst this;rfl
 | f+1,0,c :: l,_,_,_,h=>by
   unfold high;rw[if_neg];rcases h with h|h|⟨h,hc⟩
   · omega
   · simp at h
   · simpa using hc
 | f+1,j+1,c :: l,ha,hj,hl,h=>by
   have hc:128<=c.toNat:=ha c (by simp);unfold high;rw[if_pos hc];have:=lA f j l (λx hx=>ha x (by rw[List.take_succ_cons];exact List.mem_cons_of_mem _ hx)) (by omega) (by simpa using hl) (by
    rcases h with h|h|⟨h,hx⟩
    · exact .inl (by omega)
    · exact .inr (.inl (by simpa using h))
    · exact .inr (.inr ⟨by simpa using h,by simpa using hx⟩))
   omega
theorem tV:∀ (l m:List UInt8),bS (l ++ m)=bS l+128 ^ l.length * bS m
 | [],m=>by simp[bS]
 | c :: l,m=>by have:=tV l m;simp only[bS,List.cons_append,this,List.length_cons,Nat.pow_succ];rw[Nat.mul_add,<-Nat.mul_assoc,Nat.mul_comm 128 (128 ^ l.length)];omega
theorem Ex (l:List UInt8) (c:UInt8):bS (l ++ [c])=bS l+c.toNat % 128 * 128 ^ l.length:=by rw[tV,Nat.mul_comm];simp[bS]
theorem tX (l:List UInt8) (j:Nat) (h:j < l.length):bS (l.take (j+1))=bS (l.take j)+l[j].toNat % 128 * 128 ^ j:=by rw[List.take_succ_eq_append_getElem h,Ex,List.length_take,Nat.min_eq_left (by omega)]
theorem oY (l:List UInt8) (j:Nat):bS (l.take j) < 128 ^ j:=by have:=tW (l.take j);have h2:(128:Nat) ^ (l.take j).length<=128 ^ j:=Nat.pow_le_pow_right (by omega) (by simp;omega);omega
theorem Bp {l:List UInt8} {j:Nat} (ha:∀c ∈ l.take j,128<=c.toNat) (h:j < l.length) (h8:j<=8) (hc:l[j].toNat < 128):
 rdNum l=if(l[j].toNat=0/\0 < j)\/4611686018427387903 < bS (l.take (j+1)) then(4,0,0) else(0,bS (l.take (j+1)),j+1):=by
 have hh:=lA 8 j l ha h8 (by omega) (.inr (.inr ⟨h,hc⟩));unfold rdNum;rw[hh,List.getElem?_eq_getElem h];simp only;have hv:=tX l j h;have hl:=oY l j;have key:(4611686018427387903 < bS (l.take (j+1)))<->(j=8/\64<=l[j].toNat):=by
  have hm:l[j].toNat % 128=l[j].toNat:=Nat.mod_eq_of_lt hc;rw[hm]at hv;constructor
  · intro h1;by_cases h9:j=8
    · subst h9;refine⟨rfl,?_⟩;omega
    · exfalso;have h7:(128:Nat) ^ j<=128 ^ 7:=Nat.pow_le_pow_right (by omega) (by omega);have hx:l[j].toNat * 128 ^ j<=127 * 128 ^ 7:=Nat.mul_le_mul (by omega) h7;omega
  · rintro⟨rfl,h1⟩;omega
 by_cases hb:(l[j].toNat=0/\0 < j)\/4611686018427387903 < bS (l.take (j+1))
 · rw[if_pos hb,if_pos];rcases hb with hb|hb
   · exact .inr (.inl hb)
   · exact .inr (.inr (key.1 hb))
 · rw[if_neg hb,if_neg];rintro(h1|h1|h1)
   · omega
   · exact hb (.inl h1)
   · exact hb (.inr (key.2 h1))
theorem Bt {l:List UInt8} (ha:∀c ∈ l,128<=c.toNat) (h:l.length < 9):rdNum l=(2,0,0):=by have hh:=lA 8 l.length l (by rw[List.take_length];exact ha) (by omega) (Nat.le_refl _) (.inr (.inl rfl));unfold rdNum;rw[hh,List.getElem?_eq_none (Nat.le_refl _)]
theorem Br {l:List UInt8} (ha:∀c ∈ l.take 9,128<=c.toNat) (h:9<=l.length):rdNum l=(4,0,0):=by have hh:=lA 8 8 l (λc hc=>ha c (by rw[show(9:Nat)=8+1 from rfl,List.take_succ_eq_append_getElem (show 8 < l.length by omega)];exact List.mem_append_left _ hc)) (by omega) (by omega) (.inl rfl);have h8:128<=l[8].toNat:=ha _ (by rw[show(9:Nat)=8+1 from rfl,List.take_succ_eq_append_getElem (show 8 < l.length by omega)];exact List.mem_append_right _ (List.mem_singleton.2 rfl));unfold rdNum;rw[hh,List.getElem?_eq_getElem (show 8 < l.length by omega)];simp only;rw[if_pos (.inl h8)]
end Tide
namespace Tide
open Go
structure aE where
 place:Nat
 number:Nat
 iG:Nat
 aL:List (List UInt8)
structure aM where
 places:Nat
 ag:List aE
def fS (n:Nat):Nat:=1+(n+63) / 64
def ia (gs:List aE) (p:Int):Bool:=gs.any λg=>(g.place:Int) == p
def fo (gs:List aE) (P:Nat):Nat->Int
 | 0=> -1
 | k+1=>if ia gs ((P:Int) - 1 - k) then fo gs P k else(P:Int) - 1 - k
def eS (gs:List aE):Int:=match gs.getLast? with
 | none=> -1
 | some g=>(g.number:Int)
def takeD (s:aM):Option aM:=if fo s.ag s.places s.places < 0 then none else some { s with ag:=s.ag ++ [⟨(fo s.ag s.places s.places).toNat,(eS s.ag+1).toNat,0, []⟩] }
def fB (gs:List aE) (n:Nat):Bool:=match gs.getLast? with
 | none=>false
 | some g=>decide (g.iG+fS n<=63)
def aE.push (g:aE) (b:List UInt8):aE:= { g with iG:=g.iG+fS b.length,aL:=g.aL ++ [b] }
def gG (gs:List aE) (b:List UInt8):List aE:=match gs.getLast? with
 | none=>gs
 | some g=>gs.dropLast ++ [g.push b]
def cJ (s:aM) (b:List UInt8):aM × Int × Int:=
 if b.length < 1\/3968 < b.length then(s,0,4)
 else if fB s.ag b.length then({ s with ag:=gG s.ag b },eS s.ag,0)
 else match takeD s with
  | none=>(s,0,13)
  | some t=>({ t with ag:=gG t.ag b },eS t.ag,0)
def ln (gs:List aE) (n:Int):Option Nat:=gs.findIdx? λg=>(g.number:Int) == n
def oA (gs:List aE) (n:Int):List (List UInt8):=match gs.find? λg=>(g.number:Int) == n with
 | none=> []
 | some g=>g.aL
structure aM.Wf (s:aM):Prop where
 place:∀g ∈ s.ag,g.place < s.places
 apart:(s.ag.map aE.place).Nodup
 jU:(s.ag.map aE.number).Pairwise (· < ·)
 aL:∀g ∈ s.ag,g.iG=(g.aL.map λb=>fS b.length).sum/\g.iG<=63/\∀b ∈ g.aL,1<=b.length/\b.length<=3968
theorem sN (gs:List aE) (P:Nat):∀k,k<=P->fo gs P k= -1\/((P:Int) - k<=fo gs P k/\fo gs P k < P)
 | 0,_=> .inl rfl
 | k+1,h=>by
   unfold fo;split
   · rcases sN gs P k (by omega) with h1|h1
     · exact .inl h1
     · exact .inr ⟨by omega,h1.2⟩
   · exact .inr ⟨by omega,by omega⟩
theorem sL (gs:List aE) (P:Nat):∀k,k<=P->0<=fo gs P k->ia gs (fo gs P k)=false
 | 0,_,h=>by simp[fo]at h
 | k+1,hk,h=>by
   unfold fo at h ⊢;split
   · rename_i ht;rw[if_pos ht]at h;exact sL gs P k (by omega) h
   · rename_i ht;simpa using ht
theorem tF {gs:List aE} {p:Int} (h:ia gs p=false):∀g ∈ gs,(g.place:Int)≠p:=by intro g hg e;have:ia gs p=true:=List.any_eq_true.2 ⟨g,hg,by simpa using e⟩;rw[h]at this;cases this
theorem lJ (gs:List aE) (g:aE):eS (gs ++ [g])=(g.number:Int):=by simp[eS]
theorem yF (gs:List aE): -1<=eS gs:=by unfold eS;split<;>omega
theorem yG {gs:List aE} (h:(gs.map aE.number).Pairwise (· < ·)):∀g ∈ gs,(g.number:Int)<=eS gs:=by
 rcases List.eq_nil_or_concat gs with rfl|⟨l,x,hc⟩
 · intro g hg;cases hg
 · rw[List.concat_eq_append]at hc;subst hc;intro g hg;rw[lJ];rw[List.map_append,List.pairwise_append]at h;rcases List.mem_append.1 hg with hg|hg
   · have:=h.2.2 g.number (List.mem_map.2 ⟨g,hg,rfl⟩) x.number (by simp);omega
   · simp only[List.mem_singleton]at hg;subst hg;exact Int.le_refl _
theorem oQ {s t:aM} (h:s.Wf) (ht:takeD s=some t):t.Wf:=by
 unfold takeD at ht;split at ht
 · cases ht
 · rename_i h0;injection ht with ht;subst ht;have hlow:=sN s.ag s.places s.places (Nat.le_refl _);have hfree:=tF (sL s.ag s.places s.places (Nat.le_refl _) (by omega));have hmax:=yG h.jU;have hge:=yF s.ag;refine⟨?_,?_,?_,?_⟩
   · intro g hg;rcases List.mem_append.1 hg with hg|hg
     · exact h.place g hg
     · simp only[List.mem_singleton]at hg;subst hg;show(fo s.ag s.places s.places).toNat < s.places;omega
   · rw[List.map_append];refine List.nodup_append.2 ⟨h.apart,by simp,?_⟩;intro a ha b hb;simp only[List.map_cons,List.map_nil,List.mem_singleton]at hb;obtain⟨g,hg,rfl⟩:=List.mem_map.1 ha;have:=hfree g hg;omega
   · rw[List.map_append];refine List.pairwise_append.2 ⟨h.jU,by simp,?_⟩;intro a ha b hb;simp only[List.map_cons,List.map_nil,List.mem_singleton]at hb;obtain⟨g,hg,rfl⟩:=List.mem_map.1 ha;have:=hmax g hg;omega
   · intro g hg;rcases List.mem_append.1 hg with hg|hg
     · exact h.aL g hg
     · simp only[List.mem_singleton]at hg;subst hg;exact⟨rfl,Nat.zero_le _,λb hb=>by cases hb⟩
theorem iZ (l:List aE) (g:aE) (b:List UInt8):gG (l ++ [g]) b=l ++ [g.push b]:=by simp[gG]
theorem nt (l:List aE) (g:aE) (n:Nat):fB (l ++ [g]) n=decide (g.iG+fS n<=63):=by simp[fB]
theorem og {s:aM} (h:s.Wf) (b:List UInt8) (hb:1<=b.length/\b.length<=3968) (hf:fB s.ag b.length=true):({ s with ag:=gG s.ag b }:aM).Wf:=by
 obtain⟨P,gs⟩:=s;rcases List.eq_nil_or_concat gs with rfl|⟨l,x,hc⟩
 · cases hf
 rw[List.concat_eq_append]at hc;subst hc;simp only at hf ⊢;rw[nt]at hf;have hf:=of_decide_eq_true hf;rw[iZ];refine⟨?_,?_,?_,?_⟩
 · intro g hg;rcases List.mem_append.1 hg with hg|hg
   · exact h.place g (List.mem_append.2 (.inl hg))
   · simp only[List.mem_singleton]at hg;subst hg;exact h.place x (by simp)
 · have:=h.apart;simp only[List.map_append,List.map_cons,List.map_nil]at this ⊢;exact this
 · have:=h.jU;simp only[List.map_append,List.map_cons,List.map_nil]at this ⊢;exact this
 · intro g hg;rcases List.mem_append.1 hg with hg|hg
   · exact h.aL g (List.mem_append.2 (.inl hg))
   · simp only[List.mem_singleton]at hg;subst hg;obtain⟨h1,h2,h3⟩:=h.aL x (by simp);refine⟨?_,hf,λc hc=> ?_⟩
     · show x.iG+fS b.length=((x.aL ++ [b]).map _).sum;rw[List.map_append,List.sum_append,h1];simp
     · rcases List.mem_append.1 hc with hc|hc
       · exact h3 c hc
       · simp only[List.mem_singleton]at hc;subst hc;exact hb
theorem tB {s t:aM} (ht:takeD s=some t) (n:Nat) (hn:n<=3968):fB t.ag n=true:=by
 unfold takeD at ht;split at ht
 · cases ht
 · injection ht with ht;subst ht;rw[nt];unfold fS;exact decide_eq_true (by show 0+_<=63;omega)
theorem uV {s:aM} (h:s.Wf) (b:List UInt8):(cJ s b).1.Wf:=by
 unfold cJ;split
 · exact h
 · rename_i hb;split
   · rename_i hf;exact og h b (by omega) hf
   · split
     · exact h
     · rename_i t ht;exact og (oQ h ht) b (by omega) (tB ht _ (by omega))
end Tide
namespace Tide
open Go
structure av where
 store:aM
 rows:List bE
 trimmed:Nat
 aF:Nat
 top:Nat
def aV (r:aX):List UInt8:=
 if r.kind=1 then ao 1 ++ ao r.af ++ (ao r.aw.length ++ r.aw)
 else if r.kind=2 then ao 2 ++ ao r.af ++ ao r.ep
 else ao 3 ++ ao r.ep
def bV (aF:Nat) (ep a most:Int):Nat:=if ep < aF\/1073741824 < ep then 8 else if a < 0\/most < a then 1 else 0
def fC (u:av) (a:Int):Bool:=decide ((u.trimmed:Int)<=a) && u.rows.any λp=>(p.af:Int) == a
def bY (u:av) (r:aX):aM × Int × Int:=cJ u.store (aV r)
def cw (u:av) (ep a:Int) (b:List UInt8):av × Nat:=
 if bV u.aF ep a 4095≠0 then(u,bV u.aF ep a 4095)
 else if b.length < 1\/2048 < b.length then(u,3)
 else if a < u.trimmed then(u,11)
 else if fC u a then(u,9)
 else if(bY u ⟨1,a.toNat,0,b⟩).2.2≠0 then({ u with store:=(bY u ⟨1,a.toNat,0,b⟩).1 },(bY u ⟨1,a.toNat,0,b⟩).2.2.toNat)
 else({ u with store:=(bY u ⟨1,a.toNat,0,b⟩).1,rows:=u.rows ++ [⟨a.toNat,b,(bY u ⟨1,a.toNat,0,b⟩).2.1.toNat⟩],top:=max u.top (a.toNat+1) },0)
def fa (u:av) (ep a:Int):List UInt8 × Nat:=
 if bV u.aF ep a 4095≠0 then([],bV u.aF ep a 4095)
 else if a < u.trimmed then([],11)
 else match u.rows.find? λp=>(p.af:Int) == a with
  | none=>([],10)
  | some p=>(p.bs,0)
end Tide
namespace Tide
open Go
def fx (r:aX):Prop:=(r.kind=1/\r.af<=4095/\1<=r.aw.length/\r.aw.length<=2048)\/(r.kind=2/\r.af<=4096/\r.ep<=1073741824)\/(r.kind=3/\r.ep<=1073741824)
def cM (gs:List aE):List (List UInt8 × Nat):=gs.flatMap λg=>g.aL.map λb=>(b,g.number)
theorem oB (a b:List aE):cM (a ++ b)=cM a ++ cM b:=by unfold cM;rw[List.flatMap_append]
theorem BL (l:List aE) (g:aE) (b:List UInt8):cM (l ++ [g.push b])=cM (l ++ [g]) ++ [(b,g.number)]:=by rw[oB,oB];simp[cM,aE.push]
theorem so (l:List aE) (P N:Nat):cM (l ++ [⟨P,N,0, []⟩])=cM l:=by rw[oB];simp[cM]
theorem uU {m:aM} {b:List UInt8} (hr:(cJ m b).2.2=0):∃no:Nat,(cJ m b).2.1=(no:Int)/\cM (cJ m b).1.ag=cM m.ag ++ [(b,no)]/\∃l g,(cJ m b).1.ag=l ++ [g]/\g.number=no:=by
 unfold cJ at hr ⊢;split at hr
 · exact absurd hr (show ¬(4:Int)=0 by decide)
 · rename_i hb;rw[if_neg hb];have key:∀gs:List aE,gs≠ []->∃no:Nat,eS gs=(no:Int)/\cM (gG gs b)=cM gs ++ [(b,no)]/\∃l g,gG gs b=l ++ [g]/\g.number=no:=λgs hne=>by
    rcases List.eq_nil_or_concat gs with h0|⟨l,x,hc⟩
    · exact absurd h0 hne
    · rw[List.concat_eq_append]at hc;subst hc;exact⟨x.number,lJ l x,by rw[iZ,BL],l,x.push b,iZ l x b,rfl⟩
   split at hr
   · rename_i hf;rw[if_pos hf];exact key m.ag (by intro e;rw[e]at hf;cases hf)
   · rename_i hf;rw[if_neg hf];cases ht:takeD m with
     | none=>rw[ht]at hr;exact absurd hr (show ¬(13:Int)=0 by decide)
     | some t=>
       have hts:∃P N,t.ag=m.ag ++ [⟨P,N,0, []⟩]:=by
        unfold takeD at ht;split at ht
        · cases ht
        · injection ht with ht;exact⟨_,_,by rw[<-ht]⟩
       obtain⟨P,N,hts⟩:=hts;obtain⟨no,k1,k2,k3⟩:=key t.ag (by rw[hts];simp);refine⟨no,k1,?_,k3⟩;show cM (gG t.ag b)=_;rw[k2,hts,so]
theorem uS {m:aM} {b:List UInt8} (hr:(cJ m b).2.2≠0):(cJ m b).1=m:=by
 unfold cJ at hr ⊢;split
 · rfl
 · rename_i hb;rw[if_neg hb]at hr;split
   · rename_i hf;rw[if_pos hf]at hr;exact absurd rfl hr
   · rename_i hf;rw[if_neg hf]at hr;cases ht:takeD m with
     | none=>rfl
     | some t=>rw[ht]at hr;exact absurd rfl hr
structure Holds (u:av) (s:aT) (l:List (aX × Nat)):Prop where
 wf:u.store.Wf
 aL:cM u.store.ag=l.map λx=>(aV x.1,x.2)
 gQ:∀x ∈ l,fx x.1
 apart:((eX l).map bE.af).Nodup
 state:dc (dM l)=s
 trimmed:s.trimmed=u.trimmed
 aF:s.aF=u.aF
 aU:s.aU=u.rows.filter λp=>decide (u.trimmed<=p.af)
 once:(u.rows.map bE.af).Nodup
 low:∀p ∈ u.rows,p.af+1<=u.top
 top:u.top=0\/∃p ∈ u.rows,p.af+1=u.top
section
variable {u:av} {s:aT} {l:List (aX × Nat)}
theorem Holds.qI (h:Holds u s l) (a:Nat):de s a=fC u (a:Int):=by
 unfold de fC;rw[h.aU,List.any_filter];by_cases ha:u.trimmed<=a
 · have e:decide ((u.trimmed:Int)<=(a:Int))=true:=decide_eq_true (by omega);rw[e,Bool.true_and]
   congr 1
   funext p;by_cases hpa:p.af=a
   · rw[hpa,decide_eq_true ha,Bool.true_and,beq_self_eq_true,beq_self_eq_true]
   · rw[beq_eq_false_iff_ne.2 hpa,beq_eq_false_iff_ne.2 (show ¬(p.af:Int)=(a:Int) by omega),Bool.and_false]
 · have e:decide ((u.trimmed:Int)<=(a:Int))=false:=decide_eq_false (by omega);rw[e,Bool.false_and,List.any_eq_false];intro p _ hp;have hp2:(decide (u.trimmed<=p.af) && (p.af == a))=true:=hp;rw[Bool.and_eq_true,decide_eq_true_eq,beq_iff_eq]at hp2;omega
end
end Tide
namespace Tide
open Go
section
variable {u:av} {s:aT} {l:List (aX × Nat)}
theorem xz (s:aT):dc (dc s)=dc s:=by unfold dc;simp only[List.filter_filter,Bool.and_self]
theorem Holds.fixed (h:Holds u s l):dc s=s:=by rw[<-h.state,xz]
theorem Holds.told (h:Holds u s l):(dM l).trimmed=u.trimmed/\(dM l).aF=u.aF:=by have h1:=h.trimmed;have h2:=h.aF;rw[<-h.state]at h1 h2;exact⟨h1,h2⟩
theorem Holds.fresh (h:Holds u s l) {a:Nat} (hh:de s a=false) (ha:u.trimmed<=a):∀p ∈ eX l,p.af≠a:=λp hp he=>by
 have hpg:p ∈ s.aU:=by rw[<-h.state];unfold dc;simp only;rw[sy l h.apart,h.told.1];exact List.mem_filter.2 ⟨hp,by simp;omega⟩
 unfold de at hh;rw[List.any_eq_false]at hh;exact hh p hpg (by simp[he])
theorem AF (r:aX) (g:Nat) (hk:r.kind=1):eX [(r,g)]= [⟨r.af,r.aw,g⟩]:=by simp[eX,hk]
theorem Holds.write (h:Holds u s l) {a:Nat} {b:List UInt8} (hh:de s a=false) (ha:u.trimmed<=a) (ha2:a<=4095) (hb:1<=b.length/\b.length<=2048) (hok:(bY u ⟨1,a,0,b⟩).2.2=0):
 ∃no:Nat,(bY u ⟨1,a,0,b⟩).2.1=(no:Int)/\Holds { u with store:=(bY u ⟨1,a,0,b⟩).1,rows:=u.rows ++ [⟨a,b,no⟩],top:=max u.top (a+1) } (dR s ⟨1,a,0,b⟩ no) (l ++ [(⟨1,a,0,b⟩,no)]):=by
 obtain⟨no,h1,h2,_⟩:=uU hok;have hc:dR s ⟨1,a,0,b⟩ no= { s with aU:=s.aU ++ [⟨a,b,no⟩] }:=by unfold dR;rw[if_pos rfl,if_neg (by rw[show de s (⟨1,a,0,b⟩:aX).af=de s a from rfl,hh];decide)]
 have hra:∀p ∈ u.rows,p.af≠a:=λp hp he=>by
  have hp2:p ∈ s.aU:=by rw[h.aU];exact List.mem_filter.2 ⟨hp,by simp;omega⟩
  unfold de at hh;rw[List.any_eq_false]at hh;exact hh p hp2 (by simp[he])
 refine⟨no,h1,?_⟩;rw[hc]
 exact {
  wf:=uV h.wf _
  aL:=by show cM (cJ u.store _).1.ag=_;rw[h2,h.aL,List.map_append];rfl
  gQ:=λx hx=>by
   rcases List.mem_append.1 hx with hx|hx
   · exact h.gQ x hx
   · simp only[List.mem_singleton]at hx;subst hx;exact .inl ⟨rfl,ha2,hb.1,hb.2⟩
  apart:=by
   rw[n9,AF _ _ rfl,List.map_append,List.nodup_append];refine⟨h.apart,by simp,λx hx y hy=> ?_⟩;obtain⟨p,hp,rfl⟩:=List.mem_map.1 hx;have hya:y=a:=by simpa using hy
   rw[hya];exact h.fresh hh ha p hp
  state:=by
   rw[me];have hf:=xy (dM l) ⟨1,a,0,b⟩ no (λ_=>by rw[h.told.1];exact ha);simp only;rw[hf,h.state,hc];unfold dc;simp only
   congr 1
   rw[List.filter_append];have hfx:=congrArg aT.aU h.fixed;unfold dc at hfx;simp only at hfx;rw[hfx,h.trimmed];simp[ha]
  trimmed:=h.trimmed
  aF:=h.aF
  aU:=by simp only;rw[List.filter_append,<-h.aU];simp[ha]
  once:=by
   simp only;rw[List.map_append,List.nodup_append];refine⟨h.once,by simp,λx hx y hy=> ?_⟩;obtain⟨p,hp,rfl⟩:=List.mem_map.1 hx;have hya:y=a:=by simpa using hy
   rw[hya];exact hra p hp
  low:=λp hp=>by
   simp only at hp ⊢;rcases List.mem_append.1 hp with hp|hp
   · have:=h.low p hp;omega
   · simp only[List.mem_singleton]at hp;subst hp;simp only;omega
  top:=by
   simp only;by_cases ht:u.top<=a+1
   · exact .inr ⟨⟨a,b,no⟩,by simp,by simp only;omega⟩
   · rcases h.top with h3|⟨p,hp,h3⟩
     · omega
     · exact .inr ⟨p,by simp[hp],by omega⟩ }
end
theorem Holds.new (P:Nat):Holds ⟨⟨P, []⟩, [],0,0,0⟩ ⟨[],0,0⟩ [] where
 wf:=⟨λg hg=>(by cases hg),List.nodup_nil,List.Pairwise.nil,λg hg=>(by cases hg)⟩
 aL:=rfl
 gQ:=λx hx=>by cases hx
 apart:=List.nodup_nil
 state:=rfl
 trimmed:=rfl
 aF:=rfl
 aU:=rfl
 once:=List.nodup_nil
 low:=λp hp=>by cases hp
 top:= .inl rfl
end Tide
namespace Tide
open Go
end Tide
namespace Tide
open Go
end Tide
