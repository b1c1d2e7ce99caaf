import Derived.Test.YtdilnodbfnlhdaaGreatDoorGKeep
import Derived.Test.YtdilnodbfnlhdaaGreatDoorGMem
import Derived.Laws.BitsAllLaws
import Derived.Laws.BitsLemmas
import Derived.Laws.NewBlocks
namespace Tide
open Go
theorem ug (n:Int) (h₀:0<=n) (h₁:n < 2 ^ 63):IntKind.i64.wrap n=n:=by rw[IntKind.wrap_i64];omega
theorem lB (a b:Nat) (ha:a < 2 ^ 63) (hb:b < 2 ^ 63):bits .or .i64 (a:Int) (b:Int)=((a ||| b:Nat):Int):=(bits_nat .i64 63 (by decide) ug a b ha hb).2
theorem xX (a b:Nat) (ha:a < 2 ^ 63) (hb:b < 2 ^ 63):bits .and .i64 (a:Int) (b:Int)=((a &&& b:Nat):Int):=(bits_nat .i64 63 (by decide) ug a b ha hb).1
theorem xY (n:Nat) (h:n < 2 ^ 62):bits .and .i64 (n:Int) 127=(n % 128:Nat):=by have:=xX n 127 (by omega) (by omega);rw[nat_mask7]at this;exact this
theorem xZ (n:Nat) (h:n < 128):bits .or .i64 (n:Int) 128=(n+128:Nat):=by have:=lB n 128 (by omega) (by omega);rw[Nat.or_comm,nat_join 7 128 n (by decide) (by omega),Nat.add_comm]at this;exact this
theorem Ec (c:UInt8):bits .and .u8 (c.toNat:Int) 127=(c.toNat % 128:Nat):=by have:=u8_and_nat c.toNat 127 c.toNat_lt (by omega);rw[nat_mask7]at this;exact this
theorem Eb (c:UInt8):bits .and .u8 (c.toNat:Int) 128=(c.toNat / 128 * 128:Nat):=by
 have:=u8_and_nat c.toNat 128 c.toNat_lt (by omega);rw[show(128:Nat)=2 ^ 7 from rfl,nat_bit]at this;have hc:=c.toNat_lt;rw[show(128:Int)=((2 ^ 7:Nat):Int) from rfl,this];have:c.toNat / 2 ^ 7 % 2=c.toNat / 128:=by omega
 rw[this]
theorem x5 (n d k:Nat) (hd:d < 128) (hk:k<=8) (hn:n < 128 ^ k):bits .or .i64 (n:Int) ((d * 128 ^ k:Nat):Int)=(n+d * 128 ^ k:Nat):=by
 have h8:128 ^ k<=128 ^ 8:=Nat.pow_le_pow_right (by omega) hk;have hm:d * 128 ^ k<=127 * 128 ^ 8:=Nat.mul_le_mul (by omega) h8;rw[lB n (d * 128 ^ k) (by omega) (by omega),Nat.or_comm];have e:128 ^ k=2 ^ (7 * k):=by rw[show(128:Nat)=2 ^ 7 from rfl,<-Nat.pow_mul]
 rw[e,nat_join (7 * k) (d * 2 ^ (7 * k)) n (Nat.mul_mod_left _ _) (by rw[<-e];exact hn),Nat.add_comm]
end Tide
namespace Tide
open Go Go.RowKit
def aH (W:World) (g:Nat) (t:TypeId) (x y:Value):Prop:=W.heap[g]? =some (.cells #[x,y] t)
section
variable {W W':World} {B g:Nat} {t:TypeId} {x y:Value}
theorem aH.new (w:World) (t:TypeId) (x y:Value):aH (w.alloc (.cells #[x,y] t)) w.heap.size t x y:=heap_alloc_new w _
theorem aH.lt (h:aH W g t x y):g < W.heap.size:=by
 rcases Nat.lt_or_ge g W.heap.size with hlt|hge
 · exact hlt
 · rw[aH,Array.getElem?_eq_none hge]at h;cases h
theorem aH.below (h:aH W g t x y) (hb:Below B W W') (hB:g < B):aH W' g t x y:=(hb.block g hB).trans h
theorem aH.kept {F:Nat->Prop} (h:aH W g t x y) (hb:Kept F W W') (hF:¬F g):aH W' g t x y:=hb.heap h hF
theorem aH.alloc (h:aH W g t x y) (o:Obj):aH (W.alloc o) g t x y:=h.below ((Below.refl _ _).alloc (Nat.le_refl _) o) h.lt
theorem aH.frozen (h:aH W g t x y) (i:Nat):W.frozen? ⟨g,i,none⟩=false:=by unfold World.frozen?;rw[show W.heap[(⟨g,i,none⟩:Addr).block]? =_ from h];simp
theorem aH.facts (h:aH W g t x y):g < W.heap.size/\W.cell? ⟨g,0,none⟩=some x/\W.cell? ⟨g,1,none⟩=some y/\∀i,W.frozen? ⟨g,i,none⟩=false:=
 ⟨h.lt,by rw[cell_of_row _ _ 0 _ _ _ h];rfl,by rw[cell_of_row _ _ 1 _ _ _ h];rfl,h.frozen⟩
theorem aH.jX (h:aH W g t x y) (v:Value):aH (W.setCell ⟨g,0,none⟩ v) g t v y:=by obtain⟨hlt,hk⟩:=Array.getElem?_eq_some_iff.1 h;show(W.heap.modify g _)[g]? =_;rw[Array.getElem?_eq_getElem (by rw[Array.size_modify];exact hlt),Array.getElem_modify_self,hk];rfl
theorem aH.jY (h:aH W g t x y) (v:Value):aH (W.setCell ⟨g,1,none⟩ v) g t x v:=by obtain⟨hlt,hk⟩:=Array.getElem?_eq_some_iff.1 h;show(W.heap.modify g _)[g]? =_;rw[Array.getElem?_eq_getElem (by rw[Array.size_modify];exact hlt),Array.getElem_modify_self,hk];rfl
theorem aH.other (h:aH W g t x y) {g':Nat} (hne:g≠g') (i:Nat) (v:Value):aH (W.setCell ⟨g',i,none⟩ v) g t x y:=
 (Below.heap_setCell W _ _ g (λe=>hne (by rw[e]))).trans h
end
def dQ (w:World) (f:Nat->Prop) (v:Value) (l:List UInt8):Prop:=
 l.length<=9223372036854775807/\∃A c,v= .slice A l.length c/\l.length<=c/\c<=9223372036854775807/\
   (l≠ []->∃b o,A=some ⟨b,o,none⟩/\f b/\∀j (h:j < l.length),w.cell? ⟨b,o+j,none⟩=some (.int .u8 (l[j].toNat:Int)))
section
variable {w w':World} {f:Nat->Prop} {v:Value} {l:List UInt8} {B:Nat}
theorem dQ.bytes (h:dQ w f v l) (hf:∀k,f k->k < B):Bytes w B v l:=by
 obtain⟨hn,A,c,rfl,h1,h2,hc⟩:=h;refine⟨by rw[aR];exact hn,A,c,by rw[aR],by rw[aR];exact h1,h2,λhx=> ?_⟩;obtain⟨b,o,e,hb,hcell⟩:=hc (by intro e;subst e;exact hx rfl);refine⟨b,o,e,hf _ hb,λj u hu=> ?_⟩;have hj:j < l.length:=by
  have:=(List.getElem?_eq_some_iff.1 hu).1
  rwa[aR]at this
 rw[ib l j hj]at hu;rw[hcell j hj,hu]
theorem dQ.kept {G:Nat->Prop} (h:dQ w f v l) (hk:Kept G w w') (hf:∀k,f k->¬G k/\k < w.heap.size):dQ w' f v l:=by obtain⟨hn,A,c,rfl,h1,h2,hc⟩:=h;refine⟨hn,A,c,rfl,h1,h2,λhx=> ?_⟩;obtain⟨b,o,e,hb,hcell⟩:=hc hx;exact⟨b,o,e,hb,λj hj=>(hk.cell (p:=⟨b,o+j,none⟩) (hf b hb).2 (hf b hb).1).trans (hcell j hj)⟩
theorem dQ.dm {base:Nat} {e:TypeId} (h:w.ownsRow base e 1 v l.length (aj l)) (hf:∀k,base<=k->k < w.heap.size->f k):dQ w f v l:=by
 have hlt:=h.lt;have h':=h;rcases h.2 with⟨rfl,h0⟩|⟨g,cap,cur,rfl,_,_,h1,h2,_⟩
 · have:l= []:=List.eq_nil_of_length_eq_zero h0;subst this;exact⟨by simp,none,0,by simp,by simp,by simp,λe=>absurd rfl e⟩
 · unfold maxLen at h2;have hg:=hlt g rfl;refine⟨by omega,some ⟨g,0,none⟩,cap,rfl,h1,h2,λ_=>⟨g,0,rfl,hf g hg.1 hg.2,λj hj=> ?_⟩⟩;rw[Nat.zero_add,h'.cellAt j (by omega),ib l j hj]
theorem dQ.drop {b o n c:Nat} (h:dQ w f (.slice (some ⟨b,o,none⟩) n c) l) {lo m c':Nat} {l':List UInt8} (hlo:lo<=l.length) (hl:l'=l.drop lo) (hm:m=l.length - lo) (h1:m<=c') (h2:c'<=9223372036854775807):
 dQ w f (.slice (some ⟨b,o+lo,none⟩) m c') l':=by
 subst hl hm;obtain⟨hn,A,c0,he,_,_,hc⟩:=h;injection he with he _ _;refine⟨by rw[List.length_drop];omega,_,_,by rw[List.length_drop],by rw[List.length_drop];exact h1,h2,λhx=> ?_⟩;have hne:l≠ []:=by intro e;subst e;simp at hx
 obtain⟨b',o',e,hb,hcell⟩:=hc hne;subst he;obtain⟨rfl,rfl⟩:b=b'/\o=o':=by injection e with e;injection e with e1 e2;exact⟨e1,e2⟩
 refine⟨b,o+lo,rfl,hb,λj hj=> ?_⟩;rw[List.length_drop]at hj;rw[Nat.add_assoc,hcell (lo+j) (by omega),List.getElem_drop]
end
end Tide
namespace Tide
open Go Go.RowKit
def fw (w0:World) (g:Nat) (t:TypeId) (ds:List UInt8) (wr:World):Prop:=
 ∃cur:Array Value,wr.heap[g]? =some (.cells cur t (0,0))/\cur.size=9/\cur.toList.take ds.length=aj ds/\(∀j,j < 9->∃z,cur[j]? =some (.int .u8 z))/\Below w0.heap.size w0 wr
section
variable {w0 wr:World} {g:Nat} {t:TypeId} {ds:List UInt8}
theorem fw.start (W:World) (t:TypeId):fw W W.heap.size t [] (W.alloc (.cells #[.int .u8 0,.int .u8 0,.int .u8 0,.int .u8 0,.int .u8 0,.int .u8 0,.int .u8 0,.int .u8 0,.int .u8 0] t)):=
 ⟨_,heap_alloc_new W _,rfl,rfl,λj hj=>⟨0,by
   rcases j with _|_|_|_|_|_|_|_|_|j
   all_goals first|rfl|omega⟩,(Below.refl _ _).alloc (Nat.le_refl _) _⟩
theorem fw.facts (h:fw w0 g t ds wr) (k:Nat) (hk:k < 9):(∃z,wr.cell? ⟨g,k,none⟩=some (.int .u8 z))/\wr.frozen? ⟨g,k,none⟩=false:=by obtain⟨cur,h1,_,_,h4,_⟩:=h;obtain⟨z,hz⟩:=h4 k hk;refine⟨⟨z,by rw[cell_of_row _ _ k _ _ _ h1,hz]⟩,?_⟩;unfold World.frozen?;rw[show wr.heap[(⟨g,k,none⟩:Addr).block]? =_ from h1];simp
theorem fw.below (h:fw w0 g t ds wr):Below w0.heap.size w0 wr:=by obtain⟨_,_,_,_,_,h5⟩:=h;exact h5
theorem fw.put (h:fw w0 g t ds wr) (hg:w0.heap.size<=g) (c:UInt8) (k:Nat) (hk:k=ds.length) (h9:k < 9) (n:Int) (hn:n=(c.toNat:Int)):fw w0 g t (ds ++ [c]) (wr.setCell ⟨g,k,none⟩ (.int .u8 n)):=by
 subst hk hn;obtain⟨cur,h1,h2,h3,h4,h5⟩:=h;refine⟨cur.setIfInBounds ds.length (.int .u8 c.toNat),heap_setCell_same wr g ds.length cur t _ h1,by simp[h2],?_,λj hj=> ?_,h5.setCell (p:=⟨g,ds.length,none⟩) hg _⟩
 · rw[Array.toList_setIfInBounds,List.length_append,List.length_singleton,oR];have hl:ds.length < cur.toList.length:=by
    have:cur.toList.length=9:=by rw[<-h2];exact Array.length_toList
    omega
   rw[List.take_succ_eq_append_getElem (by rw[List.length_set];exact hl),List.getElem_set_self,List.take_set_of_le (Nat.le_refl _),h3];rfl
 · by_cases hj2:j=ds.length
   · subst hj2;exact⟨_,by rw[Array.getElem?_setIfInBounds_self_of_lt (by omega)]⟩
   · obtain⟨z,hz⟩:=h4 j hj;exact⟨z,by rw[Array.getElem?_setIfInBounds_ne (λe=>hj2 e.symm)];exact hz⟩
theorem fw.row (h:fw w0 g t ds wr) (hd:ds.length<=9) (B:Nat) (hB:g < B) (n:Nat) (hn:n=ds.length):Bytes wr B (.slice (some ⟨g,0,none⟩) n 9) ds:=by
 subst hn;obtain⟨cur,h1,h2,h3,_,_⟩:=h;refine⟨by rw[aR];omega,some ⟨g,0,none⟩,9,by rw[aR],by rw[aR];exact hd,by omega,λ_=>⟨g,0,rfl,hB,λj u hu=> ?_⟩⟩;rw[Nat.zero_add,cell_of_row _ _ j _ _ _ h1];have hj:j < ds.length:=by
  have:=(List.getElem?_eq_some_iff.1 hu).1
  rwa[aR]at this
 rw[<-h3,List.getElem?_take_of_lt hj]at hu;rw[<-hu,Array.getElem?_toList]
end
theorem vN (n:Nat):(n:Int) % 128+128=((UInt8.ofNat (n % 128+128)).toNat:Int):=by rw[UInt8.toNat_ofNat_of_lt' (show n % 128+128 < 256 by omega)];omega
end Tide
