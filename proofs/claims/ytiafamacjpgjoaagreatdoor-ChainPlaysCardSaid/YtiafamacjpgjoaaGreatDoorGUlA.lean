import Derived.Test.YtiafamacjpgjoaaGreatDoorGUiG
import Derived.Test.YtiafamacjpgjoaaGreatDoorGErr
import Derived.Test.YtiafamacjpgjoaaGreatDoorGStO
import Derived.Test.YtiafamacjpgjoaaGreatDoorGKeep
import Derived.Test.YtiafamacjpgjoaaGreatDoorGSgA
import Derived.Test.YtiafamacjpgjoaaGreatDoorGMem
import Derived.Lib.SlBytesConst
import Derived.Deep.RegionLaw
import Derived.WalkKit
import Derived.Deep.Matrix
namespace Go.Proofs.YtiafamacjpgjoaaGreatDoor
open Go Go.RowKit Go.Shelf Tide
section
variable {D:aB} {a:Nat->Addr} {w W:World}
end
end Go.Proofs.YtiafamacjpgjoaaGreatDoor
namespace Go.Proofs.YtiafamacjpgjoaaGreatDoor
open Go Go.RowKit Go.Shelf Tide
end Go.Proofs.YtiafamacjpgjoaaGreatDoor
namespace Go.Proofs.YtiafamacjpgjoaaGreatDoor
open Go Go.RowKit Go.Shelf Tide
section
variable {D:aB} {a:Nat->Addr} {w W:World}
end
end Go.Proofs.YtiafamacjpgjoaaGreatDoor
namespace Go.Proofs.YtiafamacjpgjoaaGreatDoor
open Go Go.RowKit Go.Shelf Tide
def findD (u:ah) (A:Int):Option bk:=u.rows.find? λp=>(p.af:Int) == A
section
variable {D:aB} {a:Nat->Addr} {w W W':World} {FX:Nat->Prop} {X:World->Prop} {g p bm dev n N M:Nat} {u:ah}
theorem UL.less {FX':Nat->Prop} {X':World->Prop} (h:UL D w FX X g p bm dev n N u W) (hF:∀k,FX' k->FX k) (hX:∀Y,X Y->X' Y):UL D w FX' X' g p bm dev n N u W:=by obtain⟨d,s,l,h1,h2⟩:=h;exact⟨d,s,l,h1.less hF hX,h2⟩
theorem UL.small (h:UL D w FX X g p bm dev n N u W) (hNl:N<=90000):u.ag<=1073741824/\u.trimmed<=4096/\u.top<=4096/\∀A q,findD u A=some q->¬A < u.trimmed->1<=q.bs.length/\q.bs.length<=2048:=by
 obtain⟨d,s,l,h1,h2,h3,h4,h5,h6,h7⟩:=h;have hok:=lg h5 h7 (by omega);have e1:=hok.ag;have e2:=hok.trimmed;rw[h5.ag]at e1;rw[h5.trimmed]at e2;have hin:∀q ∈ u.rows,u.trimmed<=q.af->q ∈ s.aD:=λq hq ht=>by rw[h5.aD];exact List.mem_filter.2 ⟨hq,by simpa using ht⟩
 refine⟨e1,e2,?_,λA q hq hA=> ?_⟩
 · rcases h5.top with h8|⟨q,hq,h8⟩
   · omega
   · by_cases ht:u.trimmed<=q.af
     · have:=hok.gF q (hin q hq ht);omega
     · omega
 · unfold findD at hq;have hm:=List.mem_of_find?_eq_some hq;have he:=List.find?_some hq;simp only[beq_iff_eq]at he;exact tj h5 q (hin q hm (by omega))
end
end Go.Proofs.YtiafamacjpgjoaaGreatDoor
namespace Go.Proofs.YtiafamacjpgjoaaGreatDoor
open Go.RowKit Tide
def bZ (us:Nat->ah) (n:Nat) (u:ah):Nat->ah:=λm=>if m=n then u else us m
theorem pY (us:Nat->ah) (n:Nat):bZ us n (us n)=us:=by
 funext m;unfold bZ;split
 · rename_i h;rw[h]
 · rfl
theorem pX (us:Nat->ah) (n:Nat) (u:ah):bZ us n u n=u:=by simp[bZ]
theorem iU (us:Nat->ah) {n m:Nat} (u:ah) (h:m≠n):bZ us n u m=us m:=by simp[bZ,h]
def aL (up:Nat->Bool) (n:Int):Bool:=decide (0<=n) && (decide (n < 6) && up n.toNat)
def bg (up:Nat->Bool) (ep at':Int) (b:List UInt8) (us:Nat->ah) (n:Int) (first:Bool):(Nat->ah) × Nat:=
 if aL up n=false then(us,12)
 else if(aT (us n.toNat) ep at' b).2≠9\/first=true then(bZ us n.toNat (aT (us n.toNat) ep at' b).1,(aT (us n.toNat) ep at' b).2)
 else(us,if(bt (us n.toNat) ep at').2=0/\(bt (us n.toNat) ep at').1≠b then 17 else(bt (us n.toNat) ep at').2)
def a8 (up:Nat->Bool) (ep at':Int) (b:List UInt8):(Nat->ah)->Nat->List Int->(Nat->ah) × Nat
 | us,_, []=>(us,0)
 | us,k,n :: l=>if(bg up ep at' b us n (k == 0)).2≠0 then bg up ep at' b us n (k == 0) else a8 up ep at' b (bg up ep at' b us n (k == 0)).1 (k+1) l
def kD (up:Nat->Bool) (ep at':Int) (us:Nat->ah) (c:List Int):(Nat->ah) × List UInt8 × Nat:=
 if aL up (c.getLastD 0)=false then(us, [],12)
 else if(bt (us (c.getLastD 0).toNat) ep at').2≠10\/c.length=1 then(us,bt (us (c.getLastD 0).toNat) ep at')
 else if aL up (c.headD 0)=false then(us, [],12)
 else if(bt (us (c.headD 0).toNat) ep at').2≠0 then(us, [],(bt (us (c.headD 0).toNat) ep at').2)
 else if(a8 up ep at' (bt (us (c.headD 0).toNat) ep at').1 us 1 (c.drop 1)).2≠0 then((a8 up ep at' (bt (us (c.headD 0).toNat) ep at').1 us 1 (c.drop 1)).1, [],(a8 up ep at' (bt (us (c.headD 0).toNat) ep at').1 us 1 (c.drop 1)).2)
 else((a8 up ep at' (bt (us (c.headD 0).toNat) ep at').1 us 1 (c.drop 1)).1,(bt (us (c.headD 0).toNat) ep at').1,0)
def dt (up:Nat->Bool) (ep at':Int) (us:Nat->ah) (c:List Int):(Nat->ah) × List UInt8 × Nat:=
 if(bg up ep at' [0] us (c.headD 0) true).2=9 then((bg up ep at' [0] us (c.headD 0) true).1,bt ((bg up ep at' [0] us (c.headD 0) true).1 (c.headD 0).toNat) ep at')
 else((bg up ep at' [0] us (c.headD 0) true).1, [0],(bg up ep at' [0] us (c.headD 0) true).2)
def kh (up:Nat->Bool) (ep at':Int) (us:Nat->ah) (c:List Int):(Nat->ah) × List UInt8 × Nat:=
 if(dt up ep at' us c).2.2≠0 then((dt up ep at' us c).1, [],(dt up ep at' us c).2.2)
 else if(a8 up ep at' (dt up ep at' us c).2.1 (dt up ep at' us c).1 1 (c.drop 1)).2≠0 then((a8 up ep at' (dt up ep at' us c).2.1 (dt up ep at' us c).1 1 (c.drop 1)).1, [],(a8 up ep at' (dt up ep at' us c).2.1 (dt up ep at' us c).1 1 (c.drop 1)).2)
 else((a8 up ep at' (dt up ep at' us c).2.1 (dt up ep at' us c).1 1 (c.drop 1)).1,(dt up ep at' us c).2.1,0)
def dU (up:Nat->Bool) (ep own:Int):(Nat->ah)->List Int->(Nat->ah) × Nat
 | us, []=>(us,0)
 | us,n :: l=>if aL up n=false then(us,12) else if(bS (us n.toNat) ep own).2≠0 then(bZ us n.toNat (bS (us n.toNat) ep own).1,(bS (us n.toNat) ep own).2) else dU up ep own (bZ us n.toNat (bS (us n.toNat) ep own).1) l
def db (n c to:Nat):Nat:=(to - c+n - 1) / n
def iz (up:Nat->Bool) (ep:Int) (n to:Nat):(Nat->ah)->Nat->List (List Int)->(Nat->ah) × Nat
 | us,_, []=>(us,0)
 | us,c,l :: cs=>if(dU up ep (db n c to) us l).2≠0 then dU up ep (db n c to) us l else iz up ep n to (dU up ep (db n c to) us l).1 (c+1) cs
def eh (up:Nat->Bool) (ep:Int) (cs:List (List Int)) (a:Int) (b:List UInt8) (us:Nat->ah):(Nat->ah) × Nat:=
 if bA ep cs a≠0 then(us,bA ep cs a) else a8 up ep (a / cs.length) b us 0 (bx cs a)
def eJ (up:Nat->Bool) (ep:Int) (cs:List (List Int)) (a k:Int) (b:List UInt8) (us:Nat->ah):(Nat->ah) × Nat:=
 if bA ep cs a≠0 then(us,bA ep cs a) else if k < 0\/(bx cs a).length<=k then(us,1) else bg up ep (a / cs.length) b us ((bx cs a).getD k.toNat 0) (k.toNat == 0)
theorem o8 {up:Nat->Bool} {ep at':Int} {b:List UInt8} {us:Nat->ah} {n:Int} {first:Bool} (h:aL up n=false):bg up ep at' b us n first=(us,12):=by unfold bg;rw[if_pos h]
theorem gC {up:Nat->Bool} {n:Int} (h:aL up n=true):0<=n/\n < 6/\up n.toNat=true:=by unfold aL at h;simp only[Bool.and_eq_true,decide_eq_true_eq]at h;exact h
end Go.Proofs.YtiafamacjpgjoaaGreatDoor
namespace Go.Proofs.YtiafamacjpgjoaaGreatDoor
open Go Go.RowKit Tide
section
variable {D:aB} {x a:Nat->Addr} {w W W':World} {FX FX' K:Nat->Prop} {X X':World->Prop} {g p bm dev n N:Nat} {us:List ai} {d:Dv} {s:aV} {u:ah} {G S:Nat->Prop} {q:Nat}
theorem US.swap (hD:ay x D) (h:US D w FX X g p bm dev us d s W) (hk:Kept K W W') (hK:∀k,K k->FX k/\w.heap.size<=k) (hF:∀k,FX' k->FX k\/W.heap.size<=k) (hl:∀k,FX' k->k < W'.heap.size) (hX:X' W'):US D w FX' X' g p bm dev us d s W':=by
 obtain⟨Fd,Fs,vs,h1,h2,h3,h4,h5,h6,h7,h8,h9⟩:=h;have hn:∀k,(Fd k\/Fs k\/k=g\/k=bm)->¬K k:=λk hk e=>(h6 k hk).1 (hK k e).1;refine⟨Fd,Fs,vs,hD.aj _ _ _ _ _ _ h1 hk (λk hf=>hn k (.inl hf)),h2.aj hk (λk hf=>hn k (.inr (.inl hf))),h3.kept hk (hn g (.inr (.inr (.inl rfl)))) (hn bm (.inr (.inr (.inr rfl)))),h4,h5,λk hk'=>⟨λhf=> ?_,(h6 k hk').2.1,Nat.lt_of_lt_of_le (h6 k hk').2.2 hk.size⟩,hl,h8.trans (hk.below h8.size (λi hi=>(hK i hi).2)),hX⟩;rcases hF k hf with h|h
 · exact(h6 k hk').1 h
 · have:=(h6 k hk').2.2;omega
theorem UL.swap (hD:ay x D) (h:UL D w FX X g p bm dev n N u W) (hk:Kept K W W') (hK:∀k,K k->FX k/\w.heap.size<=k) (hF:∀k,FX' k->FX k\/W.heap.size<=k) (hl:∀k,FX' k->k < W'.heap.size) (hX:X' W'):UL D w FX' X' g p bm dev n N u W':=by obtain⟨d,s,l,h1,h2⟩:=h;exact⟨d,s,l,h1.swap hD hk hK hF hl hX,h2⟩
end
end Go.Proofs.YtiafamacjpgjoaaGreatDoor
namespace Go.Proofs.YtiafamacjpgjoaaGreatDoor
open Go Go.RowKit Tide
structure dp (u:ah):Prop where
 small:Small u.store
 uy:∀b,Small (aZ u.store b).1
 rows:u.rows.length<=5000
 bytes:∀r ∈ u.rows,u.trimmed<=r.af->r.bs.length<=2048
 ag:u.ag<=1073741824
 uQ:∀n:Nat,n<=4096->u.trimmed < n->(aA u ⟨2,n,u.ag, []⟩).2.2=0->dj u.rows n (aA u ⟨2,n,u.ag, []⟩).1.ae.length (aA u ⟨2,n,u.ag, []⟩).1=dA (fx u.rows n (aA u ⟨2,n,u.ag, []⟩).2.1.toNat) (aA u ⟨2,n,u.ag, []⟩).1
theorem sI (gs:List aF) (b:List UInt8):cS (fZ gs b)=cS gs:=by
 rcases List.eq_nil_or_concat gs with rfl|⟨l,x,hc⟩
 · rfl
 · rw[List.concat_eq_append]at hc;subst hc;rw[iv,iK,iK];rfl
theorem zG {s:aC} {b:List UInt8} (h:(aZ s b).2.2=0):(aZ s b).2.1=cS (aZ s b).1.ae:=by
 unfold aZ at h ⊢;split
 · rename_i h1;rw[if_pos h1]at h;exact absurd (show(4:Int)=0 from h) (by decide)
 · rename_i h1;rw[if_neg h1]at h;split
   · simp only[sI]
   · rename_i h2;rw[if_neg h2]at h;cases ht:de s with
     | none=>rw[ht]at h;exact absurd (show(13:Int)=0 from h) (by decide)
     | some t=>simp only[sI]
theorem vX (s:aC) (b:List UInt8):(aZ s b).1.places=s.places:=by
 unfold aZ;split
 · rfl
 · split
   · rfl
   · cases ht:de s with
     | none=>rfl
     | some t=>
       unfold de at ht;split at ht
       · cases ht
       · injection ht with ht;subst ht;rfl
theorem Cr {gs:List aF} {b:List UInt8} {n:Nat} (h:(b,n) ∈ bW gs):∃g ∈ gs,g.number=n:=by unfold bW at h;obtain⟨g,hg,hx⟩:=List.mem_flatMap.1 h;obtain⟨c,_,e⟩:=List.mem_map.1 hx;injection e with _ e;exact⟨g,hg,e⟩
theorem yW {u:ah} {s:aV} {l:List (bh × Nat)} (h:Holds u s l):∀p ∈ u.rows,u.trimmed<=p.af->∃b,(b,p.aQ) ∈ bW u.store.ae:=λp hp ht=>by
 have h1:p ∈ s.aD:=by rw[h.aD];exact List.mem_filter.2 ⟨hp,by simpa using ht⟩
 rw[<-h.state]at h1;unfold cE at h1;have h2:=(List.mem_filter.1 h1).1;rw[kE l h.apart]at h2;unfold cJ at h2;obtain⟨x,hx,he⟩:=List.mem_filterMap.1 h2;by_cases hk:x.1.kind=1
 · rw[if_pos hk]at he;injection he with he;subst he;exact⟨ax x.1,by rw[h.aE];exact List.mem_map.2 ⟨x,hx,rfl⟩⟩
 · rw[if_neg hk]at he;cases he
theorem AH {u:ah} {s:aV} {l:List (bh × Nat)} {N:Nat} (h:Holds u s l) (hN:cY N u.store) (hNl:N<=90000) (hp:u.store.places<=900) (he:u.ag<=1073741824) (ht:u.top<=4096)
 (hb:∀A q,findD u A=some q->¬A < u.trimmed->1<=q.bs.length/\q.bs.length<=2048):dp u where
 small:=uz h.wf hp hN (by omega)
 uy:=λb=>uz (kV h.wf b) (by rw[vX];exact hp) (jC hN) (by omega)
 rows:=by have:=sL h.once (λq hq=>by have:=h.low q hq;omega);omega
 bytes:=λr hr ht=>by
  have h1:∃q,findD u (r.af:Int)=some q:=by
   unfold findD;cases hf:u.rows.find? λp=>(p.af:Int) == (r.af:Int) with
   | none=>exact absurd (List.find?_eq_none.1 hf r hr) (by simp)
   | some q=>exact⟨q,rfl⟩
  obtain⟨q,hq⟩:=h1;have h2:=(hb _ q hq (by omega)).2;unfold findD at hq;have hm:=List.mem_of_find?_eq_some hq;have hA:=List.find?_some hq;simp only[beq_iff_eq]at hA;have:q=r:=oG h.once hm hr (by omega);rw[<-this];exact h2
 ag:=he
 uQ:=λn hn htn hr=>by
  have hw:(aZ u.store (ax ⟨2,n,u.ag, []⟩)).1.Wf:=kV h.wf _;refine Eg _ _ _ _ _ (Nat.le_refl _) hw.ga (λg hg=> ?_) (λp hp' hto=> ?_)
  · have h1:(aA u ⟨2,n,u.ag, []⟩).2.1=cS (aA u ⟨2,n,u.ag, []⟩).1.ae:=zG hr;rw[h1];unfold cS;rw[hg];simp
  · obtain⟨b,hb2⟩:=yW h p hp' (by omega);obtain⟨no,_,h2,_⟩:=jY (m:=u.store) (b:=ax ⟨2,n,u.ag, []⟩) hr;exact Cr (b:=b) (by show(b,p.aQ) ∈ bW (aZ u.store (ax ⟨2,n,u.ag, []⟩)).1.ae;rw[h2];exact List.mem_append_left _ hb2)
theorem UL.my {D:aB} {w W:World} {FX:Nat->Prop} {X:World->Prop} {g p bm dev n N:Nat} {u:ah} (h:UL D w FX X g p bm dev n N u W) (hn:n<=1000) (hNl:N<=90000):dp u:=by have hs:=h.small hNl;obtain⟨d,s,l,h1,h2,h3,h4,h5,h6,h7⟩:=h;exact AH h5 h7 hNl (by have:=h4.places;omega) hs.1 hs.2.2.1 hs.2.2.2
end Go.Proofs.YtiafamacjpgjoaaGreatDoor
