import Derived.Test.YtiafamacjpgjoaaGreatDoorGPackIm
import Derived.Test.YtiafamacjpgjoaaGreatDoorGPackIn
import Derived.Test.YtiafamacjpgjoaaGreatDoorGPackN
set_option maxRecDepth 100000
set_option maxHeartbeats 2000000
namespace Go.Proofs.YtiafamacjpgjoaaGreatDoor
open Go.RowKit Tide
def eM (a:Nat->Addr) (W:World) (F:Nat->Prop) (B p:Nat) (l:List UInt8) (q:Nat) (cs:Array Value) (w:World):Prop:=
 ∃F1,eL a w F1 B p l 0/\(∀k,F1 k->F k\/W.heap.size<=k)/\Kept F W w/\w.heap[q]? =some (.cells cs 115 (0,0))/\¬F1 q/\W.heap.size<=q
section
variable {a:Nat->Addr} {W w w':World} {F:Nat->Prop} {B p q n:Nat} {l l':List UInt8} {cs:Array Value}
theorem PR.box (h:PR a W F B p l w) (cs:Array Value):eM a W F B p l w.heap.size cs (w.alloc (.cells cs 115)):=by obtain⟨F1,hO,hF1,hK⟩:=h;exact⟨F1,lh hO ((Kept.refl (λ_=>False) w).alloc _) (λ_ _ h=>h),hF1,hK.alloc _,heap_alloc_new w _,λhf=>by have:=((zd hO).2 _ hf).2;omega,hK.size⟩
theorem eM.pr (h:eM a W F B p l q cs w):PR a W F B p l w:=by obtain⟨F1,h1,h2,h3,_⟩:=h;exact⟨F1,h1,h2,h3⟩
theorem eM.cells (h:eM a W F B p l q cs w):w.heap[q]? =some (.cells cs 115 (0,0)):=by obtain⟨F1,h1,h2,h3,h4,_⟩:=h;exact h4
theorem eM.num (h:eM a W F B p (aq n ++ l) q cs w) (hE:av W a) (hA:dh a F) (hn:n < 2 ^ 62) {most:Int} (hm:(n:Int)<=most) (hl:(aq n ++ l).length<=100000):
 Calls Tryz.prog 121 #[.pointer (some ⟨p,0,none⟩),.int .i64 most] w λe w'=>e= .returned (.int .i64 (n:Nat))/\eM a W F B p l q cs w':=by
 have hE':=h.pr.eR hE hA;obtain⟨F1,hO,hF1,hK,hc4,hq,hs⟩:=h;have hc:=oq a w F1 B p _ 0 most hO hl hE';unfold jT at hc;rw[gK hn l most hm]at hc;have hqw:q < w.heap.size:=(Array.getElem?_eq_some_iff.1 hc4).1;refine hc.mono ?_;rintro e w2 ⟨v,F2,he,hv,hO2,hF2,hK2⟩;exact⟨by rw[he,hv],F2,hO2,λk hk=>(hF2 k hk).elim (hF1 k) (λh=> .inr (Nat.le_trans hK.size h)),hK.trans hK2 hF1,hK2.heap hc4 hq,λhf=>(hF2 q hf).elim hq (λh=>by omega),hs⟩
theorem eM.text {s:ByteArray} (h:eM a W F B p (eB s ++ l) q cs w) (hE:av W a) (hA:dh a F) {most:Int} (hm:(s.size:Int)<=most) (hl:(eB s ++ l).length<=100000) (hs:s.size<=100000):
 Calls Tryz.prog 122 #[.pointer (some ⟨p,0,none⟩),.int .i64 most] w λe w'=>e= .returned (.string s)/\eM a W F B p l q cs w':=by
 have hE':=h.pr.eR hE hA;obtain⟨F1,hO,hF1,hK,hc4,hq,hsz⟩:=h;have hc:=zA a w F1 B p _ 0 most hO hl hE';rw[ze hs hm l]at hc;have hqw:q < w.heap.size:=(Array.getElem?_eq_some_iff.1 hc4).1;refine hc.mono ?_;rintro e w2 ⟨v,F2,he,hv,hO2,hF2,hK2⟩;exact⟨by rw[he,hv],F2,hO2,λk hk=>(hF2 k hk).elim (hF1 k) (λh=> .inr (Nat.le_trans hK.size h)),hK.trans hK2 hF1,hK2.heap hc4 hq,λhf=>(hF2 q hf).elim hq (λh=>by omega),hsz⟩
theorem eM.set (h:eM a W F B p l q cs w) (i:Nat) (v:Value):eM a W F B p l q (cs.setIfInBounds i v) (w.setCell ⟨q,i,none⟩ v):=by obtain⟨F1,hO,hF1,hK,hc4,hq,hs⟩:=h;obtain⟨hlt,hk⟩:=Array.getElem?_eq_some_iff.1 hc4;refine⟨F1,lh hO ((Kept.refl (λk=>k=q) w).setCell (p:=⟨q,i,none⟩) (.inl rfl) v) (λk hf e=>hq (by rw[<-show k=q from e];exact hf)),hF1,hK.setCell (p:=⟨q,i,none⟩) (.inr hs) v,?_,hq,hs⟩;show(w.heap.modify q _)[q]? =_;rw[Array.getElem?_eq_getElem (by rw[Array.size_modify];exact hlt),Array.getElem_modify_self,hk];simp
theorem eM.nQ (h:eM a W F B p [] q cs w) (hE:av W a) (hA:dh a F):
 Calls Tryz.prog 123 #[.pointer (some ⟨p,0,none⟩)] w λe w'=>e= .returned .nilIface/\eM a W F B p [] q cs w':=by
 have hE':=h.pr.eR hE hA;obtain⟨F1,hO,hF1,hK,hc4,hq,hs⟩:=h;have hqw:q < w.heap.size:=(Array.getElem?_eq_some_iff.1 hc4).1;refine(y9 a w F1 B p _ 0 hO hE').mono ?_;rintro e w2 ⟨⟨x,he,hx⟩,hb⟩;have hx0:x= .nilIface:=by
  rcases hx with⟨_,h⟩|⟨m,_,h,_⟩
  · exact h
  · exact absurd h (by unfold ji;simp)
 exact⟨by rw[he,hx0],F1,lh hO (Kept.an (F:=λ_=>False) hb) (λ_ _ h=>h),hF1,hK.trans (Kept.an (F:=λ_=>False) hb) (λ_ h=>h.elim),(Kept.an (F:=λ_=>False) hb).heap hc4 (λh=>h),hq,hs⟩
end
theorem fg {W1:World} {b:Nat} {cs:Array Value} (h:W1.heap[b]? =some (.cells cs 115 (0,0))) (i:Nat):W1.frozen? ⟨b,i,none⟩=false:=by unfold World.frozen?;rw[show W1.heap[(⟨b,i,none⟩:Addr).block]? =_ from h];simp
end Go.Proofs.YtiafamacjpgjoaaGreatDoor
namespace Go.Proofs.YtiafamacjpgjoaaGreatDoor
open Go.RowKit Tide
abbrev tD (W:World) (g:Nat) (x0 x1 x2 x3:Value):World:=(((W.setCell ⟨g,0,none⟩ x0).setCell ⟨g,1,none⟩ x1).setCell ⟨g,2,none⟩ x2).setCell ⟨g,3,none⟩ x3
theorem jP {W:World} {g:Nat} {t:TypeId} {cs:Array Value} (h:W.heap[g]? =some (.cells cs t (0,0))) (i:Nat) (v:Value):(W.setCell ⟨g,i,none⟩ v).heap[g]? =some (.cells (cs.setIfInBounds i v) t (0,0)):=by obtain⟨hlt,hk⟩:=Array.getElem?_eq_some_iff.1 h;show(W.heap.modify g _)[g]? =_;rw[Array.getElem?_eq_getElem (by rw[Array.size_modify];exact hlt),Array.getElem_modify_self,hk];simp
theorem oX {W:World} {g:Nat} {t:TypeId} {y0 y1 y2 y3:Value} (h:W.heap[g]? =some (.cells #[y0,y1,y2,y3] t (0,0))) (x0 x1 x2 x3:Value):(tD W g x0 x1 x2 x3).heap[g]? =some (.cells #[x0,x1,x2,x3] t (0,0)):=
 jP (jP (jP (jP h 0 x0) 1 x1) 2 x2) 3 x3
theorem oY {W0 W:World} {B g:Nat} (h:Below B W0 W) (hg:B<=g) (x0 x1 x2 x3:Value):Below B W0 (tD W g x0 x1 x2 x3):=
 (((h.setCell (p:=⟨g,0,none⟩) hg x0).setCell (p:=⟨g,1,none⟩) hg x1).setCell (p:=⟨g,2,none⟩) hg x2).setCell (p:=⟨g,3,none⟩) hg x3
theorem Ex (a:Nat->Addr) (W:World) (v:Value) (B:Nat) (af:Nat) (s:ByteArray) (hadr:af<=4095) (hs1:1<=s.size) (hs2:s.size<=2048) (hE:av W a) (l:List UInt8) (hl:aq 1 ++ (aq af ++ (eB s ++ []))=l) (hlen:l.length<=100000) (hv:Bytes W B v l) (hB:B<=W.heap.size):
 Calls Tryz.prog 80 #[v] W λe w'=>e= .returned (.tuple #[.agg #[.int .i64 1,.int .i64 (af:Int),.int .i64 0,.string s],.nilIface])/\Below W.heap.size W w':=by
 obtain⟨Av,cv,rfl,_,_,_⟩:=hv.form;have CP:=ab (oT a (W.alloc (.cells #[.int .i64 0,.int .i64 0,.int .i64 0,.string ⟨#[]⟩] 115)) _ B l (hv.below ((Below.refl _ _).alloc hB _)) (by simp;omega) hlen (hE.alloc _));have HZ:=ab (heap_alloc_new W (.cells #[.int .i64 0,.int .i64 0,.int .i64 0,.string ⟨#[]⟩] 115));have B0:=ab ((Below.refl W.heap.size W).alloc (Nat.le_refl _) (.cells #[.int .i64 0,.int .i64 0,.int .i64 0,.string ⟨#[]⟩] 115));have HE:=ab hE;have HL:=ab hl;have HLe:=ab hlen;clear hv hE hl hlen
 go_enter Tryz.func80,Tryz.ntmps80
 go_wp2_with fail
 refine CP.out.mono ?_;rintro e w1 ⟨p,F,rfl,hI,hF,hb⟩;have B1:=ab (B0.out.trans (hb.mono B0.out.size));have Z1:=ab ((Kept.an (F:=λ_=>False) hb).heap HZ.out (λh=>h));have HE1:=ab (HE.out.below B1.out);have HFs:=ab (show ∀k,F k->W.heap.size+1<=k from λk hk=>by have:=hF k hk;simpa using this);have HA:=ab (show dh a F from dh.new (HE.out.alloc (.cells #[.int .i64 0,.int .i64 0,.int .i64 0,.string ⟨#[]⟩] 115)) hF);rw[<-HL.out]at hI;have hsz1:=hb.size;rw[World.size_alloc]at hsz1;have P1:=ab (PR.start hI);have hln:(aq 1 ++ (aq af ++ (eB s ++ []))).length<=100000:=by rw[HL.out];exact HLe.out
 simp only[List.length_append]at hln;clear hb hI hF B0 HZ CP;have C1:=ab (PR.num (n:=1) (most:=3) P1.out HE1.out HA.out (by omega) (by omega) (by simp only[List.length_append];omega));have hsq:s.toList.isEmpty=false:=by
  rw[ByteArray.toList_eq,List.isEmpty_eq_false_iff];intro e;have:s.data.toList.length=0:=by rw[e];rfl
  rw[Array.length_toList]at this;have h2:s.data.size=s.size:=rfl;omega
 go_wp2_with fail
 refine C1.out.mono ?_;rintro e w2 ⟨rfl,hp⟩;have hsz2:w1.heap.size<=w2.heap.size:=by obtain⟨_,_,_,hK⟩:=hp;exact hK.size
 have P2:=ab (hp.box #[.int .i64 1,.int .i64 0,.int .i64 0,.string ⟨#[]⟩]);clear hp C1;have C2:=ab (P2.out.num (n:=af) (most:=4095) HE1.out HA.out (by omega) (by omega) (by simp only[List.length_append];omega));obtain⟨_,c0,c1,c2,c3⟩:=cW P2.out.cells;have cf:=fg P2.out.cells
 go_wp2_with fail
 refine C2.out.mono ?_;rintro e w3 ⟨rfl,hp⟩;clear c0 c1 c2 c3 cf;obtain⟨_,c0,c1,c2,c3⟩:=cW hp.cells;have cf:=fg hp.cells;have P3:=ab (hp.set 1 (.int .i64 (af:Int)));clear hp C2
 go_wp2_with fail
 clear c0 c1 c2 c3 cf;have C3:=ab (P3.out.text (s:=s) (most:=2048) HE1.out HA.out (by omega) (by simp only[List.length_append];omega) (by omega));obtain⟨_,c0,c1,c2,c3⟩:=cW P3.out.cells;have cf:=fg P3.out.cells
 go_wp2_with fail
 refine C3.out.mono ?_;rintro e w4 ⟨rfl,hp⟩;clear c0 c1 c2 c3 cf;obtain⟨_,c0,c1,c2,c3⟩:=cW hp.cells;have cf:=fg hp.cells;have P4:=ab (hp.set 3 (.string s));clear hp C3
 go_wp2_with fail
 clear c0 c1 c2 c3 cf;refine(P4.out.nQ HE1.out HA.out).mono ?_;rintro e w5 ⟨rfl,hp⟩;obtain⟨_,c0,c1,c2,c3⟩:=cW hp.cells;have cf:=fg hp.cells;have hK:Kept F w1 w5:=by obtain⟨_,_,_,hK,_⟩:=hp;exact hK
 have Z9:=hK.heap Z1.out (λhf=>by have:=HFs.out _ hf;omega);have B9:=ab (B1.out.trans (hK.below (B:=W.heap.size) (by omega) (λi hi=>by have:=HFs.out i hi;omega)));have HZ9:=ab Z9;obtain⟨_,d0,d1,d2,d3⟩:=cW Z9;have df:=fg Z9;clear hp hK Z9
 go_wp2_with fail
 obtain⟨_,e0,e1,e2,e3⟩:=cW (oX HZ9.out (.int .i64 1) (.int .i64 (af:Int)) (.int .i64 0) (.string s));exact bodyPost_ret (v:= .tuple #[.agg #[.int .i64 1,.int .i64 (af:Int),.int .i64 0,.string s],.nilIface]) (by simp[results,Tryz.results80,go_sem,e0,e1,e2,e3]) rfl ⟨rfl,oY B9.out (Nat.le_refl _) _ _ _ _⟩
theorem Ey (a:Nat->Addr) (W:World) (v:Value) (B:Nat) (af ep:Nat) (hadr:af<=4096) (hep:ep<=1073741824) (hE:av W a) (l:List UInt8) (hl:aq 2 ++ (aq af ++ (aq ep ++ []))=l) (hlen:l.length<=100000) (hv:Bytes W B v l) (hB:B<=W.heap.size):
 Calls Tryz.prog 80 #[v] W λe w'=>e= .returned (.tuple #[.agg #[.int .i64 2,.int .i64 (af:Int),.int .i64 (ep:Int),.string ⟨#[]⟩],.nilIface])/\Below W.heap.size W w':=by
 obtain⟨Av,cv,rfl,_,_,_⟩:=hv.form;have CP:=ab (oT a (W.alloc (.cells #[.int .i64 0,.int .i64 0,.int .i64 0,.string ⟨#[]⟩] 115)) _ B l (hv.below ((Below.refl _ _).alloc hB _)) (by simp;omega) hlen (hE.alloc _));have HZ:=ab (heap_alloc_new W (.cells #[.int .i64 0,.int .i64 0,.int .i64 0,.string ⟨#[]⟩] 115));have B0:=ab ((Below.refl W.heap.size W).alloc (Nat.le_refl _) (.cells #[.int .i64 0,.int .i64 0,.int .i64 0,.string ⟨#[]⟩] 115));have HE:=ab hE;have HL:=ab hl;have HLe:=ab hlen;clear hv hE hl hlen
 go_enter Tryz.func80,Tryz.ntmps80
 go_wp2_with fail
 refine CP.out.mono ?_;rintro e w1 ⟨p,F,rfl,hI,hF,hb⟩;have B1:=ab (B0.out.trans (hb.mono B0.out.size));have Z1:=ab ((Kept.an (F:=λ_=>False) hb).heap HZ.out (λh=>h));have HE1:=ab (HE.out.below B1.out);have HFs:=ab (show ∀k,F k->W.heap.size+1<=k from λk hk=>by have:=hF k hk;simpa using this);have HA:=ab (show dh a F from dh.new (HE.out.alloc (.cells #[.int .i64 0,.int .i64 0,.int .i64 0,.string ⟨#[]⟩] 115)) hF);rw[<-HL.out]at hI;have hsz1:=hb.size;rw[World.size_alloc]at hsz1;have P1:=ab (PR.start hI);have hln:(aq 2 ++ (aq af ++ (aq ep ++ []))).length<=100000:=by rw[HL.out];exact HLe.out
 simp only[List.length_append]at hln;clear hb hI hF B0 HZ CP;have C1:=ab (PR.num (n:=2) (most:=3) P1.out HE1.out HA.out (by omega) (by omega) (by simp only[List.length_append];omega))
 go_wp2_with fail
 refine C1.out.mono ?_;rintro e w2 ⟨rfl,hp⟩;have hsz2:w1.heap.size<=w2.heap.size:=by obtain⟨_,_,_,hK⟩:=hp;exact hK.size
 have P2:=ab (hp.box #[.int .i64 2,.int .i64 0,.int .i64 0,.string ⟨#[]⟩]);clear hp C1;have C2:=ab (P2.out.num (n:=af) (most:=4096) HE1.out HA.out (by omega) (by omega) (by simp only[List.length_append];omega));obtain⟨_,c0,c1,c2,c3⟩:=cW P2.out.cells;have cf:=fg P2.out.cells
 go_wp2_with fail
 refine C2.out.mono ?_;rintro e w3 ⟨rfl,hp⟩;clear c0 c1 c2 c3 cf;obtain⟨_,c0,c1,c2,c3⟩:=cW hp.cells;have cf:=fg hp.cells;have P3:=ab (hp.set 1 (.int .i64 (af:Int)));clear hp C2
 go_wp2_with fail
 clear c0 c1 c2 c3 cf;have C3:=ab (P3.out.num (n:=ep) (most:=1073741824) HE1.out HA.out (by omega) (by omega) (by simp only[List.length_append];omega));obtain⟨_,c0,c1,c2,c3⟩:=cW P3.out.cells;have cf:=fg P3.out.cells
 go_wp2_with fail
 refine C3.out.mono ?_;rintro e w4 ⟨rfl,hp⟩;clear c0 c1 c2 c3 cf;obtain⟨_,c0,c1,c2,c3⟩:=cW hp.cells;have cf:=fg hp.cells;have P4:=ab (hp.set 2 (.int .i64 (ep:Int)));clear hp C3
 go_wp2_with fail
 clear c0 c1 c2 c3 cf;refine(P4.out.nQ HE1.out HA.out).mono ?_;rintro e w5 ⟨rfl,hp⟩;obtain⟨_,c0,c1,c2,c3⟩:=cW hp.cells;have cf:=fg hp.cells;have hK:Kept F w1 w5:=by obtain⟨_,_,_,hK,_⟩:=hp;exact hK
 have Z9:=hK.heap Z1.out (λhf=>by have:=HFs.out _ hf;omega);have B9:=ab (B1.out.trans (hK.below (B:=W.heap.size) (by omega) (λi hi=>by have:=HFs.out i hi;omega)));have HZ9:=ab Z9;obtain⟨_,d0,d1,d2,d3⟩:=cW Z9;have df:=fg Z9;clear hp hK Z9
 go_wp2_with fail
 obtain⟨_,e0,e1,e2,e3⟩:=cW (oX HZ9.out (.int .i64 2) (.int .i64 (af:Int)) (.int .i64 (ep:Int)) (.string ⟨#[]⟩));exact bodyPost_ret (v:= .tuple #[.agg #[.int .i64 2,.int .i64 (af:Int),.int .i64 (ep:Int),.string ⟨#[]⟩],.nilIface]) (by simp[results,Tryz.results80,go_sem,e0,e1,e2,e3]) rfl ⟨rfl,oY B9.out (Nat.le_refl _) _ _ _ _⟩
theorem Ez (a:Nat->Addr) (W:World) (v:Value) (B:Nat) (ep:Nat) (hep:ep<=1073741824) (hE:av W a) (l:List UInt8) (hl:aq 3 ++ (aq ep ++ [])=l) (hlen:l.length<=100000) (hv:Bytes W B v l) (hB:B<=W.heap.size):
 Calls Tryz.prog 80 #[v] W λe w'=>e= .returned (.tuple #[.agg #[.int .i64 3,.int .i64 0,.int .i64 (ep:Int),.string ⟨#[]⟩],.nilIface])/\Below W.heap.size W w':=by
 obtain⟨Av,cv,rfl,_,_,_⟩:=hv.form;have CP:=ab (oT a (W.alloc (.cells #[.int .i64 0,.int .i64 0,.int .i64 0,.string ⟨#[]⟩] 115)) _ B l (hv.below ((Below.refl _ _).alloc hB _)) (by simp;omega) hlen (hE.alloc _));have HZ:=ab (heap_alloc_new W (.cells #[.int .i64 0,.int .i64 0,.int .i64 0,.string ⟨#[]⟩] 115));have B0:=ab ((Below.refl W.heap.size W).alloc (Nat.le_refl _) (.cells #[.int .i64 0,.int .i64 0,.int .i64 0,.string ⟨#[]⟩] 115));have HE:=ab hE;have HL:=ab hl;have HLe:=ab hlen;clear hv hE hl hlen
 go_enter Tryz.func80,Tryz.ntmps80
 go_wp2_with fail
 refine CP.out.mono ?_;rintro e w1 ⟨p,F,rfl,hI,hF,hb⟩;have B1:=ab (B0.out.trans (hb.mono B0.out.size));have Z1:=ab ((Kept.an (F:=λ_=>False) hb).heap HZ.out (λh=>h));have HE1:=ab (HE.out.below B1.out);have HFs:=ab (show ∀k,F k->W.heap.size+1<=k from λk hk=>by have:=hF k hk;simpa using this);have HA:=ab (show dh a F from dh.new (HE.out.alloc (.cells #[.int .i64 0,.int .i64 0,.int .i64 0,.string ⟨#[]⟩] 115)) hF);rw[<-HL.out]at hI;have hsz1:=hb.size;rw[World.size_alloc]at hsz1;have P1:=ab (PR.start hI);have hln:(aq 3 ++ (aq ep ++ [])).length<=100000:=by rw[HL.out];exact HLe.out
 simp only[List.length_append]at hln;clear hb hI hF B0 HZ CP;have C1:=ab (PR.num (n:=3) (most:=3) P1.out HE1.out HA.out (by omega) (by omega) (by simp only[List.length_append];omega))
 go_wp2_with fail
 refine C1.out.mono ?_;rintro e w2 ⟨rfl,hp⟩;have hsz2:w1.heap.size<=w2.heap.size:=by obtain⟨_,_,_,hK⟩:=hp;exact hK.size
 have P2:=ab (hp.box #[.int .i64 3,.int .i64 0,.int .i64 0,.string ⟨#[]⟩]);clear hp C1;have C2:=ab (P2.out.num (n:=ep) (most:=1073741824) HE1.out HA.out (by omega) (by omega) (by simp only[List.length_append];omega));obtain⟨_,c0,c1,c2,c3⟩:=cW P2.out.cells;have cf:=fg P2.out.cells
 go_wp2_with fail
 refine C2.out.mono ?_;rintro e w3 ⟨rfl,hp⟩;clear c0 c1 c2 c3 cf;obtain⟨_,c0,c1,c2,c3⟩:=cW hp.cells;have cf:=fg hp.cells;have P3:=ab (hp.set 2 (.int .i64 (ep:Int)));clear hp C2
 go_wp2_with fail
 clear c0 c1 c2 c3 cf;refine(P3.out.nQ HE1.out HA.out).mono ?_;rintro e w4 ⟨rfl,hp⟩;obtain⟨_,c0,c1,c2,c3⟩:=cW hp.cells;have cf:=fg hp.cells;have hK:Kept F w1 w4:=by obtain⟨_,_,_,hK,_⟩:=hp;exact hK
 have Z9:=hK.heap Z1.out (λhf=>by have:=HFs.out _ hf;omega);have B9:=ab (B1.out.trans (hK.below (B:=W.heap.size) (by omega) (λi hi=>by have:=HFs.out i hi;omega)));have HZ9:=ab Z9;obtain⟨_,d0,d1,d2,d3⟩:=cW Z9;have df:=fg Z9;clear hp hK Z9
 go_wp2_with fail
 obtain⟨_,e0,e1,e2,e3⟩:=cW (oX HZ9.out (.int .i64 3) (.int .i64 0) (.int .i64 (ep:Int)) (.string ⟨#[]⟩));exact bodyPost_ret (v:= .tuple #[.agg #[.int .i64 3,.int .i64 0,.int .i64 (ep:Int),.string ⟨#[]⟩],.nilIface]) (by simp[results,Tryz.results80,go_sem,e0,e1,e2,e3]) rfl ⟨rfl,oY B9.out (Nat.le_refl _) _ _ _ _⟩
end Go.Proofs.YtiafamacjpgjoaaGreatDoor
