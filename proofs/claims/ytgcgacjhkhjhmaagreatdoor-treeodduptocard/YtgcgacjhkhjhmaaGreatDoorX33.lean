/- Part of the proof: contracts over the turned program. -/
import Derived.Test.YtgcgacjhkhjhmaaGreatDoorX31
import Derived.Test.YtgcgacjhkhjhmaaGreatDoorX29
set_option linter.unusedVariables false
set_option maxHeartbeats 4000000
open Go.Proofs.Tryz
namespace Go.Proofs.YtgcgacjhkhjhmaaGreatDoor
open Go Go.RowKit
theorem Gk{α:Type}(l:List α)(x:α):insAt l l.length x=l++[x]:=by simp[insAt]
theorem Gl{α:Type}{l:List α}{i:Nat}{x y:α}(h:y∈insAt l i x):y∈l\/y=x:=by
 unfold insAt at h;rw[List.mem_append,List.mem_cons]at h;rcases h with h|h|h
 ·exact .inl (List.mem_of_mem_take h)
 ·exact .inr h
 ·exact .inl (List.mem_of_mem_drop h)
theorem Ns(a:Option Addr)(n c gx i:Nat)(l:List ByteArray)(x:ByteArray)(base:Nat)(w:World)(hO:Ow Value.string 9 w base (.slice a n c) l)(hn:l.length=n)(hi:i<=n)(ht:i<n->c=n)(hb:base<=w.heap.size)(hn6:n<=1000000)(hx:w.cell? ⟨gx,0,none⟩=some (Value.string x)) :
  Calls prog 153 #[.slice a n c,.int .i64 (i:Int),.slice (some ⟨gx,0,none⟩) 1 1] w fun e w'=>∃a' c',e=.returned (.slice a' (n+1) c')/\Ow Value.string 9 w' base (.slice a' (n+1) c') (insAt l i x)/\Kp (fun k=>(Value.slice a n c).ownBlock=some k) w w'/\((Value.slice a' (n+1) c').ownBlock=(Value.slice a n c).ownBlock\/∃k,(Value.slice a' (n+1) c').ownBlock=some k/\w.heap.size<=k):=by
 rcases Nat.lt_or_ge i n with h|h
 ·have hc:=ht h;subst hc;obtain⟨a',c',e,hcell⟩:=hO.open;have:(Value.slice a c c)=.slice a' l.length c':=e;simp only[Value.slice.injEq]at this;obtain⟨rfl,_,_⟩:=this;obtain⟨g,rfl,_,_⟩:=hcell 0 (by omega);refine(Nu g c i gx l x base w hO hn h hn6 hx).mono ?_;rintro e' w' ⟨c2,rfl,hO2,hk⟩;exact⟨_,_,rfl,hO2.mono hb,hk.mono (fun _ _ h=>by cases h),.inr ⟨_,rfl,Nat.le_refl _⟩⟩
 ·have hin:i=n:=by omega
  subst hin;rw[<-hn,Gk,hn];exact Nt a i c gx l x base w hO hn hb hn6 hx
theorem Np(a:Option Addr)(n c gx i:Nat)(l:List Int)(x:Int)(base:Nat)(w:World)(hO:Ow (Value.int .i64) 3 w base (.slice a n c) l)(hn:l.length=n)(hi:i<=n)(ht:i<n->c=n)(hb:base<=w.heap.size)(hn6:n<=1000000)(hx:w.cell? ⟨gx,0,none⟩=some ((Value.int .i64) x)) :
  Calls prog 154 #[.slice a n c,.int .i64 (i:Int),.slice (some ⟨gx,0,none⟩) 1 1] w fun e w'=>∃a' c',e=.returned (.slice a' (n+1) c')/\Ow (Value.int .i64) 3 w' base (.slice a' (n+1) c') (insAt l i x)/\Kp (fun k=>(Value.slice a n c).ownBlock=some k) w w'/\((Value.slice a' (n+1) c').ownBlock=(Value.slice a n c).ownBlock\/∃k,(Value.slice a' (n+1) c').ownBlock=some k/\w.heap.size<=k):=by
 rcases Nat.lt_or_ge i n with h|h
 ·have hc:=ht h;subst hc;obtain⟨a',c',e,hcell⟩:=hO.open;have:(Value.slice a c c)=.slice a' l.length c':=e;simp only[Value.slice.injEq]at this;obtain⟨rfl,_,_⟩:=this;obtain⟨g,rfl,_,_⟩:=hcell 0 (by omega);refine(Nr g c i gx l x base w hO hn h hn6 hx).mono ?_;rintro e' w' ⟨c2,rfl,hO2,hk⟩;exact⟨_,_,rfl,hO2.mono hb,hk.mono (fun _ _ h=>by cases h),.inr ⟨_,rfl,Nat.le_refl _⟩⟩
 ·have hin:i=n:=by omega
  subst hin;rw[<-hn,Gk,hn];exact Nq a i c gx l x base w hO hn hb hn6 hx
structure AbS (w:World) (o:Nat->Nat) (g m cap i rb base:Nat) (xa:List SpV) (x:SpV) (n:Nd):Prop where
 row:w.ownsRow rb 85 7 (.slice (some ⟨g,0,none⟩) m cap) xa.length (stcs xa)
 hi:i<xa.length
 hx:xa[i]=x
 nd:OwM w base x.l x.p x.k x.d n
 hg:¬x.own g
 pk:∀k,x.p.ownBlock=some k->x.k.ownBlock≠some k
 pd:∀k,x.p.ownBlock=some k->x.d.ownBlock≠some k
 kd:∀k,x.k.ownBlock=some k->x.d.ownBlock≠some k
 og:o g=6
 ox:∀k,x.own k->o k=6
theorem AbS.lt{w:World}{o:Nat->Nat}{g m cap i rb base:Nat}{xa:List SpV}{x:SpV}{n:Nd}(h:AbS w o g m cap i rb base xa x n):g<w.heap.size:=(World.ownsRow.lt h.row g rfl).2
theorem AbS.ltx{w:World}{o:Nat->Nat}{g m cap i rb base:Nat}{xa:List SpV}{x:SpV}{n:Nd}(h:AbS w o g m cap i rb base xa x n)(k:Nat)(hk:x.own k):k<w.heap.size:=by
 rcases hk with e|e|e
 ·exact(h.nd.p.lt k e).2
 ·exact(h.nd.k.lt k e).2
 ·exact(h.nd.d.lt k e).2
theorem AbS.kept{w w':World}{o o':Nat->Nat}{g m cap i rb base:Nat}{xa:List SpV}{x:SpV}{n:Nd}{S:Nat->Prop}(h:AbS w o g m cap i rb base xa x n)(hk:Kp S w w')(hS:∀k,k<w.heap.size->o k=6->¬S k)(ho:∀k,k<w.heap.size->o' k=o k):AbS w' o' g m cap i rb base xa x n:=by
 have hb:∀k,x.own k->¬S k:=fun k e=>hS k (h.ltx k e) (h.ox k e);exact⟨Ao h.row hk (fun k e=>by have e':g=k:=Option.some.inj e;subst e';exact hS g h.lt h.og),h.hi,h.hx,⟨h.nd.l,h.nd.p.kept hk (fun k e=>hb k (.inl e)),h.nd.k.kept hk (fun k e=>hb k (.inr (.inl e))),h.nd.d.kept hk (fun k e=>hb k (.inr (.inr e))),h.nd.wf⟩,h.hg,h.pk,h.pd,h.kd,by rw[ho g h.lt];exact h.og,fun k e=>by rw[ho k (h.ltx k e)];exact h.ox k e⟩
theorem AbM.toS{w:World}{o:Nat->Nat}{g m cap i rb base:Nat}{xa:List SpV}{x:SpV}{n:Nd}(h:AbM w o g m cap i rb base xa x n)(hk:n.kd≠[]):AbS w o g m cap i rb base xa x n/\x.c2=x.n2/\x.c3=x.n3:=by
 obtain⟨gk,nk,gd,nd',ek,ed,hne⟩:=h.nd.t hk;have ek':=ek;have ed':=ed;simp only[SpV.k,Value.slice.injEq]at ek';simp only[SpV.d,Value.slice.injEq]at ed';exact⟨⟨h.row,h.hi,h.hx,h.nd.toM,h.hg,fun k e e'=>h.hp k k e (.inl e') rfl,fun k e e'=>h.hp k k e (.inr e') rfl,fun k e e'=>by rw[ek]at e;rw[ed]at e';have h1:=Option.some.inj e;have h2:=Option.some.inj e';simp only at h1 h2;omega,h.og,h.ox⟩,by omega,by omega⟩
theorem AbS.putK{w w8:World}{o:Nat->Nat}{g m cap i rb base:Nat}{xa:List SpV}{x:SpV}{n:Nd}(h:AbS w o g m cap i rb base xa x n)(hk:Kp (fun k=>x.k.ownBlock=some k) w w8)(a':Option Addr)(n' c':Nat)(ks':List ByteArray)(hO:Ow Value.string 9 w8 base (.slice a' n' c') ks')(hown:(Value.slice a' n' c').ownBlock=x.k.ownBlock\/∃k,(Value.slice a' n' c').ownBlock=some k/\w.heap.size<=k)(hwf:∀s∈ks',s.size<=maxLen) :
  w8.cell? ⟨g,i*7+1+2,none⟩=some x.k/\w8.frozen? ⟨g,i*7+1+2,none⟩=false/\AbS (w8.setCell ⟨g,i*7+1+2,none⟩ (.slice a' n' c')) (lab o w.heap.size 6) g m cap i rb base (xa.set i { x with a2:=a',n2:=n',c2:=c' }) { x with a2:=a',n2:=n',c2:=c' } { n with ks:=ks' }/\Kp (fun k=>o k=6) w (w8.setCell ⟨g,i*7+1+2,none⟩ (.slice a' n' c')):=by
 have hgx:∀k,x.own k->k≠g:=fun k e e'=>h.hg (e'▸e);have hrow:=Ao h.row hk (fun k e e'=>by have e1:g=k:=Option.some.inj e;exact hgx k (.inr (.inl e')) e1.symm);have hc:=row_step hrow i h.hi 3 x.k (by rw[h.hx];rfl);obtain⟨hrow2,hk2⟩:=BY hrow i h.hi 3 (by omega) { x with a2:=a',n2:=n',c2:=c' } (.slice a' n' c') (by rw[h.hx];rfl);have hnew:∀k,(Value.slice a' n' c').ownBlock=some k->x.k.ownBlock=some k\/w.heap.size<=k:=fun k e=>by
  rcases hown with e1|⟨k',e1,e2⟩
  ·exact .inl (by rw[<-e1];exact e)
  ·rw[e1]at e;exact .inr (by have:=Option.some.inj e;omega)
 have hng:∀k,(Value.slice a' n' c').ownBlock=some k->k≠g:=fun k e=>by
  rcases hnew k e with e1|e1
  ·exact hgx k (.inr (.inl e1))
  ·have:=h.lt;omega
 refine⟨hc.1,hc.2,⟨hrow2,by rw[List.length_set];exact h.hi,by simp,⟨h.nd.l,?_,?_,?_,⟨h.nd.wf.p,hwf,h.nd.wf.d⟩⟩,?_,?_,h.pd,?_,?_,?_⟩,?_⟩
 ·exact(h.nd.p.kept hk (fun k e e'=>h.pk k e e')).kept hk2 (fun k e e'=>by unfold only at e';exact hgx k (.inl e) e')
 ·exact hO.kept hk2 (fun k e e'=>by unfold only at e';exact hng k e e')
 ·exact(h.nd.d.kept hk (fun k e e'=>h.kd k e' e)).kept hk2 (fun k e e'=>by unfold only at e';exact hgx k (.inr (.inr e)) e')
 ·rintro (e|e|e)
  ·exact h.hg (.inl e)
  ·exact hng g e rfl
  ·exact h.hg (.inr (.inr e))
 ·intro k e e';rcases hnew k e' with e1|e1
  ·exact h.pk k e e1
  ·have:=h.ltx k (.inl e);omega
 ·intro k e e';rcases hnew k e with e1|e1
  ·exact h.kd k e1 e'
  ·have:=h.ltx k (.inr (.inr e'));omega
 ·rw[Ad h.lt];exact h.og
 ·rintro k (e|e|e)
  ·rw[Ad (h.ltx k (.inl e))];exact h.ox k (.inl e)
  ·rcases hnew k e with e1|e1
   ·rw[Ad (h.ltx k (.inr (.inl e1)))];exact h.ox k (.inr (.inl e1))
   ·exact Ap e1
  ·rw[Ad (h.ltx k (.inr (.inr e)))];exact h.ox k (.inr (.inr e))
 ·refine(hk.mono (fun k _ e=>h.ox k (.inr (.inl e)))).then (hk2.mono (fun k _ e=>?_));unfold only at e;subst e;exact h.og
theorem AbS.putD{w w8:World}{o:Nat->Nat}{g m cap i rb base:Nat}{xa:List SpV}{x:SpV}{n:Nd}(h:AbS w o g m cap i rb base xa x n)(hk:Kp (fun k=>x.d.ownBlock=some k) w w8)(a':Option Addr)(n' c':Nat)(kd':List Int)(hO:Ow (Value.int .i64) 3 w8 base (.slice a' n' c') kd')(hown:(Value.slice a' n' c').ownBlock=x.d.ownBlock\/∃k,(Value.slice a' n' c').ownBlock=some k/\w.heap.size<=k)(hwf:∀z∈kd',-9223372036854775808<=z/\z<9223372036854775808) :
  w8.cell? ⟨g,i*7+1+3,none⟩=some x.d/\w8.frozen? ⟨g,i*7+1+3,none⟩=false/\AbS (w8.setCell ⟨g,i*7+1+3,none⟩ (.slice a' n' c')) (lab o w.heap.size 6) g m cap i rb base (xa.set i { x with a3:=a',n3:=n',c3:=c' }) { x with a3:=a',n3:=n',c3:=c' } { n with kd:=kd' }/\Kp (fun k=>o k=6) w (w8.setCell ⟨g,i*7+1+3,none⟩ (.slice a' n' c')):=by
 have hgx:∀k,x.own k->k≠g:=fun k e e'=>h.hg (e'▸e);have hrow:=Ao h.row hk (fun k e e'=>by have e1:g=k:=Option.some.inj e;exact hgx k (.inr (.inr e')) e1.symm);have hc:=row_step hrow i h.hi 4 x.d (by rw[h.hx];rfl);obtain⟨hrow2,hk2⟩:=BY hrow i h.hi 4 (by omega) { x with a3:=a',n3:=n',c3:=c' } (.slice a' n' c') (by rw[h.hx];rfl);have hnew:∀k,(Value.slice a' n' c').ownBlock=some k->x.d.ownBlock=some k\/w.heap.size<=k:=fun k e=>by
  rcases hown with e1|⟨k',e1,e2⟩
  ·exact .inl (by rw[<-e1];exact e)
  ·rw[e1]at e;exact .inr (by have:=Option.some.inj e;omega)
 have hng:∀k,(Value.slice a' n' c').ownBlock=some k->k≠g:=fun k e=>by
  rcases hnew k e with e1|e1
  ·exact hgx k (.inr (.inr e1))
  ·have:=h.lt;omega
 refine⟨hc.1,hc.2,⟨hrow2,by rw[List.length_set];exact h.hi,by simp,⟨h.nd.l,?_,?_,?_,⟨h.nd.wf.p,h.nd.wf.k,hwf⟩⟩,?_,h.pk,?_,?_,?_,?_⟩,?_⟩
 ·exact(h.nd.p.kept hk (fun k e e'=>h.pd k e e')).kept hk2 (fun k e e'=>by unfold only at e';exact hgx k (.inl e) e')
 ·exact(h.nd.k.kept hk (fun k e e'=>h.kd k e e')).kept hk2 (fun k e e'=>by unfold only at e';exact hgx k (.inr (.inl e)) e')
 ·exact hO.kept hk2 (fun k e e'=>by unfold only at e';exact hng k e e')
 ·rintro (e|e|e)
  ·exact h.hg (.inl e)
  ·exact h.hg (.inr (.inl e))
  ·exact hng g e rfl
 ·intro k e e';rcases hnew k e' with e1|e1
  ·exact h.pd k e e1
  ·have:=h.ltx k (.inl e);omega
 ·intro k e e';rcases hnew k e' with e1|e1
  ·exact h.kd k e e1
  ·have:=h.ltx k (.inr (.inl e));omega
 ·rw[Ad h.lt];exact h.og
 ·rintro k (e|e|e)
  ·rw[Ad (h.ltx k (.inl e))];exact h.ox k (.inl e)
  ·rw[Ad (h.ltx k (.inr (.inl e)))];exact h.ox k (.inr (.inl e))
  ·rcases hnew k e with e1|e1
   ·rw[Ad (h.ltx k (.inr (.inr e1)))];exact h.ox k (.inr (.inr e1))
   ·exact Ap e1
 ·refine(hk.mono (fun k _ e=>h.ox k (.inr (.inr e)))).then (hk2.mono (fun k _ e=>?_));unfold only at e;subst e;exact h.og
structure SpSt (b r c mm g m cap i rb base:Nat) (o:Nat->Nat) (V:Nat->Prop) (C:Cg) (wv tv sv:Value) (xs xa:List SpV) (x:SpV) (nab:Nd) (S:Sw) (w W:World) (oW:Nat->Nat):Prop where
 cm:Cm W b r oW C wv tv sv xs
 ab:AbS W oW g m cap i rb base xa x nab
 wk:Wk W r V c mm S
 hv:∀k,V k->oW k=5/\k<W.heap.size
 old:∀k,k<w.heap.size->oW k=o k
 kp:Kp (fun k=>1<=o k/\o k<=6) w W
theorem SpSt.none{b r c mm g m cap i rb base:Nat}{o:Nat->Nat}{V:Nat->Prop}{C:Cg}{wv tv sv:Value}{xs xa:List SpV}{x:SpV}{nab:Nd}{S:Sw}{w W W':World}{oW o':Nat->Nat}(h:SpSt b r c mm g m cap i rb base o V C wv tv sv xs xa x nab S w W oW)(hk:Kp none' W W')(ho:∀k,k<W.heap.size->o' k=oW k):SpSt b r c mm g m cap i rb base o V C wv tv sv xs xa x nab S w W' o' :=
 ⟨h.cm.kept hk (fun _ _ _ h=>h) ho,h.ab.kept hk (fun _ _ _ h=>h) ho,h.wk.keptN hk,fun k e=>⟨by rw[ho k (h.hv k e).2];exact(h.hv k e).1,Qd (h.hv k e).2 hk.size⟩,fun k e=>by rw[ho k (Qd e h.kp.size)];exact h.old k e,h.kp.thenN hk⟩
theorem SpSt.write{b r c mm g m cap i rb base:Nat}{o:Nat->Nat}{V:Nat->Prop}{C C':Cg}{wv tv sv wv':Value}{xs xs' xa:List SpV}{x:SpV}{nab:Nd}{S:Sw}{w W W':World}{oW o':Nat->Nat}(h:SpSt b r c mm g m cap i rb base o V C wv tv sv xs xa x nab S w W oW)(hC:Cm W' b r o' C' wv' tv sv xs')(hk:Kp (fun k=>oW k=1\/oW k=2) W W')(ho:∀k,k<W.heap.size->o' k=oW k):SpSt b r c mm g m cap i rb base o V C' wv' tv sv xs' xa x nab S w W' o' :=
 ⟨hC,h.ab.kept hk (fun _ _ e1 e2=>by omega) ho,h.wk.kept hk (fun k _ e1 e2=>by have:=(h.hv k e1).1;omega),fun k e=>⟨by rw[ho k (h.hv k e).2];exact(h.hv k e).1,Qd (h.hv k e).2 hk.size⟩,fun k e=>by rw[ho k (Qd e h.kp.size)];exact h.old k e,h.kp.trans hk (fun _ _ h=>h) (fun k e e'=>by rw[h.old k e]at e';omega)⟩
theorem SpSt.put{b r c mm g m cap i rb base:Nat}{o:Nat->Nat}{V:Nat->Prop}{C:Cg}{wv tv sv:Value}{xs xa xa':List SpV}{x x':SpV}{nab nab':Nd}{S:Sw}{w W W':World}{oW o':Nat->Nat}(h:SpSt b r c mm g m cap i rb base o V C wv tv sv xs xa x nab S w W oW)(hA:AbS W' o' g m cap i rb base xa' x' nab')(hk:Kp (fun k=>oW k=6) W W')(ho:∀k,k<W.heap.size->o' k=oW k):SpSt b r c mm g m cap i rb base o V C wv tv sv xs xa' x' nab' S w W' o' :=
 ⟨h.cm.kept hk (fun _ _ e1 e2=>by omega) ho,hA,h.wk.kept hk (fun k _ e1 e2=>by have:=(h.hv k e1).1;omega),fun k e=>⟨by rw[ho k (h.hv k e).2];exact(h.hv k e).1,Qd (h.hv k e).2 hk.size⟩,fun k e=>by rw[ho k (Qd e h.kp.size)];exact h.old k e,h.kp.trans hk (fun _ _ h=>h) (fun k e e'=>by rw[h.old k e]at e';omega)⟩
def LC(b r c mm g m cap i rb base:Nat)(o:Nat->Nat)(C':Cg)(xa:List SpV)(x:SpV)(nab':Nd)(w w':World):Prop:=∃(o':Nat->Nat) (V':Nat->Prop) (wv' tv' sv':Value) (xs':List SpV) (x':SpV),SpSt b r c (mm+2) g m cap i rb base o V' C' wv' tv' sv' xs' (xa.set i x') x' nab' C'.S w w' o'/\(x'.pg=x.pg/\x'.kid=x.kid/\x'.was=x.was)
set_option maxRecDepth 100000 in
theorem E5(b r c mm g m cap i rb base:Nat)(o:Nat->Nat)(V:Nat->Prop)(C:Cg)(wv tv sv:Value)(xs xa:List SpV)(s x:SpV)(n nab:Nd)(kid:Nat)(w:World)(hC:Cm w b r o C wv tv sv xs)(hWk:Wk w r V c mm C.S)(hV:∀k,V k->o k=5/\k<w.heap.size)(hm:mm<=5000)(ht:C.tk.length<=90000)(hs:C.sp.length<=90000)(hl:C.ws.length<=90000)
  (hN:Nv w.heap.size w s.node n) (hso:∀k,s.own k->k<w.heap.size/\(o k=0\/6<=o k)) (hA:AbS w o g m cap i rb base xa x nab) (hb:base<=w.heap.size) (hkid:x.kid=(kid:Int)) (hk1:kid<=nab.ks.length) (hk2:kid+1<=nab.kd.length) (tk:kid<nab.ks.length->x.c2=x.n2) (td:kid+1<nab.kd.length->x.c3=x.n3) (hn6:nab.ks.length<=100000) (hn7:nab.kd.length<=100000) (hz:-9223372036854775808<=C.takeZ.1/\C.takeZ.1<9223372036854775808)
  (hp:n.ps.length<=1048576) (hk:n.ks.length<=1048576) (hd:n.kd.length<=1048576) (hsz:n.size<=4194304) :
  Calls prog 128 #[.pointer (some ⟨b,0,none⟩),.agg #[.int .i64 s.pg,.bool s.l,.slice s.a1 s.n1 s.c1,.slice s.a2 s.n2 s.c2,.slice s.a3 s.n3 s.c3,.int .i64 s.kid,.int .i64 s.was],.pointer (some ⟨g,i*7,none⟩)] w fun e w'=>e=.returned (.int .i64 C.takeZ.2)/\LC b r c mm g m cap i rb base o (C.split s.pg n) xa x (C.splitAb kid n nab) w w':=by
 have hKA:Kp none' w (w.alloc (.cells #[.int .i64 s.pg,.bool s.l,.slice s.a1 s.n1 s.c1,.slice s.a2 s.n2 s.c2,.slice s.a3 s.n3 s.c3,.int .i64 s.kid,.int .i64 s.was] 85)):=Kp.alloc _ _ _;have cell:=Am w #[.int .i64 s.pg,.bool s.l,.slice s.a1 s.n1 s.c1,.slice s.a2 s.n2 s.c2,.slice s.a3 s.n3 s.c3,.int .i64 s.kid,.int .i64 s.was] 85;have q0:=cell 0 _ rfl;have q1:=cell 1 _ rfl
 have q2:(w.alloc (.cells #[.int .i64 s.pg,.bool s.l,.slice s.a1 s.n1 s.c1,.slice s.a2 s.n2 s.c2,.slice s.a3 s.n3 s.c3,.int .i64 s.kid,.int .i64 s.was] 85)).cell? ⟨w.heap.size,1+1,none⟩=_:=cell 2 _ rfl;have q3:(w.alloc (.cells #[.int .i64 s.pg,.bool s.l,.slice s.a1 s.n1 s.c1,.slice s.a2 s.n2 s.c2,.slice s.a3 s.n3 s.c3,.int .i64 s.kid,.int .i64 s.was] 85)).cell? ⟨w.heap.size,1+2,none⟩=_:=cell 3 _ rfl
 have q4:(w.alloc (.cells #[.int .i64 s.pg,.bool s.l,.slice s.a1 s.n1 s.c1,.slice s.a2 s.n2 s.c2,.slice s.a3 s.n3 s.c3,.int .i64 s.kid,.int .i64 s.was] 85)).cell? ⟨w.heap.size,1+3,none⟩=_:=cell 4 _ rfl;have hold:∀k,k<w.heap.size->lab o w.heap.size 9 k=o k:=fun k hk=>Ad hk;have hog:lab o w.heap.size 9 w.heap.size=9:=Ap (Nat.le_refl _);have hwk1:=hWk.keptN hKA
 have hv1:∀k,V k->lab o w.heap.size 9 k=5/\k<(w.alloc (.cells #[.int .i64 s.pg,.bool s.l,.slice s.a1 s.n1 s.c1,.slice s.a2 s.n2 s.c2,.slice s.a3 s.n3 s.c3,.int .i64 s.kid,.int .i64 s.was] 85)).heap.size:=fun k e=>⟨by rw[hold k (hV k e).2];exact(hV k e).1,Qd (hV k e).2 hKA.size⟩;have hc1:=hC.kept (o':=lab o w.heap.size 9) hKA (fun _ _ _ h=>h) hold;have HA1:=hide (hA.kept (o':=lab o w.heap.size 9) hKA (fun _ _ _ h=>h) hold);have HN1:=hide (hN.keptO hKA (fun _ _ h=>h))
 have HTAKE:=hide (Ed b r c mm _ V C wv tv sv xs _ hc1 hwk1 hv1 hm (by omega) (by omega));have HSO:Hid (∀k,s.own k->lab o w.heap.size 9 k=0\/6<=lab o w.heap.size 9 k):=fun k e=>by rw[hold k (hso k e).1];exact(hso k e).2
 have HMID:=hide hN.wf.mid;have HKA:=hide hKA;have HOLD:=hide hold;have HOG:=hide hog;have HGW:=hide (lt_of_cell q0);have HB:=hide hb;have HK1:=hide hk1;have HK2:=hide hk2;have HTK:=hide tk;have HTD:=hide td;have HN6:=hide hn6;have HN7:=hide hn7;have HZ:=hide hz;have HP:=hide hp;have HK:=hide hk;have HD:=hide hd;have HSZ:=hide hsz;have HLW:=hide hl;have HKID:=hide hkid;clear cell hC hA hN hp hk hd hsz hKA hold hog hwk1 hv1 hc1 hso hb hk1 hk2 tk td hn6 hn7 hz hl hkid hWk hV hm ht hs
 go_enter func128,ntmps128;go_upto_region 1 with fail;generalize w.alloc (.cells #[.int .i64 s.pg,.bool s.l,.slice s.a1 s.n1 s.c1,.slice s.a2 s.n2 s.c2,.slice s.a3 s.n3 s.c3,.int .i64 s.kid,.int .i64 s.was] 85)=w1 at *;obtain⟨gb,Hgb⟩:∃q,Hid (w.heap.size=q):=⟨_,rfl⟩;obtain⟨o1,Ho1⟩:∃q,Hid (lab o w.heap.size 9=q):=⟨_,rfl⟩;rw[Ho1.out]at HTAKE HA1 HOLD HOG HSO;rw[Hgb.out]at q0 q1 q2 q3 q4 HOG |-;have hgb1:gb<w1.heap.size:=by have:=HGW.out;rw[Hgb.out]at this;exact this
 go_upto_region 2 with (first
  | (go_at_call 62;refine HTAKE.out.mono ?_;rintro e w2 ⟨rfl,o2,V2,tv2,sv2,ho2,hC2,hWk2,hV2,hk2⟩)
  | fail)
 have ngb:¬(o1 gb=1\/o1 gb=3\/o1 gb=4\/o1 gb=5):=by have:=HOG.out;omega
 replace q0:=hk2.cell q0 ngb;replace q1:=hk2.cell q1 ngb;replace q2:=hk2.cell q2 ngb;replace q3:=hk2.cell q3 ngb;replace q4:=hk2.cell q4 ngb;have hog2:o2 gb=9:=by rw[ho2 gb hgb1];exact HOG.out
 have hgb2:gb<w2.heap.size:=Qd hgb1 hk2.size;have HN2:Hid (Nv w2.heap.size w2 s.node n):=HN1.out.keptO hk2 (fun k e e'=>by have:=HSO.out k e;omega);have HS2:Hid (SpSt b r c (mm+2) g m cap i rb base o V2 C.take wv tv2 sv2 xs xa x nab C.take.S w w2 o2):=by
  refine⟨hC2,HA1.out.kept hk2 (fun _ _ e1 e2=>by omega) ho2,hWk2,hV2,fun k e=>by rw[ho2 k (Nat.lt_trans e HGW.out)];exact HOLD.out k e,HKA.out.trans hk2 (fun _ _ h=>by cases h) (fun k e e'=>?_)⟩;rw[HOLD.out k e]at e';omega
 clear HN1 HTAKE HA1 HOLD HOG HSO hC2 hWk2 hV2 hk2 ho2 ngb hgb1 HKA HGW;by_cases h0:C.takeZ.2=0
 ·have hg0:(C.takeZ.2 != 0)=false:=by rw[h0];rfl
  have HE1:Hid (C.split s.pg n=(C.take.write s.pg n.fst).write C.takeZ.1 n.snd):=by show _=_;unfold Cg.split;rw[if_pos h0]
  have HE2:Hid (C.splitAb kid n nab={ nab with ks:=insAt nab.ks kid n.mid,kd:=insAt nab.kd (kid+1) C.takeZ.1 }):=by show _=_;unfold Cg.splitAb;rw[if_pos h0]
  have HSPL:=hide (GB s.node n w2.heap.size w2 HN2.out (Nat.le_refl _) HP.out HK.out HD.out HSZ.out);unfold SpV.node at HSPL;have H0:=hide h0;clear h0;obtain⟨tz,Htz⟩:∃q,Hid (C.takeZ.1=q):=⟨_,rfl⟩;obtain⟨te,Hte⟩:∃q,Hid (C.takeZ.2=q):=⟨_,rfl⟩;rw[Htz.out]at HZ HE1 HE2 |-;rw[Hte.out]at hg0 H0 |-;go_upto_region 5 with (first
   | (go_at_call 152;refine HSPL.out.mono ?_;rintro e w3 ⟨yv,zv,rfl,hy2,hz2,hk2,hfy,hfz⟩;obtain⟨l4,a4,m4,c4,a5,m5,c5,a6,m6,c6,rfl,hfy⟩:=hfy;obtain⟨l7,a7,m7,c7,a8,m8,c8,a9,m9,c9,rfl,hfz⟩:=hfz;obtain⟨n2,n3,hk3⟩:=NW w3)
   | (refine Af rfl rfl (.tmp 9) (.tmp 24) rfl w3.heap.size rfl rfl n2 ?_;clear n2;intro w4 n2 hk4;replace n3:=Aw n3 (by omega) hk4)
   | (refine Af rfl rfl (.tmp 10) (.tmp 25) rfl (w3.heap.size+1) rfl rfl n3 ?_;clear n3;intro w5 n3 hk5;replace n2:=Aw n2 (by omega) hk5)
   | fail)
  have hk35:Kp none' w3 w5:=Ax (Ax hk3 (Nat.le_refl _) hk4) (by omega) hk5;clear hk3 hk4 hk5;have hk25:Kp none' w2 w5:=hk2.thenN hk35;obtain⟨o3,Ho3⟩:∃q,Hid (lab (lab o2 w2.heap.size 0) w3.heap.size 9=q):=⟨_,rfl⟩;have hs23:w2.heap.size<=w3.heap.size:=hk2.size;have ho3:∀k,k<w2.heap.size->o3 k=o2 k:=fun k h=>by rw[<-Ho3.out,Ad (by omega),Ad h]
  have ho0:∀k,w2.heap.size<=k->k<w3.heap.size->o3 k=0:=fun k h h'=>by rw[<-Ho3.out,Ad h',Ap h]
  have ho9:∀k,w3.heap.size<=k->o3 k=9:=fun k h=>by rw[<-Ho3.out,Ap h]
  have hS5:=HS2.out.none hk25 ho3;have hY5:WrIs w5 o3 ⟨s.pg,l4,a4,m4,c4,a5,m5,c5,a6,m6,c6,0,0⟩ (s.pg,n.fst):=⟨rfl,Nv.keptO (x:=⟨s.pg,l4,a4,m4,c4,a5,m5,c5,a6,m6,c6,0,0⟩) hy2 hk35 (fun _ _ h=>h),fun k e=>⟨Qd (hfy k e).2 hk35.size,ho0 k (hfy k e).1 (hfy k e).2⟩⟩
  have hZ5:WrIs w5 o3 ⟨tz,l7,a7,m7,c7,a8,m8,c8,a9,m9,c9,0,0⟩ (tz,n.snd):=⟨rfl,Nv.keptO (x:=⟨tz,l7,a7,m7,c7,a8,m8,c8,a9,m9,c9,0,0⟩) hz2 hk35 (fun _ _ h=>h),fun k e=>⟨Qd (hfz k e).2 hk35.size,ho0 k (hfz k e).1 (hfz k e).2⟩⟩;have HLT:Hid (C.take.ws.length<=90000):=by
   have e:C.take.ws=C.ws:=by unfold Cg.take;split<;>rfl
   rw[e];exact HLW.out
  have HWR:=hide (A0 b r o3 C.take wv tv2 sv2 xs ⟨s.pg,l4,a4,m4,c4,a5,m5,c5,a6,m6,c6,0,0⟩ n.fst w5 hS5.cm hY5 rfl rfl (by have:=HLT.out;omega));replace q0:=hk25.cell q0 (fun h=>h);obtain⟨g2,Hg2⟩:∃q,Hid (w3.heap.size=q):=⟨_,rfl⟩;rw[Hg2.out]at n2 n3 ho9 |-;have x0:=n2.c0;have x1:=n2.c1;have x2:=n2.c2;have x3:=n2.c3;have h29:o3 (g2+1)=9:=ho9 _ (by omega);have HS5:=hide hS5;have HZ5:=hide hZ5;clear hY5 hy2 hz2 hfy hfz HSPL n2 ho0 ho9 hs23 hk2 hk25 hk35 ho3 q1 q2 q3 q4 hgb2 hS5 hZ5 HS2 HN2
  go_upto_region 6 with (first
   | (go_at_call 130;refine HWR.out.mono ?_;rintro e w6 ⟨rfl,o6,wv6,ho6,hC6,hk6⟩)
   | fail)
  replace n3:=n3.kept hk6 (by omega);have hZ6:=HZ5.out.kept hk6 (fun k _ e1 e2=>by omega) ho6;have HS6:=hide (HS5.out.write hC6 hk6 ho6);replace HWR:=hide (A0 b r o6 (C.take.write s.pg n.fst) wv6 tv2 sv2 _ ⟨tz,l7,a7,m7,c7,a8,m8,c8,a9,m9,c9,0,0⟩ n.snd w6 hC6 hZ6 rfl rfl (by have:=HLT.out;show (C.take.ws++_).length<=_;simp;omega));replace x0:=n3.c0;replace x1:=n3.c1;replace x2:=n3.c2;replace x3:=n3.c3;clear hC6 hZ6 HZ5 n3 q0 hk6 ho6 h29 hog2 HS5;go_upto_region 7 with (first
   | (go_at_call 130;refine HWR.out.mono ?_;rintro e w7 ⟨rfl,o7,wv7,ho7,hC7,hk7⟩)
   | fail)
  have HS7:=hide (HS6.out.write hC7 hk7 ho7);clear HS6 HWR hC7 hk7 ho7 x0 x1 x2 x3;obtain⟨xs7,HS7x⟩:∃xs7,Hid (SpSt b r c (mm+2) g m cap i rb base o V2 ((C.take.write s.pg n.fst).write tz n.snd) wv7 tv2 sv2 xs7 xa x nab C.take.S w w7 o7):=⟨_,HS7⟩;clear HS7
  go_cut [48] from 36 to 51 (fun t W=>∃o9 x9,SpSt b r c (mm+2) g m cap i rb base o V2 ((C.take.write s.pg n.fst).write tz n.snd) wv7 tv2 sv2 xs7 (xa.set i x9) x9 { nab with ks:=insAt nab.ks kid n.mid } C.take.S w W o9/\(x9.pg=x.pg/\x9.kid=x.kid/\x9.was=x.was)/\x9.a3=x.a3/\x9.n3=x.n3/\x9.c3=x.c3)
  case first =>
   have hA7:=HS7x.out.ab;have hb7:base<=w7.heap.size:=Nat.le_trans HB.out HS7x.out.kp.size;have lk7:nab.ks.length=x.n2:=hA7.nd.k.open.elim fun _ h=>h.elim fun _ h=>by have:=h.1;simp only[SpV.k,Value.slice.injEq]at this;omega
   have kK:w7.cell? ⟨g,i*7+1+2,none⟩=some (.slice x.a2 x.n2 x.c2):=(row_step hA7.row i hA7.hi 3 _ (by rw[hA7.hx];rfl)).1;have kI:w7.cell? ⟨g,i*7+5,none⟩=some (.int .i64 (kid:Int)):=(row_step hA7.row i hA7.hi 5 _ (by rw[hA7.hx,<-HKID.out];rfl)).1;have kKa:∀oo,(w7.alloc oo).cell? ⟨g,i*7+1+2,none⟩=some (.slice x.a2 x.n2 x.c2):=fun oo=>(Kp.alloc none' w7 oo).cell kK (fun h=>h);have kIa:∀oo,(w7.alloc oo).cell? ⟨g,i*7+5,none⟩=some (.int .i64 (kid:Int)):=fun oo=>(Kp.alloc none' w7 oo).cell kI (fun h=>h)
   have hkA:Kp none' w7 (w7.drew.alloc (.cells #[.string n.mid] 9)):=(Kp.drew _ _).thenN (Kp.alloc _ _ _);have HINS:=hide (Ns x.a2 x.n2 x.c2 w7.drew.heap.size kid nab.ks n.mid base (w7.drew.alloc (.cells #[.string n.mid] 9)) (hA7.nd.k.kept hkA (fun _ _ h=>h)) lk7 (by have:=HK1.out;omega) (by intro h;exact HTK.out (by omega)) (Nat.le_trans hb7 hkA.size) (by have:=HN6.out;omega) (Am w7.drew #[.string n.mid] 9 0 _ rfl));have HS7d:=hide (HS7x.out.none (o':=o7) hkA (fun _ _=>rfl))
   have HWK:=hide hA7.nd.wf.k;clear hA7 hb7 lk7 hkA;go_region_law (first
    | (go_simp;go_at_call 153;refine HINS.out.mono ?_;rintro e w8 ⟨b2,d2,rfl,hO8,hk8,hown8⟩;obtain⟨y8,f8,hA9,hk9⟩:=HS7d.out.ab.putK hk8 b2 (x.n2+1) d2 _ hO8 hown8 (fun t ht=>by rcases Gl ht with e|e;exact HWK.out t e;rw[e];exact HMID.out))
    | fail)
   all_goals (
    go_wp2;go_meet
    case rel=>exact⟨_,_,HS7d.out.put hA9 hk9 (fun k hk=>Ad hk),⟨rfl,rfl,rfl⟩,rfl,rfl,rfl⟩)
  case rest =>
   obtain⟨o9,x9,hS9,hf9,e91,e92,e93⟩:=hcut;have hA9:=hS9.ab;have hb9:base<=wc.heap.size:=Nat.le_trans HB.out hS9.kp.size;have ld9:nab.kd.length=x9.n3:=hA9.nd.d.open.elim fun _ h=>h.elim fun _ h=>by have:=h.1;simp only[SpV.d,Value.slice.injEq]at this;omega
   have hxi:(xa.set i x9)[i]'hA9.hi=x9:=hA9.hx;have kK:wc.cell? ⟨g,i*7+1+3,none⟩=some (.slice x9.a3 x9.n3 x9.c3):=(row_step hA9.row i hA9.hi 4 _ (by rw[hxi];rfl)).1;have kI:wc.cell? ⟨g,i*7+5,none⟩=some (.int .i64 (kid:Int)):=(row_step hA9.row i hA9.hi 5 _ (by rw[hxi,<-HKID.out,<-hf9.2.1];rfl)).1;have kKa:∀oo,(wc.alloc oo).cell? ⟨g,i*7+1+3,none⟩=some (.slice x9.a3 x9.n3 x9.c3):=fun oo=>(Kp.alloc none' wc oo).cell kK (fun h=>h)
   have kIa:∀oo,(wc.alloc oo).cell? ⟨g,i*7+5,none⟩=some (.int .i64 (kid:Int)):=fun oo=>(Kp.alloc none' wc oo).cell kI (fun h=>h);have hkA:Kp none' wc (wc.drew.alloc (.cells #[.int .i64 tz] 3)):=(Kp.drew _ _).thenN (Kp.alloc _ _ _)
   have HINS:=hide (Np x9.a3 x9.n3 x9.c3 wc.drew.heap.size (kid+1) nab.kd tz base (wc.drew.alloc (.cells #[.int .i64 tz] 3)) (hA9.nd.d.kept hkA (fun _ _ h=>h)) ld9 (by have:=HK2.out;omega) (by intro h;have:=HTD.out (by omega);omega) (Nat.le_trans hb9 hkA.size) (by have:=HN7.out;omega) (Am wc.drew #[.int .i64 tz] 3 0 _ rfl));obtain⟨k1,Hk1⟩:∃q,Hid (kid+1=q):=⟨_,rfl⟩;have hkw:IntKind.i64.wrap ((kid:Int)+1)=(k1:Int):=by rw[<-Hk1.out,IntKind.wrap_i64];have:=HK2.out;have:=HN7.out;omega
   rw[Hk1.out]at HINS HE2;have HS9d:=hide (hS9.none (o':=o9) hkA (fun _ _=>rfl));have HWK:=hide hA9.nd.wf.d;have HF9:=hide hf9;clear hA9 hb9 ld9 hkA hS9 hxi e91 e92 e93 hf9;go_upto_region 8 with fail;go_region_law (first
    | (go_simp;go_at_call 154;refine HINS.out.mono ?_;rintro e w8 ⟨b2,d2,rfl,hO8,hk8,hown8⟩;obtain⟨y8,f8,hA10,hk10⟩:=HS9d.out.ab.putD hk8 b2 (x9.n3+1) d2 _ hO8 hown8 (fun t ht=>by rcases Gl ht with e|e;exact HWK.out t e;rw[e];exact HZ.out))
    | fail)
   all_goals (
    go_wp2;go_ret;have hS11:=HS9d.out.put hA10 hk10 (fun k hk=>Ad hk);rw[List.set_set]at hS11;rw[HE1.out,HE2.out];exact⟨by rw[Hte.out,H0.out];rfl,_,_,_,_,_,_,_,hS11,HF9.out⟩)
 ·have hg0:(C.takeZ.2 != 0)=true:=by rw[bne_iff_ne];exact h0
  have HE1:Hid (C.split s.pg n=C.take):=by show _=_;unfold Cg.split;rw[if_neg h0]
  have HE2:Hid (C.splitAb kid n nab=nab):=by show _=_;unfold Cg.splitAb;rw[if_neg h0]
  clear h0;obtain⟨tz,Htz⟩:∃q,Hid (C.takeZ.1=q):=⟨_,rfl⟩;obtain⟨te,Hte⟩:∃q,Hid (C.takeZ.2=q):=⟨_,rfl⟩;rw[Htz.out]at HZ |-;rw[Hte.out]at hg0 |-;go_wp2;go_ret;have hx:xa.set i x=xa:=by rw[<-HS2.out.ab.hx];exact List.set_getElem_self HS2.out.ab.hi
  rw[HE1.out,HE2.out];exact⟨by rw[Hte.out];rfl,o2,V2,wv,tv2,sv2,xs,x,by rw[hx];exact HS2.out,rfl,rfl,rfl⟩
theorem Cm.relabel{w:World}{b r:Nat}{o o':Nat->Nat}{C:Cg}{wv tv sv:Value}{xs:List SpV}(h:Cm w b r o C wv tv sv xs)(ho:∀k,o k<=4->o' k=o k):Cm w b r o' C wv tv sv xs :=
 ⟨h.hd,by rw[ho b (by rw[h.ob];omega)];exact h.ob,h.ws,fun k e=>by rw[ho k (by rw[h.wo k e];omega)];exact h.wo k e,h.wl,fun i a c=>⟨(h.wi i a c).pg,(h.wi i a c).nd,fun k e=>⟨((h.wi i a c).ow k e).1,by have:=((h.wi i a c).ow k e).2;rw[ho k (by omega)];exact this⟩⟩,h.tk,fun k e=>by rw[ho k (by rw[h.to' k e];omega)];exact h.to' k e,h.sp,fun k e=>by rw[ho k (by rw[h.so k e];omega)];exact h.so k e⟩
def rootX(g:Nat)(pg:Int):SpV:=⟨pg,false,none,0,0,none,0,0,some ⟨g,0,none⟩,1,1,0,0⟩
theorem Oi(W:World)(o:Nat->Nat)(pg z:Int)(hz:-9223372036854775808<=z/\z<9223372036854775808):AbS ((W.alloc (.cells #[.int .i64 z] 3)).alloc (.cells #[.int .i64 pg,.bool false,.slice none 0 0,.slice none 0 0,.slice (some ⟨W.heap.size,0,none⟩) 1 1,.int .i64 0,.int .i64 0] 85)) (lab o W.heap.size 6) (W.heap.size+1) 1 1 0 0 0 [rootX W.heap.size pg] (rootX W.heap.size pg) ⟨false,[],[],[z]⟩/\Kp none' W ((W.alloc (.cells #[.int .i64 z] 3)).alloc (.cells #[.int .i64 pg,.bool false,.slice none 0 0,.slice none 0 0,.slice (some ⟨W.heap.size,0,none⟩) 1 1,.int .i64 0,.int .i64 0] 85)):=by
 have hk:Kp none' W ((W.alloc (.cells #[.int .i64 z] 3)).alloc (.cells #[.int .i64 pg,.bool false,.slice none 0 0,.slice none 0 0,.slice (some ⟨W.heap.size,0,none⟩) 1 1,.int .i64 0,.int .i64 0] 85)):=(Kp.alloc _ _ _).thenN (Kp.alloc _ _ _);have e1:(W.alloc (.cells #[.int .i64 z] 3)).heap.size=W.heap.size+1:=by simp
 have h1:((W.alloc (.cells #[.int .i64 z] 3)).alloc (.cells #[.int .i64 pg,.bool false,.slice none 0 0,.slice none 0 0,.slice (some ⟨W.heap.size,0,none⟩) 1 1,.int .i64 0,.int .i64 0] 85)).heap[W.heap.size+1]?=some (.cells #[.int .i64 pg,.bool false,.slice none 0 0,.slice none 0 0,.slice (some ⟨W.heap.size,0,none⟩) 1 1,.int .i64 0,.int .i64 0] 85 (0,0)):=by
  rw[<-e1];exact heap_alloc_new _ _
 have h2:((W.alloc (.cells #[.int .i64 z] 3)).alloc (.cells #[.int .i64 pg,.bool false,.slice none 0 0,.slice none 0 0,.slice (some ⟨W.heap.size,0,none⟩) 1 1,.int .i64 0,.int .i64 0] 85)).heap[W.heap.size]?=some (.cells #[.int .i64 z] 3 (0,0)):=by
  rw[(Kp.alloc none' (W.alloc (.cells #[.int .i64 z] 3)) _).block W.heap.size (by omega) (fun h=>h)];exact heap_alloc_new _ _
 have hm:1<=maxLen:=by unfold maxLen;omega
 have ob:∀k,(rootX W.heap.size pg).own k->k=W.heap.size:=by
  rintro k (e|e|e)
  ·cases e
  ·cases e
  ·exact(Option.some.inj e).symm
 refine⟨⟨⟨by simp[stcs,SpV.cells],.inr ⟨W.heap.size+1,1,_,rfl,Nat.zero_le _,h1,Nat.le_refl _,hm,rfl,rfl⟩⟩,by simp,rfl,⟨rfl,OwP.nil _ _,Ow.nil _ _ _ _,⟨by simp,.inr ⟨W.heap.size,1,_,rfl,Nat.zero_le _,h2,Nat.le_refl _,hm,rfl,rfl⟩⟩,⟨by simp,by simp,by simpa using hz⟩⟩,fun e=>by have:=ob _ e;omega,fun k e=>(by cases e),fun k e=>(by cases e),fun k e=>(by cases e),Ap (by omega),fun k e=>Ap (by have:=ob k e;omega)⟩,hk⟩
def B7(b r c mm:Nat)(o:Nat->Nat)(C':Cg)(w w':World):Prop:=∃(o':Nat->Nat) (V':Nat->Prop) (wv' tv' sv':Value) (xs':List SpV),Cm w' b r o' C' wv' tv' sv' xs'/\Wk w' r V' c (mm+4) C'.S/\(∀k,V' k->o' k=5/\k<w'.heap.size)/\Kp (fun k=>1<=o k/\o k<=6) w w'/\(∀k,V' k->k<w.heap.size->o k=5)
theorem Cg.take_len(C:Cg):C.take.ws=C.ws/\C.take.tk.length<=C.tk.length+1/\C.take.sp.length<=C.sp.length:=by
 unfold Cg.take;split
 ·refine⟨rfl,?_,Nat.le_refl _⟩;show (if C.S.takeE.2=0 then C.tk++[C.S.takeE.1] else C.tk).length<=_;split
  ·simp
  ·omega
 ·refine⟨rfl,by show C.tk.length<=_;omega,?_⟩;show (C.sp.take _).length<=_;rw[List.length_take];omega
set_option maxRecDepth 100000 in
theorem Mj(b r c mm:Nat)(o:Nat->Nat)(V:Nat->Prop)(C:Cg)(wv tv sv:Value)(xs:List SpV)(s:SpV)(n:Nd)(w:World)(hC:Cm w b r o C wv tv sv xs)(hWk:Wk w r V c mm C.S)(hV:∀k,V k->o k=5/\k<w.heap.size)(hm:mm<=4000)(ht:C.tk.length<=80000)(hs:C.sp.length<=80000)(hl:C.ws.length<=80000)
  (hN:Nv w.heap.size w s.node n) (hso:∀k,s.own k->k<w.heap.size/\(o k=0\/6<=o k)) (hz:-9223372036854775808<=C.take.takeZ.1/\C.take.takeZ.1<9223372036854775808) (hpg:-9223372036854775808<=s.pg/\s.pg<9223372036854775808)
  (hp:n.ps.length<=1048576) (hk:n.ks.length<=1048576) (hd:n.kd.length<=1048576) (hsz:n.size<=4194304) :
  Calls prog 131 #[.pointer (some ⟨b,0,none⟩),.agg #[.int .i64 s.pg,.bool s.l,.slice s.a1 s.n1 s.c1,.slice s.a2 s.n2 s.c2,.slice s.a3 s.n3 s.c3,.int .i64 s.kid,.int .i64 s.was]] w fun e w'=>e=.returned (.tuple #[.int .i64 C.raiseZ.1,.int .i64 C.raiseZ.2])/\B7 b r c mm o (C.raise s.pg n) w w':=by
 have hKA:Kp none' w (w.alloc (.cells #[.int .i64 s.pg,.bool s.l,.slice s.a1 s.n1 s.c1,.slice s.a2 s.n2 s.c2,.slice s.a3 s.n3 s.c3,.int .i64 s.kid,.int .i64 s.was] 85)):=Kp.alloc _ _ _;have cell:=Am w #[.int .i64 s.pg,.bool s.l,.slice s.a1 s.n1 s.c1,.slice s.a2 s.n2 s.c2,.slice s.a3 s.n3 s.c3,.int .i64 s.kid,.int .i64 s.was] 85;have q0:=cell 0 _ rfl;have q1:=cell 1 _ rfl;have q2:=cell 2 _ rfl;have q3:=cell 3 _ rfl;have q4:=cell 4 _ rfl;have q5:=cell 5 _ rfl;have q6:=cell 6 _ rfl
 have hold:∀k,k<w.heap.size->lab o w.heap.size 9 k=o k:=fun k hk=>Ad hk;have hog:lab o w.heap.size 9 w.heap.size=9:=Ap (Nat.le_refl _);have hwk1:=hWk.keptN hKA;have hv1:∀k,V k->lab o w.heap.size 9 k=5/\k<(w.alloc (.cells #[.int .i64 s.pg,.bool s.l,.slice s.a1 s.n1 s.c1,.slice s.a2 s.n2 s.c2,.slice s.a3 s.n3 s.c3,.int .i64 s.kid,.int .i64 s.was] 85)).heap.size:=fun k e=>⟨by rw[hold k (hV k e).2];exact(hV k e).1,Qd (hV k e).2 hKA.size⟩
 have hc1:=hC.kept (o':=lab o w.heap.size 9) hKA (fun _ _ _ h=>h) hold;have HN1:=hide (hN.keptO hKA (fun _ _ h=>h));have HTAKE:=hide (Ed b r c mm _ V C wv tv sv xs _ hc1 hwk1 hv1 (by omega) (by omega) (by omega));have HSO:Hid (∀k,s.own k->k<w.heap.size/\(lab o w.heap.size 9 k=0\/6<=lab o w.heap.size 9 k)):=fun k e=>by rw[hold k (hso k e).1];exact hso k e
 have HKA:=hide hKA;have HOLD:=hide hold;have HOG:=hide hog;have HGW:=hide (lt_of_cell q0);have HM:=hide hm;have HT:=hide ht;have HS:=hide hs;have HLW:=hide hl;have HZ:=hide hz;have HPG:=hide hpg;have HP:=hide hp;have HK:=hide hk;have HD:=hide hd;have HSZ:=hide hsz;clear cell hC hN hp hk hd hsz hKA hold hog hwk1 hv1 hc1 hso hz hl hWk hV hm ht hs hpg;go_enter func131,ntmps131;go_upto_region 1 with fail
 generalize w.alloc (.cells #[.int .i64 s.pg,.bool s.l,.slice s.a1 s.n1 s.c1,.slice s.a2 s.n2 s.c2,.slice s.a3 s.n3 s.c3,.int .i64 s.kid,.int .i64 s.was] 85)=w1 at *;obtain⟨gb,Hgb⟩:∃q,Hid (w.heap.size=q):=⟨_,rfl⟩;obtain⟨o1,Ho1⟩:∃q,Hid (lab o w.heap.size 9=q):=⟨_,rfl⟩;rw[Ho1.out]at HTAKE HOLD HOG HSO;rw[Hgb.out]at q0 q1 q2 q3 q4 q5 q6 HOG |-;have hgb1:gb<w1.heap.size:=by have:=HGW.out;rw[Hgb.out]at this;exact this
 go_upto_region 2 with (first
  | (go_at_call 62;refine HTAKE.out.mono ?_;rintro e w2 ⟨rfl,o2,V2,tv2,sv2,ho2,hC2,hWk2,hV2,hk2⟩)
  | fail)
 have ngb:¬(o1 gb=1\/o1 gb=3\/o1 gb=4\/o1 gb=5):=by have:=HOG.out;omega
 replace q0:=hk2.cell q0 ngb;replace q1:=hk2.cell q1 ngb;replace q2:=hk2.cell q2 ngb;replace q3:=hk2.cell q3 ngb;replace q4:=hk2.cell q4 ngb;replace q5:=hk2.cell q5 ngb;replace q6:=hk2.cell q6 ngb;have hog2:o2 gb=9:=by rw[ho2 gb hgb1];exact HOG.out
 have hgb2:gb<w2.heap.size:=Qd hgb1 hk2.size;have HN2:Hid (Nv w2.heap.size w2 s.node n):=HN1.out.keptO hk2 (fun k e e'=>by have:=(HSO.out k e).2;omega);have HSO2:Hid (∀k,s.own k->k<w2.heap.size/\(o2 k=0\/6<=o2 k)):=fun k e=>by
  have h1:k<w1.heap.size:=Nat.lt_trans (HSO.out k e).1 HGW.out;exact⟨Qd h1 hk2.size,by rw[ho2 k h1];exact(HSO.out k e).2⟩
 have HK2:Hid (Kp (fun k=>1<=o k/\o k<=6) w w2):=HKA.out.trans hk2 (fun _ _ h=>by cases h) (fun k e e'=>by rw[HOLD.out k e]at e';omega);have HO2:Hid (∀k,k<w.heap.size->o2 k=o k):=fun k e=>by rw[ho2 k (Nat.lt_trans e HGW.out)];exact HOLD.out k e
 have HC2:=hide hC2;have HW2:=hide hWk2;have HV2:=hide hV2;clear HN1 HTAKE HOLD HOG HSO hC2 hWk2 hV2 hk2 ho2 ngb hgb1 HKA HGW;obtain⟨tl1,tl2,tl3⟩:=C.take_len;by_cases h0:C.takeZ.2=0
 ·have hg0:(C.takeZ.2 != 0)=false:=by rw[h0];rfl
  have HE1:Hid (C.raiseZ=if C.take.takeZ.2=0 then (C.takeZ.1,0) else (0,C.take.takeZ.2)):=by show _=_;unfold Cg.raiseZ;rw[if_pos h0]
  have HE2:Hid (C.raise s.pg n=if C.take.takeZ.2=0 then (C.take.split s.pg n).write C.takeZ.1 (C.take.splitAb 0 n ⟨false,[],[],[s.pg]⟩) else C.take.split s.pg n):=by show _=_;unfold Cg.raise;rw[if_pos h0]
  clear h0;obtain⟨tz,Htz⟩:∃q,Hid (C.takeZ.1=q):=⟨_,rfl⟩;obtain⟨te,Hte⟩:∃q,Hid (C.takeZ.2=q):=⟨_,rfl⟩;rw[Htz.out]at HE1 HE2 |-;rw[Hte.out]at hg0 |-;obtain⟨C1,HC1⟩:∃q,Hid (C.take=q):=⟨_,rfl⟩;rw[HC1.out]at HE1 HE2 HC2 HW2 HZ tl1 tl2 tl3;obtain⟨hA3,hk3⟩:=Oi w2 o2 tz s.pg HPG.out;have ho3:∀k,k<w2.heap.size->lab o2 w2.heap.size 6 k=o2 k:=fun k h=>Ad h
  have HSP:=hide (E5 b r c (mm+2) (w2.heap.size+1) 1 1 0 0 0 (lab o2 w2.heap.size 6) V2 C1 wv tv2 sv2 xs _ s _ n _ 0 _ (HC2.out.kept (o':=lab o2 w2.heap.size 6) hk3 (fun _ _ _ h=>h) ho3) (HW2.out.keptN hk3) (fun k e=>⟨by rw[ho3 k (HV2.out k e).2];exact(HV2.out k e).1,Qd (HV2.out k e).2 hk3.size⟩) (by have:=HM.out;omega) (by have:=HT.out;omega) (by have:=HS.out;omega) (by rw[tl1];have:=HLW.out;omega) (HN2.out.keptO hk3 (fun _ _ h=>h)) (fun k e=>⟨Qd (HSO2.out k e).1 hk3.size,by rw[ho3 k (HSO2.out k e).1];exact(HSO2.out k e).2⟩) hA3 (Nat.zero_le _) rfl (Nat.zero_le _) (Nat.le_refl _) (fun h=>by simp at h) (fun h=>by simp at h) (by simp) (by simp) HZ.out HP.out HK.out HD.out HSZ.out)
  replace q0:=q0;have k0:=hk3.cell q0 (fun h=>h);have k1:=hk3.cell q1 (fun h=>h);have k2:=hk3.cell q2 (fun h=>h);have k3:=hk3.cell q3 (fun h=>h);have k4:=hk3.cell q4 (fun h=>h);have k5:=hk3.cell q5 (fun h=>h);have k6:=hk3.cell q6 (fun h=>h);have HK3:=hide hk3;clear hA3 hk3 ho3 q1 q2 q3 q4 q5 q6;go_upto_region 6 with (first
   | (go_at_call 128;refine HSP.out.mono ?_;rintro e w5 ⟨rfl,o5,V5,wv5,tv5,sv5,xs5,x5,hS5,hf5⟩)
   | fail)
  have HK5:Hid (Kp (fun k=>1<=o k/\o k<=6) w w5):=by
   have hlt:∀k,k<w.heap.size->k<w2.heap.size:=fun k h=>Qd h HK2.out.size;exact(HK2.out.thenN HK3.out).trans hS5.kp (fun _ _ h=>h) (fun k h e=>by rw[Ad (hlt k h),HO2.out k h]at e;exact e)
  have HVO5:Hid (∀k,V5 k->k<w.heap.size->o k=5):=fun k e h=>by
   have h2:k<w2.heap.size:=Qd h HK2.out.size;have h3:=(hS5.hv k e).1;rw[hS5.old k (Qd h2 HK3.out.size),Ad h2,HO2.out k h]at h3;exact h3
  by_cases h1:C1.takeZ.2=0
  ·have hg1:(C1.takeZ.2 != 0)=false:=by rw[h1];rfl
   rw[if_pos h1]at HE1 HE2;have HL5:Hid ((C1.split s.pg n).ws.length<=100000):=by
    have:=HLW.out;obtain⟨t1,_,_⟩:=C1.take_len;show _<=_;unfold Cg.split;rw[if_pos h1];show ((C1.take.ws++[_])++[_]).length<=_;rw[t1,tl1];simp;omega
   clear h1;obtain⟨te1,Hte1⟩:∃q,Hid (C1.takeZ.2=q):=⟨_,rfl⟩;rw[Hte1.out]at hg1 |-;obtain⟨C2,HC2'⟩:∃q,Hid (C1.split s.pg n=q):=⟨_,rfl⟩;obtain⟨n2,Hn2⟩:∃q,Hid (C1.splitAb 0 n ⟨false,[],[],[s.pg]⟩=q):=⟨_,rfl⟩;rw[HC2'.out]at hS5 HE2 HL5;rw[Hn2.out]at hS5 HE2;have hA5:=hS5.ab;have e0:x5.pg=tz:=hf5.1;have e1:x5.kid=0:=hf5.2.1;have e2:x5.was=0:=hf5.2.2;obtain⟨g,Hg⟩:∃q,Hid (w2.heap.size+1=q):=⟨_,rfl⟩;rw[Hg.out]at hA5 |-
   have r0:w5.cell? ⟨g,0,none⟩=some (.int .i64 x5.pg):=(row_step hA5.row 0 hA5.hi 0 _ (by rw[hA5.hx];rfl)).1;have r1:w5.cell? ⟨g,1,none⟩=some (.bool x5.l):=(row_step hA5.row 0 hA5.hi 1 _ (by rw[hA5.hx];rfl)).1;have r2:w5.cell? ⟨g,1+1,none⟩=some (.slice x5.a1 x5.n1 x5.c1):=(row_step hA5.row 0 hA5.hi 2 _ (by rw[hA5.hx];rfl)).1;have r3:w5.cell? ⟨g,1+2,none⟩=some (.slice x5.a2 x5.n2 x5.c2):=(row_step hA5.row 0 hA5.hi 3 _ (by rw[hA5.hx];rfl)).1
   have r4:w5.cell? ⟨g,1+3,none⟩=some (.slice x5.a3 x5.n3 x5.c3):=(row_step hA5.row 0 hA5.hi 4 _ (by rw[hA5.hx];rfl)).1;have hex:∃o6:Nat->Nat,(∀k,x5.own k->o6 k=0)/\(∀k,¬x5.own k->o6 k=o5 k):=by
    classical
    exact⟨fun k=>if x5.own k then 0 else o5 k,fun k h=>if_pos h,fun k h=>if_neg h⟩
   obtain⟨o6,h60,h61⟩:=hex;have h65:∀k,o5 k≠6->o6 k=o5 k:=fun k h=>h61 k (fun e=>h (hA5.ox k e));have hC6:=hS5.cm.relabel (o':=o6) (fun k h=>h65 k (by omega));have hY6:WrIs w5 o6 x5 (x5.pg,n2):=⟨rfl,hA5.nd.nv,fun k e=>⟨hA5.ltx k e,h60 k e⟩⟩;have HWR:=hide (A0 b r o6 C2 wv5 tv5 sv5 xs5 x5 n2 w5 hC6 hY6 e1 e2 HL5.out);have HG6:Hid (o6 g=6/\g<w5.heap.size):=⟨by rw[h61 g hA5.hg];exact hA5.og,hA5.lt⟩;have HW5:=hide hS5.wk
   have HV5:Hid (∀k,V5 k->o6 k=5/\k<w5.heap.size):=fun k e=>⟨by rw[h65 k (by have:=(hS5.hv k e).1;omega)];exact(hS5.hv k e).1,(hS5.hv k e).2⟩;have HL6:Hid (∀k,k<w.heap.size->(o6 k=1\/o6 k=2)->1<=o k/\o k<=6):=fun k h e=>by
    have hlt:k<w2.heap.size:=Qd h HK2.out.size;have hn:¬x5.own k:=fun e'=>by have:=h60 k e';omega
    have h5:=hS5.old k (Qd hlt HK3.out.size);rw[Ad hlt,HO2.out k h]at h5;rw[h61 k hn,h5]at e;omega
   have E0:=hide e0;clear hA5 hS5 hC6 hY6 h60 h61 h65 hf5 e0 e1 e2 k0 k1 k2 k3 k4 k5 k6 HSP;go_wp2_with (first
    | (go_at_call 130;refine HWR.out.mono ?_;rintro e w6 ⟨rfl,o7,wv7,ho7,hC7,hk7⟩;replace r0:=hk7.cell r0 (by have:=HG6.out.1;omega))
    | fail)
   go_ret2;rw[HE1.out,HE2.out];refine⟨by rw[E0.out];rfl,o7,V5,wv7,tv5,sv5,_,by rw[<-E0.out];exact hC7,HW5.out.kept hk7 (fun k _ e e'=>by have:=(HV5.out k e).1;omega),fun k e=>⟨by rw[ho7 k (HV5.out k e).2];exact(HV5.out k e).1,Qd (HV5.out k e).2 hk7.size⟩,HK5.out.trans hk7 (fun _ _ h=>h) HL6.out,HVO5.out⟩
  ·have hg1:(C1.takeZ.2 != 0)=true:=by rw[bne_iff_ne];exact h1
   rw[if_neg h1]at HE1 HE2;clear h1;obtain⟨te1,Hte1⟩:∃q,Hid (C1.takeZ.2=q):=⟨_,rfl⟩;rw[Hte1.out]at hg1 HE1 |-;have HS5:=hide hS5;clear hS5;go_wp2;go_ret2;rw[HE1.out,HE2.out];exact⟨rfl,o5,V5,wv5,tv5,sv5,xs5,HS5.out.cm,HS5.out.wk,HS5.out.hv,HK5.out,HVO5.out⟩
 ·have hg0:(C.takeZ.2 != 0)=true:=by rw[bne_iff_ne];exact h0
  have HE1:Hid (C.raiseZ=(0,C.takeZ.2)):=by show _=_;unfold Cg.raiseZ;rw[if_neg h0]
  have HE2:Hid (C.raise s.pg n=C.take):=by show _=_;unfold Cg.raise;rw[if_neg h0]
  clear h0;obtain⟨tz,Htz⟩:∃q,Hid (C.takeZ.1=q):=⟨_,rfl⟩;obtain⟨te,Hte⟩:∃q,Hid (C.takeZ.2=q):=⟨_,rfl⟩;rw[Htz.out];rw[Hte.out]at hg0 HE1 |-;go_wp2;go_ret2;rw[HE1.out,HE2.out];exact⟨rfl,o2,V2,wv,tv2,sv2,xs,HC2.out,HW2.out.mono (fun _ _ h=>h) (by omega),HV2.out,HK2.out,fun k e h=>by rw[<-HO2.out k h];exact(HV2.out k e).1⟩
theorem Nv.kid0{B:Nat}{w:World}{x:SpV}{n:Nd}(h:Nv B w x.node n)(h1:n.kd.length=1):∃bd off,x.a3=some ⟨bd,off,none⟩/\x.n3=1/\w.cell? ⟨bd,off,none⟩=some (.int .i64 (n.kd.getD 0 0)):=by
 obtain⟨⟨pv,kv,dv,e0,hP,hK,hD⟩,_⟩:=h;have e':.slice x.a3 x.n3 x.c3=dv:=by
  unfold SpV.node at e0;simp only[Value.agg.injEq,Array.mk.injEq,List.cons.injEq,Value.bool.injEq]at e0;exact e0.2.2.2.1
 obtain⟨a,c,e2,_,_,h3⟩:=hD;obtain⟨bd,off,e3,_,h4⟩:=h3 0 (by omega);rw[e2]at e';simp only[Value.slice.injEq]at e';refine⟨bd,off,by rw[e'.1,e3],by omega,?_⟩;have e5:n.kd.getD 0 0=n.kd[0]:=by rw[List.getD_eq_getElem?_getD,List.getElem?_eq_getElem (by omega)];rfl
 rw[e5];exact h4
theorem Nv.kidN{B:Nat}{w:World}{x:SpV}{n:Nd}(h:Nv B w x.node n):x.n3=n.kd.length:=by
 obtain⟨⟨pv,kv,dv,e0,hP,hK,hD⟩,_⟩:=h;have e':.slice x.a3 x.n3 x.c3=dv:=by
  unfold SpV.node at e0;simp only[Value.agg.injEq,Array.mk.injEq,List.cons.injEq,Value.bool.injEq]at e0;exact e0.2.2.2.1
 obtain⟨a,c,e2,_⟩:=hD;rw[e2]at e';simp only[Value.slice.injEq]at e';exact e'.2.1
set_option maxRecDepth 100000 in
theorem FK(b r c mm:Nat)(o:Nat->Nat)(V:Nat->Prop)(C:Cg)(wv tv sv:Value)(xs:List SpV)(s:SpV)(n:Nd)(w:World)(hC:Cm w b r o C wv tv sv xs)(hWk:Wk w r V c mm C.S)(hV:∀k,V k->o k=5/\k<w.heap.size)(hm:mm<=4000)(ht:C.tk.length<=80000)(hs:C.sp.length<=80000)(hl:C.ws.length<=80000)
  (hN:Nv w.heap.size w s.node n) (hso:∀k,s.own k->k<w.heap.size/\(o k=0\/6<=o k)) (hz:-9223372036854775808<=C.take.takeZ.1/\C.take.takeZ.1<9223372036854775808) (hpg:-9223372036854775808<=s.pg/\s.pg<9223372036854775808)
  (hp:n.ps.length<=1048576) (hk:n.ks.length<=1048576) (hd:n.kd.length<=1048576) (hsz:n.size<=4194304) :
  Calls prog 95 #[.pointer (some ⟨b,0,none⟩),.agg #[.int .i64 s.pg,.bool s.l,.slice s.a1 s.n1 s.c1,.slice s.a2 s.n2 s.c2,.slice s.a3 s.n3 s.c3,.int .i64 s.kid,.int .i64 s.was]] w fun e w'=>e=.returned (.tuple #[.int .i64 (C.rootZ s.pg n).1,.int .i64 (C.rootZ s.pg n).2])/\B7 b r c mm o (C.root s.pg n) w w':=by
 have hn3:=hN.kidN;obtain⟨S,HSs⟩:∃q:SpV,Hid (s=q):=⟨_,rfl⟩;obtain⟨pg,l,a1,n1,c1,a2,n2,c2,a3,n3,c3,kid,was⟩:=s;rw[HSs.out]at hN hso;have hKA:Kp none' w (w.alloc (.cells #[.int .i64 pg,.bool l,.slice a1 n1 c1,.slice a2 n2 c2,.slice a3 n3 c3,.int .i64 kid,.int .i64 was] 85)):=Kp.alloc _ _ _;have cell:=Am w #[.int .i64 pg,.bool l,.slice a1 n1 c1,.slice a2 n2 c2,.slice a3 n3 c3,.int .i64 kid,.int .i64 was] 85;have q0:=cell 0 _ rfl;have q1:=cell 1 _ rfl;have q2:=cell 2 _ rfl;have q3:=cell 3 _ rfl
 have q4:=cell 4 _ rfl;have q5:=cell 5 _ rfl;have q6:=cell 6 _ rfl;have hold:∀k,k<w.heap.size->lab o w.heap.size 9 k=o k:=fun k hk=>Ad hk;have HW1:=hide (hWk.keptN hKA);have HV1:Hid (∀k,V k->lab o w.heap.size 9 k=5/\k<(w.alloc (.cells #[.int .i64 pg,.bool l,.slice a1 n1 c1,.slice a2 n2 c2,.slice a3 n3 c3,.int .i64 kid,.int .i64 was] 85)).heap.size):=fun k e=>⟨by rw[hold k (hV k e).2];exact(hV k e).1,Qd (hV k e).2 hKA.size⟩
 have HC1:=hide (hC.kept (o':=lab o w.heap.size 9) hKA (fun _ _ _ h=>h) hold);have HN1:=hide (hN.keptO hKA (fun _ _ h=>h));have HSO:Hid (∀k,S.own k->k<w.heap.size/\(lab o w.heap.size 9 k=0\/6<=lab o w.heap.size 9 k)):=fun k e=>by rw[hold k (hso k e).1];exact hso k e
 have HWO:=hide (EE S.node n _ _ (hN.keptO hKA (fun _ _ h=>h)));rw[<-HSs.out]at HWO;unfold SpV.node at HWO;have HOG:Hid (lab o w.heap.size 9 w.heap.size=9):=Ap (Nat.le_refl _);have HKA:=hide hKA;have HO1:=hide hold;have HGW:=hide (lt_of_cell q0);have HM:=hide hm;have HT:=hide ht;have HS:=hide hs;have HLW:=hide hl;have HZ:=hide hz;have HPG:=hide hpg;have HP:=hide hp;have HK:=hide hk;have HD:=hide hd;have HSZ:=hide hsz;have HN3:=hide hn3
 have HV0:Hid (∀k,V k->o k=5):=fun k e=>(hV k e).1;clear cell hC hN hp hk hd hsz hKA hold hso hz hl hWk hV hm ht hs hpg hn3;go_enter func95,ntmps95;go_upto_region 1 with fail;generalize w.alloc (.cells #[.int .i64 pg,.bool l,.slice a1 n1 c1,.slice a2 n2 c2,.slice a3 n3 c3,.int .i64 kid,.int .i64 was] 85)=w1 at *;obtain⟨gb,Hgb⟩:∃q,Hid (w.heap.size=q):=⟨_,rfl⟩;obtain⟨o1,Ho1⟩:∃q,Hid (lab o w.heap.size 9=q):=⟨_,rfl⟩;rw[Ho1.out]at HC1 HO1 HV1 HSO HOG;rw[Hgb.out]at HOG q0 q1 q2 q3 q4 q5 q6 |-
 have p2:w1.cell? ⟨gb,1+1,none⟩=some (.slice a1 n1 c1):=q2;have p3:w1.cell? ⟨gb,1+2,none⟩=some (.slice a2 n2 c2):=q3;have p4:w1.cell? ⟨gb,1+3,none⟩=some (.slice a3 n3 c3):=q4;obtain⟨wo,Hwo⟩:∃q,Hid (n.without=q):=⟨_,rfl⟩;rw[Hwo.out]at HWO;go_upto_if 6 with (first
  | (go_at_call 126;refine HWO.out.mono ?_;rintro e w2 ⟨rfl,hk2⟩)
  | fail)
 replace q0:=hk2.cell q0 (fun h=>h);replace q1:=hk2.cell q1 (fun h=>h);replace q2:=hk2.cell q2 (fun h=>h);replace q3:=hk2.cell q3 (fun h=>h);replace q4:=hk2.cell q4 (fun h=>h);replace q5:=hk2.cell q5 (fun h=>h);replace q6:=hk2.cell q6 (fun h=>h);replace p2:=hk2.cell p2 (fun h=>h);replace p3:=hk2.cell p3 (fun h=>h);replace p4:=hk2.cell p4 (fun h=>h);have HC2:=hide (HC1.out.kept (o':=o1) hk2 (fun _ _ _ h=>h) (fun _ _=>rfl));have HW2:=hide (HW1.out.keptN hk2)
 have HV2:Hid (∀k,V k->o1 k=5/\k<w2.heap.size):=fun k e=>⟨(HV1.out k e).1,Qd (HV1.out k e).2 hk2.size⟩;have HN2:=hide (HN1.out.keptO hk2 (fun _ _ h=>h));have HSG:Hid (¬S.own gb):=fun e=>by have:=(HSO.out gb e).1;have:=Hgb.out;omega
 have HSO2:Hid (∀k,S.own k->k<w2.heap.size/\(o1 k=0\/6<=o1 k)):=fun k e=>⟨Qd (Nat.lt_trans (HSO.out k e).1 HGW.out) hk2.size,(HSO.out k e).2⟩;have HK2:Hid (Kp (fun k=>1<=o k/\o k<=6) w w2):=(HKA.out.thenN hk2).mono (fun _ _ h=>by cases h);clear HC1 HW1 HV1 HN1 HSO hk2 HKA HWO HGW;cases wo with
 | true =>
  have HE1:Hid (C.rootZ pg n=(0,0)):=by show _=_;unfold Cg.rootZ;rw[if_pos Hwo.out]
  have HE2:Hid (C.root pg n={ C with sp:=C.sp++[pg] }):=by show _=_;unfold Cg.root;rw[if_pos Hwo.out]
  have dr:Kp none' w2 w2.drew:=Kp.drew _ _;have hCd:=HC2.out.kept (o':=o1) dr (fun _ _ _ h=>h) (fun _ _=>rfl);obtain⟨aq,nq,cq,a4,n4,c4,w4,esv,y4,hq,y4',f4,hC5,hk5⟩:=Cm.appSp pg hCd (by have:=HS.out;omega);have q0d:w2.drew.cell? ⟨gb,0,none⟩=some (.int .i64 pg):=q0;have q0a:∀oo,(w2.alloc oo).cell? ⟨gb,0,none⟩=some (.int .i64 pg):=fun oo=>(Kp.alloc none' w2 oo).cell q0 (fun h=>h);have y4n:w2.cell? ⟨b,4,none⟩=some (.slice aq nq cq):=y4
  have y4a:∀oo,(w2.alloc oo).cell? ⟨b,4,none⟩=some (.slice aq nq cq):=fun oo=>(Kp.alloc none' w2 oo).cell y4n (fun h=>h);have HEND:Hid (B7 b r c mm o { C with sp:=C.sp++[pg] } w (w4.setCell ⟨b,4,none⟩ (.slice a4 n4 c4))):=by
   refine⟨_,V,_,_,_,_,hC5,((HW2.out.keptN dr).kept hk5 (fun k _ e e'=>by have:=(HV2.out k e).1;omega)).mono (fun _ _ h=>h) (by omega),fun k e=>⟨by rw[Ad (show k<w2.drew.heap.size from (HV2.out k e).2)];exact(HV2.out k e).1,Qd (HV2.out k e).2 hk5.size⟩,(HK2.out.thenN dr).trans hk5 (fun _ _ h=>h) (fun k e e'=>by rw[HO1.out k e]at e';omega),fun k e _=>HV0.out k e⟩
  clear hCd hC5 hk5 esv y4 dr q1 q2 q3 q4 q5 q6 p2 p3 p4;go_upto_region 2 with fail;go_region_law (first
   | (refine A9 (by rfl) (.tmp 14) (.tmp 17) 33 33 (by rfl) _ _ (by rfl) (by rfl) hq ?_)
   | fail)
  all_goals (
   go_wp2;go_ret2;rw[HE1.out,HE2.out];exact⟨rfl,HEND.out⟩)
 | false =>
  have hwf:¬(n.without=true):=by rw[Hwo.out];simp
  by_cases h1:n3=1
  ·have hk1:n.kd.length=1:=by have:n3=n.kd.length:=HN3.out;omega
   have HE1:Hid (C.rootZ pg n=(n.kd.getD 0 0,0)):=by show _=_;unfold Cg.rootZ;rw[if_neg hwf,if_pos hk1]
   have HE2:Hid (C.root pg n={ C with sp:=C.sp++[pg] }):=by show _=_;unfold Cg.root;rw[if_neg hwf,if_pos hk1]
   obtain⟨bd,off,ea,_,kc⟩:=HN2.out.kid0 hk1;have hbd:S.own bd:=.inr (.inr (by unfold SpV.d;rw[ea];rfl));rw[<-HSs.out]at ea;have ea':a3=some ⟨bd,off,none⟩:=ea;subst ea';subst h1;clear hk1 ea hwf;have dr:Kp none' w2 w2.drew:=Kp.drew _ _;have hCd:=HC2.out.kept (o':=o1) dr (fun _ _ _ h=>h) (fun _ _=>rfl);obtain⟨aq,nq,cq,a4,n4,c4,w4,esv,y4,hq,y4',f4,hC5,hk5⟩:=Cm.appSp pg hCd (by have:=HS.out;omega);have q0d:w2.drew.cell? ⟨gb,0,none⟩=some (.int .i64 pg):=q0
   have q0a:∀oo,(w2.alloc oo).cell? ⟨gb,0,none⟩=some (.int .i64 pg):=fun oo=>(Kp.alloc none' w2 oo).cell q0 (fun h=>h);have y4n:w2.cell? ⟨b,4,none⟩=some (.slice aq nq cq):=y4;have y4a:∀oo,(w2.alloc oo).cell? ⟨b,4,none⟩=some (.slice aq nq cq):=fun oo=>(Kp.alloc none' w2 oo).cell y4n (fun h=>h);have HEND:Hid (B7 b r c mm o { C with sp:=C.sp++[pg] } w (w4.setCell ⟨b,4,none⟩ (.slice a4 n4 c4))):=by
    refine⟨_,V,_,_,_,_,hC5,((HW2.out.keptN dr).kept hk5 (fun k _ e e'=>by have:=(HV2.out k e).1;omega)).mono (fun _ _ h=>h) (by omega),fun k e=>⟨by rw[Ad (show k<w2.drew.heap.size from (HV2.out k e).2)];exact(HV2.out k e).1,Qd (HV2.out k e).2 hk5.size⟩,(HK2.out.thenN dr).trans hk5 (fun _ _ h=>h) (fun k e e'=>by rw[HO1.out k e]at e';omega),fun k e _=>HV0.out k e⟩
   have kc5:(w4.setCell ⟨b,4,none⟩ (.slice a4 n4 c4)).cell? ⟨bd,off,none⟩=some (.int .i64 (n.kd.getD 0 0)):=hk5.cell kc (by have:=(HSO2.out bd hbd).2;omega);have p45:(w4.setCell ⟨b,4,none⟩ (.slice a4 n4 c4)).cell? ⟨gb,1+3,none⟩=some (.slice (some ⟨bd,off,none⟩) 1 c3):=hk5.cell p4 (by have:=HOG.out;omega);have HP45:=hide p45;have HKC5:=hide kc5;clear hCd hC5 hk5 esv y4 dr q1 q2 q3 q5 q6 p2 p3 hbd kc p45 kc5;generalize n.kd.getD 0 0=z0 at *;go_upto_region 5 with fail;go_region_law (first
    | (refine A9 (by rfl) (.tmp 31) (.tmp 34) 33 33 (by rfl) _ _ (by rfl) (by rfl) hq ?_)
    | fail)
   all_goals (
    have p45:=HP45.out;have kc5:=HKC5.out;go_wp2;go_ret2;rw[HE1.out,HE2.out];exact⟨rfl,HEND.out⟩)
  ·have hk1:¬n.kd.length=1:=by have:n3=n.kd.length:=HN3.out;omega
   have hg1:((n3:Int)==1)=false:=by rw[beq_eq_false_iff_ne];omega
   have HSI:=hide (Cj S.node n _ w2 HN2.out);rw[<-HSs.out,show wrap64 (n.size:Int)=(n.size:Int) by unfold wrap64;have:=HSZ.out;omega]at HSI;unfold SpV.node at HSI;obtain⟨nz,Hnz⟩:∃q,Hid (n.size=q):=⟨_,rfl⟩;rw[Hnz.out]at HSI;by_cases h2:256<n.size
   ·have HE1:Hid (C.rootZ pg n=C.raiseZ):=by show _=_;unfold Cg.rootZ;rw[if_neg hwf,if_neg hk1,if_pos h2]
    have HE2:Hid (C.root pg n=C.raise pg n):=by show _=_;unfold Cg.root;rw[if_neg hwf,if_neg hk1,if_pos h2]
    have hg2:(256:Int)<(nz:Int):=by have:=Hnz.out;omega
    clear hwf hk1 h1 h2;have HRA:Hid (∀W:World,Kp none' w2 W->Calls prog 131 #[.pointer (some ⟨b,0,none⟩),.agg #[.int .i64 pg,.bool l,.slice a1 n1 c1,.slice a2 n2 c2,.slice a3 n3 c3,.int .i64 kid,.int .i64 was]] W fun e w'=>e=.returned (.tuple #[.int .i64 C.raiseZ.1,.int .i64 C.raiseZ.2])/\B7 b r c mm o1 (C.raise pg n) W w'):=by
     intro W hk;have hNW:=HN2.out.keptO hk (fun _ _ h=>h);have hSW:∀k,S.own k->k<W.heap.size/\(o1 k=0\/6<=o1 k):=fun k e=>⟨Qd (HSO2.out k e).1 hk.size,(HSO2.out k e).2⟩;rw[<-HSs.out]at hNW hSW;exact Mj b r c mm o1 V C wv tv sv xs _ n W (HC2.out.kept hk (fun _ _ _ h=>h) (fun _ _=>rfl)) (HW2.out.keptN hk) (fun k e=>⟨(HV2.out k e).1,Qd (HV2.out k e).2 hk.size⟩) HM.out HT.out HS.out HLW.out hNW hSW HZ.out HPG.out HP.out HK.out HD.out HSZ.out
    obtain⟨z1,Hz1⟩:∃q,Hid (C.raiseZ.1=q):=⟨_,rfl⟩;obtain⟨z2,Hz2⟩:∃q,Hid (C.raiseZ.2=q):=⟨_,rfl⟩;rw[Hz1.out,Hz2.out]at HRA;go_wp2_with (first
     | (go_at_call 27;refine HSI.out.mono ?_;rintro e w3 ⟨rfl,hk3⟩;replace q0:=hk3.cell q0 (fun h=>h);replace q1:=hk3.cell q1 (fun h=>h);replace q2:=hk3.cell q2 (fun h=>h);replace q3:=hk3.cell q3 (fun h=>h);replace q4:=hk3.cell q4 (fun h=>h);replace q5:=hk3.cell q5 (fun h=>h);replace q6:=hk3.cell q6 (fun h=>h))
     | (go_at_call 131;refine(HRA.out w3 hk3).mono ?_;rintro e w4 ⟨rfl,o4,V4,wv4,tv4,sv4,xs4,hC4,hW4,hV4,hk4,hvo4⟩)
     | fail)
    go_ret2;rw[HE1.out,HE2.out,Hz1.out,Hz2.out];exact⟨rfl,o4,V4,wv4,tv4,sv4,xs4,hC4,hW4,hV4,(HK2.out.thenN hk3).trans hk4 (fun _ _ h=>h) (fun k e e'=>by rw[HO1.out k e]at e';exact e'),fun k e h=>by rw[<-HO1.out k h];exact hvo4 k e (Qd h (HK2.out.thenN hk3).size)⟩
   ·have HE1:Hid (C.rootZ pg n=(pg,0)):=by show _=_;unfold Cg.rootZ;rw[if_neg hwf,if_neg hk1,if_neg h2]
    have HE2:Hid (C.root pg n=C.write pg n):=by show _=_;unfold Cg.root;rw[if_neg hwf,if_neg hk1,if_neg h2]
    have hg2:¬(256:Int)<(nz:Int):=by have:=Hnz.out;omega
    clear hwf hk1 h1 h2;have hex:∃o6:Nat->Nat,(∀k,S.own k->o6 k=0)/\(∀k,¬S.own k->o6 k=o1 k):=by
     classical
     exact⟨fun k=>if S.own k then 0 else o1 k,fun k h=>if_pos h,fun k h=>if_neg h⟩
    obtain⟨o6,h60,h61⟩:=hex;have h65:∀k,o1 k<=5->o6 k=o1 k:=fun k h=>by
     by_cases e:S.own k
     ·rw[h60 k e];have:=(HSO2.out k e).2;omega
     ·exact h61 k e
    have HWR:Hid (∀W:World,Kp none' w2 W->Calls prog 130 #[.pointer (some ⟨b,0,none⟩),.int .i64 pg,.agg #[.bool l,.slice a1 n1 c1,.slice a2 n2 c2,.slice a3 n3 c3]] W fun e w'=>e=.returned (.tuple #[])/\GJ b r o6 (C.write pg n) tv sv (xs++[⟨pg,l,a1,n1,c1,a2,n2,c2,a3,n3,c3,0,0⟩]) W w'):=by
     intro W hk;have hNW:=HN2.out.keptO hk (fun _ _ h=>h);have hSW:∀k,S.own k->k<W.heap.size/\o6 k=0:=fun k e=>⟨Qd (HSO2.out k e).1 hk.size,h60 k e⟩;rw[<-HSs.out]at hNW hSW;exact A0 b r o6 C wv tv sv xs ⟨pg,l,a1,n1,c1,a2,n2,c2,a3,n3,c3,0,0⟩ n W ((HC2.out.kept hk (fun _ _ _ h=>h) (fun _ _=>rfl)).relabel (fun k h=>h65 k (by omega))) ⟨rfl,hNW,hSW⟩ rfl rfl (by have:=HLW.out;omega)
    have HG6:Hid (o6 gb=9):=by show _=_;rw[h61 gb HSG.out];exact HOG.out
    have H65:=hide h65;have HL6:Hid (∀k,k<w.heap.size->(o6 k=1\/o6 k=2)->1<=o k/\o k<=6):=fun k h e=>by
     have hn:¬S.own k:=fun e'=>by have:=h60 k e';omega
     rw[h61 k hn,HO1.out k h]at e;omega
    clear h60 h61 h65;go_wp2_with (first
     | (go_at_call 27;refine HSI.out.mono ?_;rintro e w3 ⟨rfl,hk3⟩;replace q0:=hk3.cell q0 (fun h=>h);replace q1:=hk3.cell q1 (fun h=>h);replace p2:=hk3.cell p2 (fun h=>h);replace p3:=hk3.cell p3 (fun h=>h);replace p4:=hk3.cell p4 (fun h=>h))
     | (go_at_call 130;refine(HWR.out w3 hk3).mono ?_;rintro e w4 ⟨rfl,o7,wv7,ho7,hC7,hk7⟩;replace q0:=hk7.cell q0 (by have:=HG6.out;omega))
     | fail)
    go_ret2;rw[HE1.out,HE2.out];have hV3:∀k,V k->o6 k=5/\k<w3.heap.size:=fun k e=>⟨by rw[H65.out k (by have:=(HV2.out k e).1;omega)];exact(HV2.out k e).1,Qd (HV2.out k e).2 hk3.size⟩;exact⟨rfl,o7,V,wv7,tv,sv,_,hC7,((HW2.out.keptN hk3).kept hk7 (fun k _ e e'=>by have:=(hV3 k e).1;omega)).mono (fun _ _ h=>h) (by omega),fun k e=>⟨by rw[ho7 k (hV3 k e).2];exact(hV3 k e).1,Qd (hV3 k e).2 hk7.size⟩,(HK2.out.thenN hk3).trans hk7 (fun _ _ h=>h) HL6.out,fun k e _=>HV0.out k e⟩
theorem Cm.walk{w w':World}{b r k':Nat}{o o':Nat->Nat}{C:Cg}{wv tv sv:Value}{xs:List SpV}(h:Cm w b r o C wv tv sv xs)(hW:Wl w' b r k' [wv,tv,sv] 80)(hk:Kp (only b) w w')(ho:∀k,k<w.heap.size->o' k=o k):Cm w' b r o' { C with k:=k' } wv tv sv xs:=by
 have hb:=h.hd.lt;have hob:=h.ob;have h1:=fun k (e:wv.ownBlock=some k)=>(World.ownsRow.lt h.ws k e).2;have h2:=fun k (e:tv.ownBlock=some k)=>(h.tk.lt k e).2;have h3:=fun k (e:sv.ownBlock=some k)=>(h.sp.lt k e).2;have far:∀k,o k≠1->¬only b k:=fun k e e'=>by unfold only at e';subst e';exact e hob
 exact⟨hW,by rw[ho b hb];exact hob,Ao h.ws hk (fun k e=>far k (by rw[h.wo k e];omega)),fun k e=>by rw[ho k (h1 k e)];exact h.wo k e,h.wl,fun i a c=>(h.wi i a c).kept hk (fun k _ e=>far k (by omega)) ho,
  h.tk.kept hk (fun k e=>far k (by rw[h.to' k e];omega)),fun k e=>by rw[ho k (h2 k e)];exact h.to' k e,h.sp.kept hk (fun k e=>far k (by rw[h.so k e];omega)),fun k e=>by rw[ho k (h3 k e)];exact h.so k e⟩
def Ie(b r c mm:Nat)(o:Nat->Nat)(C':Cg)(wv:Value)(xs:List SpV)(v:Value)(ns:List Sp)(w w':World):Prop:=∃(o':Nat->Nat) (V':Nat->Prop) (tv' sv':Value) (ys:List SpV),WayM w' w.heap.size v ys ns/\(∀k,v.ownBlock=some k->o' k=6)/\(∀i (h:i<ys.length) k,ys[i].own k->o' k=6)/\(∀k,k<w.heap.size->o' k=o k)/\Cm w' b r o' C' wv tv' sv' xs/\Wk w' r V' c (mm+2) C'.S/\(∀k,V' k->o' k=5/\k<w'.heap.size)/\Kp (fun k=>o k=1\/o k=3\/o k=4\/o k=5) w w'
theorem NM(W:World)(pg:Int)(base:Nat)(hb:base<=W.heap.size):WayM (W.alloc (.cells #[.int .i64 pg,.bool true,.slice none 0 0,.slice none 0 0,.slice none 0 0,.int .i64 0,.int .i64 0] 85)) base (.slice (some ⟨W.heap.size,0,none⟩) 1 1) [⟨pg,true,none,0,0,none,0,0,none,0,0,0,0⟩] [⟨pg,⟨true,[],[],[]⟩,0,0⟩]:=by
 have h1:(W.alloc (.cells #[.int .i64 pg,.bool true,.slice none 0 0,.slice none 0 0,.slice none 0 0,.int .i64 0,.int .i64 0] 85)).heap[W.heap.size]?=some (.cells #[.int .i64 pg,.bool true,.slice none 0 0,.slice none 0 0,.slice none 0 0,.int .i64 0,.int .i64 0] 85 (0,0)):=heap_alloc_new _ _;have hm:1<=maxLen:=by unfold maxLen;omega
 refine⟨⟨by simp[stcs,SpV.cells],.inr ⟨W.heap.size,1,_,rfl,hb,h1,Nat.le_refl _,hm,rfl,rfl⟩⟩,rfl,fun i h h'=>?_,fun i j h h' hne=>?_,fun i h k e=>?_⟩
 ·have:i=0:=by simp at h;omega
  subst this;exact⟨⟨rfl,OwP.nil _ _,Ow.nil _ _ _ _,Ow.nil _ _ _ _,⟨by simp,by simp,by simp⟩,fun h=>absurd rfl h,fun h=>absurd rfl h⟩,rfl,rfl,rfl⟩
 ·simp at h h';omega
 ·have:i=0:=by simp at h;omega
  subst this;rintro (e'|e'|e')<;>cases e'
set_option maxRecDepth 100000 in
theorem F3(b r c mm:Nat)(o:Nat->Nat)(V:Nat->Prop)(C:Cg)(wv tv sv:Value)(xs:List SpV)(root:Int)(key:ByteArray)(w:World)(hC:Cm w b r o C wv tv sv xs)(hWk:Wk w r V c mm C.S)(hV:∀k,V k->o k=5/\k<w.heap.size)(hm:mm<=5000)(ht:C.tk.length<=90000)(hs:C.sp.length<=90000)(hk:C.k<=50000) :
  Calls prog 32 #[.pointer (some ⟨b,0,none⟩),.int .i64 root,.string key] w fun e w'=>∃v,e=.returned (.tuple #[v,.int .i64 (C.leafE root key)])/\Ie b r c mm o (C.leaf root key) wv xs v (C.leafW root key) w w':=by
 by_cases h0:root=0
 ·have HE1:Hid (C.leafE root key=C.takeZ.2):=by show _=_;unfold Cg.leafE;rw[if_pos h0]
  have HE2:Hid (C.leaf root key=C.take):=by show _=_;unfold Cg.leaf;rw[if_pos h0]
  have HE3:Hid (C.leafW root key=[⟨C.takeZ.1,⟨true,[],[],[]⟩,0,0⟩]):=by show _=_;unfold Cg.leafW;rw[if_pos h0]
  have hg:(root != 0)=false:=by rw[h0];rfl
  clear h0;have HTAKE:=hide (Ed b r c mm o V C wv tv sv xs w hC hWk hV hm (by omega) (by omega));clear hC hWk hV hm ht hs hk;obtain⟨tz,Htz⟩:∃q,Hid (C.takeZ.1=q):=⟨_,rfl⟩;obtain⟨te,Hte⟩:∃q,Hid (C.takeZ.2=q):=⟨_,rfl⟩;rw[Htz.out]at HTAKE HE3;rw[Hte.out]at HTAKE HE1;go_enter func32,ntmps32;go_wp2_with (first
   | (go_at_call 62;refine HTAKE.out.mono ?_;rintro e w2 ⟨rfl,o2,V2,tv2,sv2,ho2,hC2,hWk2,hV2,hk2⟩)
   | fail)
  go_ret2;have hka:Kp none' w2 (w2.alloc (.cells #[.int .i64 tz,.bool true,.slice none 0 0,.slice none 0 0,.slice none 0 0,.int .i64 0,.int .i64 0] 85)):=Kp.alloc _ _ _;have hol:∀k,k<w2.heap.size->lab o2 w2.heap.size 6 k=o2 k:=fun k h=>Ad h;rw[HE1.out,HE2.out,HE3.out]
  refine⟨_,rfl,lab o2 w2.heap.size 6,V2,tv2,sv2,_,NM w2 tz _ hk2.size,fun k e=>?_,fun i h k e=>?_,fun k e=>?_,hC2.kept hka (fun _ _ _ h=>h) hol,hWk2.keptN hka,fun k e=>⟨by rw[hol k (hV2 k e).2];exact(hV2 k e).1,Qd (hV2 k e).2 hka.size⟩,hk2.thenN hka⟩
  ·exact Ap (by have:=Option.some.inj e;simp only at this;omega)
  ·have:i=0:=by simp at h;omega
   subst this;rcases e with e|e|e<;>cases e
  ·rw[hol k (Qd e hk2.size)];exact ho2 k e
 ·have HE1:Hid (C.leafE root key=(wayG C.S key 41 [] root C.k).2.1):=by show _=_;unfold Cg.leafE;rw[if_neg h0]
  have HE2:Hid (C.leaf root key={ C with k:=(wayG C.S key 41 [] root C.k).2.2 }):=by show _=_;unfold Cg.leaf;rw[if_neg h0]
  have HE3:Hid (C.leafW root key=(wayG C.S key 41 [] root C.k).1):=by show _=_;unfold Cg.leafW;rw[if_neg h0]
  have hg:(root != 0)=true:=by rw[bne_iff_ne];exact h0
  clear h0;have HWY:=hide (Ic b r C.k [wv,tv,sv] 80 root key V c mm C.S w hC.hd hWk (fun j e e'=>by have:=(hV j e).1;have:=hC.ob;subst e';omega) hk);have HC:=hide hC;have HWK:=hide hWk;have HV:=hide hV;clear hC hWk hV hm ht hs hk;obtain⟨R,HR⟩:∃q,Hid (wayG C.S key 41 [] root C.k=q):=⟨_,hide rfl⟩;rw[HR.out]at HWY HE1 HE2 HE3;obtain⟨re,Hre⟩:∃q,Hid (R.2.1=q):=⟨_,rfl⟩;go_enter func32,ntmps32;go_wp2_with (first
   | (go_at_call 35;refine HWY.out.mono ?_;rintro e w2 ⟨v,ys,rfl,hM,hWl,hk2⟩;rw[Hre.out];obtain⟨va,vc,hv⟩:=hM.slice;subst hv)
   | fail)
  go_ret2;have hol:∀k,k<w.heap.size->lab o w.heap.size 6 k=o k:=fun k h=>Ad h;have hnb:∀k,V k->¬only b k:=fun k e e'=>by unfold only at e';have:=(HV.out k e).1;have:=HC.out.ob;subst e';omega
  rw[HE1.out,HE2.out,HE3.out,Hre.out];refine⟨_,rfl,lab o w.heap.size 6,V,tv,sv,ys,hM,fun k e=>Ap (World.ownsRow.lt hM.row k e).1,fun i h k e=>Ap ((hM.is i h (by rw[<-hM.len];exact h)).nd.blocks k e).1,hol,HC.out.walk hWl hk2 hol,(HWK.out.kept hk2 (fun k _ e=>hnb k e)).mono (fun _ _ h=>h) (by omega),fun k e=>⟨by rw[hol k (HV.out k e).2];exact(HV.out k e).1,Qd (HV.out k e).2 hk2.size⟩,hk2.mono (fun k _ e=>.inl (by unfold only at e;rw[e];exact HC.out.ob))⟩
end Go.Proofs.YtgcgacjhkhjhmaaGreatDoor
