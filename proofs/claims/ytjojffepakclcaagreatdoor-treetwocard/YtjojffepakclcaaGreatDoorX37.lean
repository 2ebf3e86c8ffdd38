/- Part of the proof: contracts over the turned program. -/
import Derived.Test.YtjojffepakclcaaGreatDoorX36
import Derived.Test.YtjojffepakclcaaGreatDoorX9
import Derived.Test.YtjojffepakclcaaGreatDoorX20
set_option linter.unusedVariables false
set_option maxHeartbeats 4000000
open Go.Proofs.Tryz
namespace Go.Proofs.YtjojffepakclcaaGreatDoor
open Go Go.RowKit
def B4(b r c mm g m cap i rb base:Nat)(o:Nat->Nat)(R:Gr)(xa:List SpV)(x:SpV)(w w':World):Prop:=∃(o':Nat->Nat) (V':Nat->Prop) (wv' tv' sv':Value) (xs':List SpV),Cm w' b r o' R.C wv' tv' sv' xs'/\Wk w' r V' c mm R.C.S/\(∀k,V' k->o' k=5/\k<w'.heap.size)/\Kp (fun k=>1<=o k/\o k<=6) w w' /\
 (R.go=true->R.e=0->(∀k,k<w.heap.size->o' k=o k)/\∃x':SpV,w'.ownsRow rb 75 7 (.slice (some ⟨g,0,none⟩) m cap) (xa.set i x').length (stcs (xa.set i x'))/\OwM w' base x'.l x'.p x'.k x'.d R.ab/\(x'.pg=x.pg/\x'.kid=x.kid/\x'.was=x.was)/\(∀k,x'.own k->(o k=6\/w.heap.size<=k)/\6<=o' k)/\¬x'.own g) /\
 (R.go=false->w'.ownsRow rb 75 7 (.slice (some ⟨g,0,none⟩) m cap) xa.length (stcs xa))/\(∀k,V' k->k<w.heap.size->o k=5)
def cocs(nab:Nd)(bt:Nat)(y:SpV):List Value:=[.int .i64 y.pg,.int .i64 (nab.kd.getD (bt+1) 0),.int .i64 (bt:Int),.bool y.l,.slice y.a1 y.n1 y.c1,.slice y.a2 y.n2 y.c2,.slice y.a3 y.n3 y.c3]
theorem Pw:(prog.info? 224).map (fun i=>(i.zero,i.size,i.bytes))=some (some (.agg #[.int .i64 0,.int .i64 0,.int .i64 0,.bool false,.slice none 0 0,.slice none 0 0,.slice none 0 0]),7,104):=by kernel_rfl
theorem N4(nab:Nd)(bt:Nat)(y:SpV):∀u∈cocs nab bt y,u.oneCell'=true:=by
 intro u hu;simp only[cocs,List.mem_cons,List.not_mem_nil,or_false]at hu;rcases hu with rfl|rfl|rfl|rfl|rfl|rfl|rfl<;>rfl
theorem appCo(w:World)(base:Nat)(v:Value)(n:Nat)(cs:List Value)(nab:Nd)(bt:Nat)(y:SpV)(hO:w.ownsRow base 224 7 v n cs)(hb:base<=w.heap.size)(hl:n<=1000000) :
  ∃g c w',(Builtin.append_ #[222,222] 222 #[v,.slice (some ⟨w.heap.size,0,none⟩) 1 1]).run prog (w.alloc (.cells #[.int .i64 y.pg,.int .i64 (nab.kd.getD (bt+1) 0),.int .i64 (bt:Int),.bool y.l,.slice y.a1 y.n1 y.c1,.slice y.a2 y.n2 y.c2,.slice y.a3 y.n3 y.c3] 224))=.ok (.slice (some ⟨g,0,none⟩) (n+1) c) w' /\
   w'.ownsRow base 224 7 (.slice (some ⟨g,0,none⟩) (n+1) c) (n+1) (cs++cocs nab bt y)/\Kp (fun k=>v.ownBlock=some k) w w'/\(v.ownBlock=some g\/w.heap.size<=g):=by
 have hKA:Kp none' w (w.alloc (.cells #[.int .i64 y.pg,.int .i64 (nab.kd.getD (bt+1) 0),.int .i64 (bt:Int),.bool y.l,.slice y.a1 y.n1 y.c1,.slice y.a2 y.n2 y.c2,.slice y.a3 y.n3 y.c3] 224)):=Kp.alloc _ _ _;have hs:=KR (P:=prog) w 222 224 underlying222 (cocs nab bt y) (N4 nab bt y) _ rfl
 obtain⟨v',w',h1,h2,h3,h4⟩:=ID 222 224 222 _ 7 104 underlying222 Pw rfl (by omega) _ base v _ _ _ 1 _ (Ao hO hKA (fun _ _ h=>h)) hs (Nat.le_trans hb hKA.size) (by omega) (by omega);rcases h2.2 with ⟨e,h0⟩|⟨g,cap,cur,e,hbg,hg,_⟩
 ·omega
 ·subst e;refine⟨g,cap,w',h1,h2,hKA.nThen (Kp.ofGrown h3 (fun k hk _=>hk)),?_⟩;rcases h4 with e|e
  ·exact .inl e.symm
  ·have e1:g=(w.alloc (.cells #[.int .i64 y.pg,.int .i64 (nab.kd.getD (bt+1) 0),.int .i64 (bt:Int),.bool y.l,.slice y.a1 y.n1 y.c1,.slice y.a2 y.n2 y.c2,.slice y.a3 y.n3 y.c3] 224)).heap.size:=Option.some.inj e;exact .inr (by rw[e1];exact hKA.size)
def Gre(w:World)(B:Nat)(o:Nat->Nat)(nab:Nd)(q:Option (Nat × Nd))(v:Value):Prop:=match q with
 | none=>v=.slice none 0 0
 | some p=>∃(y:SpV) (n gg cc:Nat) (rest:List Value),v=.slice (some ⟨gg,0,none⟩) (n+1) cc/\w.ownsRow B 224 7 v (n+1) (cocs nab p.1 y++rest)/\n<=5/\y.pg=nab.kd.getD p.1 0/\y.kid=0/\y.was=0/\WrIs w o y (y.pg,p.2)/\o gg=8
theorem Gre.kept {w w' : World} {B : Nat} {o o' : Nat → Nat} {nab : Nd} {q : Option (Nat × Nd)} {v : Value} {S : Nat → Prop} (h : Gre w B o nab q v) (hk : Kp S w w') (hS : ∀ k, k < w.heap.size → (o k = 0 ∨ o k = 8) → ¬ S k) (ho : ∀ k, k < w.heap.size → o' k = o k) : Gre w' B o' nab q v := by
  cases q with
  | none => exact h
  | some p =>
    obtain ⟨y, n, gg, cc, rest, e, h1, h2, h3, h4, h5, h6, h7⟩ := h
    have hlt : gg < w.heap.size := (World.ownsRow.lt h1 gg (by rw [e]; rfl)).2
    exact ⟨y, n, gg, cc, rest, e, Ao h1 hk (fun k e' => by have : gg = k := by rw [e] at e'; exact Option.some.inj e'
                                                           subst this; exact hS gg hlt (.inr h7)), h2, h3, h4, h5, h6.kept hk (fun k hk' e' => hS k hk' (.inl e')) ho, by rw [ho gg hlt]; exact h7⟩
theorem Gre.app {w : World} {B : Nat} {o : Nat → Nat} {nab : Nd} {q : Option (Nat × Nd)} {v : Value} (h : Gre w B o nab q v) (hB : B ≤ w.heap.size) (bt : Nat) (J : Nd) (y : SpV) (hy : y.pg = nab.kd.getD bt 0) (h0 : y.kid = 0) (h0' : y.was = 0) (hW : WrIs w o y (y.pg, J)) (hn : ∀ n gg cc, v = .slice (some ⟨gg, 0, none⟩) (n + 1) cc → n ≤ 4) :
    ∃ g n c w', (Builtin.append_ #[222, 222] 222 #[v, .slice (some ⟨w.heap.size, 0, none⟩) 1 1]).run prog (w.alloc (.cells #[.int .i64 y.pg, .int .i64 (nab.kd.getD (bt + 1) 0), .int .i64 (bt : Int), .bool y.l, .slice y.a1 y.n1 y.c1, .slice y.a2 y.n2 y.c2, .slice y.a3 y.n3 y.c3] 224)) = .ok (.slice (some ⟨g, 0, none⟩) n c) w' ∧
      Gre w' B (lab o w.heap.size 8) nab (q.or (some (bt, J))) (.slice (some ⟨g, 0, none⟩) n c) ∧ Kp (fun k => o k = 8 ∧ B ≤ k) w w' ∧ ∀ j, (∀ n gg cc, v = .slice (some ⟨gg, 0, none⟩) (n + 1) cc → n + 1 ≤ j) → n ≤ j + 1 := by
  cases q with
  | none =>
    have e : v = .slice none 0 0 := h
    subst e
    obtain ⟨g, c, w', h1, h2, h3, h4⟩ := appCo w B _ 0 [] nab bt y (World.ownsRow_nil w B 224 7) hB (by omega)
    have hg : w.heap.size ≤ g := by rcases h4 with e | e; cases e; exact e
    have hk : Kp none' w w' := h3.mono (fun k _ e => by cases e)
    refine ⟨g, 0 + 1, c, w', h1, ⟨y, 0, g, c, [], rfl, by simpa using h2, by omega, hy, h0, h0', hW.kept hk (fun _ _ _ h => h) (fun k hk => Ad hk), Aq hg⟩, hk.mono (fun _ _ h => by cases h), fun j _ => by omega⟩
  | some p =>
    obtain ⟨y', n, gg, cc, rest, e, h1, h2, h3, h4, h5, h6, h7⟩ := h
    subst e
    have hn4 := hn n gg cc rfl
    have hlt : gg < w.heap.size := (World.ownsRow.lt h1 gg rfl).2
    obtain ⟨g, c, w', a1, a2, a3, a4⟩ := appCo w B _ (n + 1) _ nab bt y h1 hB (by omega)
    have hk : Kp (fun k => o k = 8 ∧ B ≤ k) w w' := a3.mono (fun k _ e => by have : gg = k := Option.some.inj e
                                                                             subst this; exact ⟨h7, (World.ownsRow.lt h1 gg rfl).1⟩)
    refine ⟨g, n + 1 + 1, c, w', a1, ⟨y', n + 1, g, c, rest ++ cocs nab bt y, rfl, by rw [← List.append_assoc]; exact a2, by omega, h3, h4, h5, h6.kept hk (fun k _ e e' => by omega) (fun k hk => Ad hk), ?_⟩, hk, fun j hj => by have := hj n gg cc rfl; omega⟩
    rcases a4 with e | e
    · have : gg = g := Option.some.inj e
      subst this
      rw [Ad hlt]; exact h7
    · exact Aq e
theorem IW{n:Nd}(h:n.writeE=0):n.ps.length<=256/\n.ks.length<=256/\n.kd.length<=257/\n.size<=256:=by
 obtain⟨hr,hs⟩:=AA h;cases hl:n.leaf with
 | true =>
  obtain⟨_,h2,h3,h4⟩:=AR hr hl;have h5:=Fn n.ps (fun p hp=>((BY hr hl) p hp).1.1);have h6:n.size=2+(n.ps.map Pr.size).sum:=by unfold Nd.size;rw[hl,if_pos rfl]
  rw[h2,h3];simp only[List.length_nil];omega
 | false =>
  obtain⟨_,h2,h3,h4⟩:=Aw hr hl;have h5:=DJ n.ks (fun k hk=>(Be h4 k hk).1);have h6:n.size=4+(n.ks.map kSize).sum:=by unfold Nd.size;rw[hl,if_neg (by simp)]
  rw[h2];simp only[List.length_nil];omega
theorem Ex:nd0.ps.length<=256/\nd0.ks.length<=256/\nd0.kd.length<=257/\nd0.size<=256:=by decide
theorem JS(S:Sw)(z:Int):(ndOf S z).ps.length<=256/\(ndOf S z).ks.length<=256/\(ndOf S z).kd.length<=257/\(ndOf S z).size<=256:=by
 unfold ndOf;split
 ·cases h:readN (S.read z).1 with
  | none=>exact Ex
  | some n=>exact IW (Bn h).1
 ·exact Ex
theorem EB(C:Cg)(z:Int):(C.coN z).ps.length<=256/\(C.coN z).ks.length<=256/\(C.coN z).kd.length<=257/\(C.coN z).size<=256:=by
 unfold Cg.coN trN;split
 ·exact JS _ _
 ·exact Ex
theorem Dd(a b:Nd)(k:ByteArray)(h:a.leaf=b.leaf):(a.join b k).size<=a.size+b.size+kSize k/\(a.join b k).ps.length<=a.ps.length+b.ps.length/\(a.join b k).ks.length<=a.ks.length+b.ks.length+1/\(a.join b k).kd.length<=a.kd.length+b.kd.length:=by
 unfold Nd.join;cases hl:a.leaf with
 | true =>
  rw[if_pos rfl];have e1:a.size=2+(a.ps.map Pr.size).sum:=by unfold Nd.size;rw[hl,if_pos rfl]
  have e2:b.size=2+(b.ps.map Pr.size).sum:=by unfold Nd.size;rw[<-h,hl,if_pos rfl]
  refine⟨?_,by simp,by simp,by simp⟩;show 2+((a.ps++b.ps).map Pr.size).sum<=_;rw[List.map_append,List.sum_append];omega
 | false =>
  rw[if_neg (by simp)];have e1:a.size=4+(a.ks.map kSize).sum:=by unfold Nd.size;rw[hl,if_neg (by simp)]
  have e2:b.size=4+(b.ks.map kSize).sum:=by unfold Nd.size;rw[<-h,hl,if_neg (by simp)]
  refine⟨?_,by simp,by simp;omega,by simp⟩;show 4+((a.ks++[k]++b.ks).map kSize).sum<=_;simp only[List.map_append,List.sum_append,List.map_cons,List.map_nil,List.sum_cons,List.sum_nil];omega
theorem Fp(n:Nd)(hl:n.leaf=false)(i:Nat):kSize (n.ks.getD i ⟨#[]⟩)<=n.size:=by
 have e1:n.size=4+(n.ks.map kSize).sum:=by unfold Nd.size;rw[hl,if_neg (by simp)]
 by_cases h:i<n.ks.length
 ·rw[List.getD_eq_getElem?_getD,List.getElem?_eq_getElem h];have:∀(l:List ByteArray) (k:ByteArray),k∈l->kSize k<=(l.map kSize).sum:=by
   intro l;induction l with
   | nil=>intro k hk;cases hk
   | cons x l ih =>
    intro k hk;simp only[List.map_cons,List.sum_cons];rcases List.mem_cons.1 hk with e|e
    ·rw[e];omega
    ·have:=ih k e;omega
  have:=this n.ks _ (List.getElem_mem h);simp only[Option.getD_some];omega
 ·rw[List.getD_eq_getElem?_getD,List.getElem?_eq_none (by omega)];show 3+0<=_;omega
def restB(kid:Nat)(nab:Nd)(j:Nat):List Nat:=if j=0 then bts kid nab else if j=1 then (if kid<nab.ks.length then [kid] else []) else []
structure GaSt (b r c mm:Nat) (o1:Nat->Nat) (V:Nat->Prop) (C:Cg) (wv tv sv:Value) (xs:List SpV) (nab:Nd) (w1 W:World) (oW:Nat->Nat) (kz:Nat) (q:Option (Nat × Nd)) (v:Value):Prop where
 cm:Cm W b r oW { C with k:=kz } wv tv sv xs
 wk:Wk W r V c mm C.S
 old:∀k,k<w1.heap.size->oW k=o1 k
 kp:Kp (only b) w1 W
 gr:Gre W w1.heap.size oW nab q v
def GrQ(nab:Nd)(q:Option (Nat × Nd)):Prop:=∀p,q=some p->p.1<nab.ks.length/\p.2.ps.length<=1048576/\p.2.ks.length<=1048576/\p.2.kd.length<=1048576/\p.2.size<=4194304
theorem Le{C:Cg}{kid bt:Nat}{n nab:Nd}(h:(C.coN (coZ kid bt nab)).leaf=n.leaf)(hnl:nab.leaf=false)(hnz:nab.size<=100000)(hp:n.ps.length<=100000)(hkk:n.ks.length<=100000)(hd:n.kd.length<=100000)(hsz:n.size<=1000000):(C.coJ kid bt n nab).ps.length<=1048576/\(C.coJ kid bt n nab).ks.length<=1048576/\(C.coJ kid bt n nab).kd.length<=1048576/\(C.coJ kid bt n nab).size<=4194304:=by
 have h1:=EB C (coZ kid bt nab);have h2:=Fp nab hnl bt;unfold Cg.coJ;split
 ·have:=Dd n (C.coN (coZ kid bt nab)) (nab.ks.getD bt ⟨#[]⟩) h.symm;omega
 ·have:=Dd (C.coN (coZ kid bt nab)) n (nab.ks.getD bt ⟨#[]⟩) h;omega
theorem E2(kid:Nat)(zb:Int)(h:-1<=zb)(h':zb<=(kid:Int))(hw:wrap64 (zb+1)=zb+1):kid+2 - (intOf (.int .i64 (wrap64 (zb+1)))+1).toNat<kid+2 - (intOf (.int .i64 zb)+1).toNat:=by
 rw[hw];simp only[intOf];omega
theorem E5{kid j:Nat}{zb:Int}(h:(kid:Int) - 1+(j:Int)=zb)(hw:wrap64 (zb+1)=zb+1):Value.int .i64 (wrap64 (zb+1))=.int .i64 ((kid:Int) - 1+((j+1:Nat):Int)):=by
 rw[hw,show (kid:Int) - 1+((j+1:Nat):Int)=zb+1 by omega]
set_option maxRecDepth 100000 in
theorem Kh(b r c mm g m cap i rb base:Nat)(o:Nat->Nat)(V:Nat->Prop)(C:Cg)(wv tv sv:Value)(xs xa:List SpV)(s x:SpV)(n nab:Nd)(kid:Nat)(w:World)(hC:Cm w b r o C wv tv sv xs)(hWk:Wk w r V c mm C.S)(hV:∀k,V k->o k=5/\k<w.heap.size)(hk:C.k<=80000)(hl:C.ws.length<=80000)(hs:C.sp.length<=80000)
  (hN:Nv w.heap.size w s.node n) (hso:∀k,s.own k->k<w.heap.size/\(o k=0\/6<=o k)) (hA:AbM w o g m cap i rb base xa x nab) (hkid:x.kid=(kid:Int)) (hkl:kid<=nab.ks.length) (hks:nab.kd.length=nab.ks.length+1) (hn6:nab.kd.length<=1000) (hnl:nab.leaf=false) (hnz:nab.size<=100000) (hp:n.ps.length<=100000) (hkk:n.ks.length<=100000) (hd:n.kd.length<=100000) (hsz:n.size<=1000000) :
  Calls prog 125 #[.pointer (some ⟨b,0,none⟩),.agg #[.int .i64 s.pg,.bool s.l,.slice s.a1 s.n1 s.c1,.slice s.a2 s.n2 s.c2,.slice s.a3 s.n3 s.c3,.int .i64 s.kid,.int .i64 s.was],.pointer (some ⟨g,i*7,none⟩)] w fun e w'=>e=.returned (.tuple #[.bool (C.gather s.pg n kid nab).go,.int .i64 (C.gather s.pg n kid nab).e])/\B4 b r c mm g m cap i rb base o (C.gather s.pg n kid nab) xa x w w':=by
 have HN3:=hide hN.kidN;have HKID:=hide hkid;have HKS:=hide hks;have HKL:=hide hkl;have HN6:=hide hn6;have HNZ:=hide hnz;have HP:=hide hp;have HKK:=hide hkk;have HD:=hide hd;have HSZ:=hide hsz;have HK:=hide hk;have HL:=hide hl;have HS:=hide hs;clear hkid hks hkl hn6 hnz hp hkk hd hsz hk hl hs;have hKA:Kp none' w (w.alloc (.cells #[.int .i64 s.pg,.bool s.l,.slice s.a1 s.n1 s.c1,.slice s.a2 s.n2 s.c2,.slice s.a3 s.n3 s.c3,.int .i64 s.kid,.int .i64 s.was] 75)):=Kp.alloc _ _ _
 have cell:=Am w #[.int .i64 s.pg,.bool s.l,.slice s.a1 s.n1 s.c1,.slice s.a2 s.n2 s.c2,.slice s.a3 s.n3 s.c3,.int .i64 s.kid,.int .i64 s.was] 75;have q0:=cell 0 _ rfl
 have HQ:Hid (∀j u,(#[.int .i64 s.pg,.bool s.l,.slice s.a1 s.n1 s.c1,.slice s.a2 s.n2 s.c2,.slice s.a3 s.n3 s.c3,.int .i64 s.kid,.int .i64 s.was]:Array Value)[j]?=some u->(w.alloc (.cells #[.int .i64 s.pg,.bool s.l,.slice s.a1 s.n1 s.c1,.slice s.a2 s.n2 s.c2,.slice s.a3 s.n3 s.c3,.int .i64 s.kid,.int .i64 s.was] 75)).cell? ⟨w.heap.size,j,none⟩=some u):=fun j u h=>cell j u h;have hold:∀k,k<w.heap.size->lab o w.heap.size 9 k=o k:=fun k hk=>Ad hk
 have HC1:=hide (hC.kept (o':=lab o w.heap.size 9) hKA (fun _ _ _ h=>h) hold);have HW1:=hide (hWk.keptN hKA);have HV1:Hid (∀k,V k->lab o w.heap.size 9 k=5/\k<(w.alloc (.cells #[.int .i64 s.pg,.bool s.l,.slice s.a1 s.n1 s.c1,.slice s.a2 s.n2 s.c2,.slice s.a3 s.n3 s.c3,.int .i64 s.kid,.int .i64 s.was] 75)).heap.size):=fun k e=>⟨by rw[hold k (hV k e).2];exact(hV k e).1,PW (hV k e).2 hKA.size⟩;have hA1:=hA.kept (o':=lab o w.heap.size 9) hKA (fun _ _ _ h=>h) hold
 have HN1:=hide (hN.keptO hKA (fun _ _ h=>h));have HSO:Hid (∀k,s.own k->k<w.heap.size/\(lab o w.heap.size 9 k=0\/6<=lab o w.heap.size 9 k)):=fun k e=>by rw[hold k (hso k e).1];exact hso k e
 have HOG:Hid (lab o w.heap.size 9 w.heap.size=9):=Aq (Nat.le_refl _);have HKA:=hide hKA;have HO1:=hide hold;have HGW:=hide (lt_of_cell q0);obtain⟨R,HR⟩:∃q,Hid (C.gather s.pg n kid nab=q):=⟨_,hide rfl⟩;rw[HR.out];have HBL:Hid (b<w.heap.size/\o b=1):=⟨hC.hd.lt,hC.ob⟩;have HV0:Hid (∀k,V k->o k=5):=fun k e=>(hV k e).1;have HAX:Hid ((∀k,x.own k->o k=6)/\¬x.own g):=⟨hA.ox,hA.hg⟩;clear cell hC hN hWk hV hKA hold hso hA q0;go_enter func125,ntmps125;go_upto_region 1 with fail
 generalize w.alloc (.cells #[.int .i64 s.pg,.bool s.l,.slice s.a1 s.n1 s.c1,.slice s.a2 s.n2 s.c2,.slice s.a3 s.n3 s.c3,.int .i64 s.kid,.int .i64 s.was] 75)=w1 at *;obtain⟨gb,Hgb⟩:∃q,Hid (w.heap.size=q):=⟨_,rfl⟩;obtain⟨o1,Ho1⟩:∃q,Hid (lab o w.heap.size 9=q):=⟨_,rfl⟩;rw[Ho1.out]at HC1 HO1 HV1 HSO HOG hA1;rw[Hgb.out]at HOG HQ HSO |-;obtain⟨ka,kc,ek,_⟩:=hA1.nd.toM.k.open;have kS:w1.cell? ⟨g,i*7+1+2,none⟩=some (.slice ka nab.ks.length kc):=(row_step hA1.row i hA1.hi 3 _ (by rw[hA1.hx,<-ek];rfl)).1
 have kI:w1.cell? ⟨g,i*7+5,none⟩=some (.int .i64 (kid:Int)):=(row_step hA1.row i hA1.hi 5 _ (by rw[hA1.hx,<-HKID.out];rfl)).1;have HA1:=hide hA1;clear hA1 ek;go_upto_region 3 with fail
 go_loopw [8,9,10,11,12,13,14] (fun t8 t9 _ _ _ _ _ wr=>∃(j kz:Nat) (q:Option (Nat × Nd)) (oW:Nat->Nat),j<=2/\t9=.int .i64 ((kid:Int) - 1+j)/\Hid (kz<=C.k+j)/\Hid (gathG s.pg n nab kid (restB kid nab j) q { C with k:=kz }=R)/\Hid (GaSt b r c mm o1 V C wv tv sv xs nab w1 wr oW kz q t8)/\Hid (∀n gg cc,t8=.slice (some ⟨gg,0,none⟩) (n+1) cc->n+1<=j)/\Hid (GrQ nab q)) (fun _ t9 _ _ _ _ _ _=>(kid+2 - (intOf t9+1).toNat))
 case atStart=>exact⟨0,C.k,none,o1,by omega,by rw[show wrap64 ((kid:Int) - 1)=(kid:Int) - 1+((0:Nat):Int) by unfold wrap64;have:=HKL.out;have:=HN6.out;have:=HKS.out;omega],hide (Nat.le_refl _),HR,hide ⟨HC1.out,HW1.out,fun _ _=>rfl,Kp.refl _ _,rfl⟩,hide (fun n gg cc e=>by cases e),hide (fun p h=>by cases h)⟩
 case round =>
  obtain⟨j,kz,q,oW,hj,rfl,HKZ,HG,HST,HGN,HGQ⟩:=hrel;have hgb:∀k,o1 k≠1->¬only b k:=fun k e e'=>by unfold only at e';subst e';exact e HC1.out.ob
  have HGB:=hide hgb;replace kS:=HST.out.kp.cell kS (hgb g (by rw[HA1.out.og];omega));replace kI:=HST.out.kp.cell kI (hgb g (by rw[HA1.out.og];omega));have HQW:Hid (∀j u,(#[.int .i64 s.pg,.bool s.l,.slice s.a1 s.n1 s.c1,.slice s.a2 s.n2 s.c2,.slice s.a3 s.n3 s.c3,.int .i64 s.kid,.int .i64 s.was]:Array Value)[j]?=some u->wr.cell? ⟨gb,j,none⟩=some u):=fun j u h=>HST.out.kp.cell (HQ.out j u h) (hgb gb (by rw[HOG.out];omega));have q0:=HQW.out 0 _ rfl;have q1:=HQW.out 1 _ rfl;have q2:=HQW.out 2 _ rfl
  have q3:=HQW.out 3 _ rfl;have q4:=HQW.out 4 _ rfl;have q5:=HQW.out 5 _ rfl;have q6:=HQW.out 6 _ rfl;have p2:wr.cell? ⟨gb,1+1,none⟩=some (.slice s.a1 s.n1 s.c1):=q2;have p3:wr.cell? ⟨gb,1+2,none⟩=some (.slice s.a2 s.n2 s.c2):=q3;have p4:wr.cell? ⟨gb,1+3,none⟩=some (.slice s.a3 s.n3 s.c3):=q4;obtain⟨zb,Hzb⟩:∃z,Hid ((kid:Int) - 1+(j:Int)=z):=⟨_,hide rfl⟩;rw[Hzb.out];obtain⟨lk,Hlk⟩:∃z,Hid (nab.ks.length=z):=⟨_,hide rfl⟩;rw[Hlk.out]at kS;clear hgb;have HJ:=hide hj
  have HZW:Hid (wrap64 (zb+1)=zb+1/\-1<=zb):=by
   have h1:=Hzb.out;have h2:=HKL.out;have h3:=HN6.out;have h4:=HKS.out;exact⟨by unfold wrap64;omega,by omega⟩
  have HKPW:Hid (∀W,Kp (only b) w1 W->Kp (fun k=>1<=o k/\o k<=6) w W):=fun W h=>HKA.out.trans h (fun _ _ h=>by cases h) (fun k _ e=>by unfold only at e;subst e;have:=HBL.out.2;omega);have HAW:Hid (AbM wr oW g m cap i rb base xa x nab):=HA1.out.kept HST.out.kp (fun k _ e=>HGB.out k (by omega)) HST.out.old;have HNW:Hid (Nv wr.heap.size wr s.node n):=HN1.out.keptO HST.out.kp (fun k e=>HGB.out k (by have:=(HSO.out k e).2;omega))
  have HGWL:Hid (gb<w1.heap.size):=by have:=HGW.out;rw[Hgb.out]at this;exact this
  have HSW:Hid (∀k,s.own k->k<wr.heap.size/\(oW k=0\/6<=oW k)):=fun k e=>by
   have h1:=HSO.out k e;have h2:=HGWL.out;exact⟨PW (Nat.lt_trans h1.1 h2) HST.out.kp.size,by rw[HST.out.old k (Nat.lt_trans h1.1 h2)];exact h1.2⟩
  have HVW:Hid (∀k,V k->oW k=5/\k<wr.heap.size):=fun k e=>⟨by rw[HST.out.old k (HV1.out k e).2];exact(HV1.out k e).1,PW (HV1.out k e).2 HST.out.kp.size⟩;by_cases hj2:j=2
  ·have hle:¬zb<=(kid:Int):=by have:=Hzb.out;omega
   have HGF:Hid (Cg.gathF { C with k:=kz } s.pg n nab q=R):=by
    have h:=HG.out;rw[hj2]at h;exact h
   clear hj hj2 HG;have hsz:∀k,k<w.heap.size->k<w1.heap.size:=fun k h=>Nat.lt_trans h HGW.out;have hex:∃o6:Nat->Nat,(∀k,s.own k->o6 k=0)/\(∀k,¬s.own k->o6 k=oW k):=by
    classical exact⟨fun k=>if s.own k then 0 else oW k,fun k h=>if_pos h,fun k h=>if_neg h⟩
   obtain⟨o6,h60,h61⟩:=hex;have h65:∀k,oW k<=5->o6 k=oW k:=fun k h=>by
    by_cases e:s.own k
    ·rw[h60 k e];have:=(HSW.out k e).2;omega
    ·exact h61 k e
   have HWRT:=hide (AZ b r o6 { C with k:=kz } wv tv sv xs ⟨s.pg,s.l,s.a1,s.n1,s.c1,s.a2,s.n2,s.c2,s.a3,s.n3,s.c3,0,0⟩ n wr (HST.out.cm.relabel (fun k h=>h65 k (by omega))) ⟨rfl,HNW.out,fun k e=>⟨(HSW.out k e).1,h60 k e⟩⟩ rfl rfl (by show C.ws.length<=100000;have:=HL.out;omega))
   have HWEND:Hid (∀xs' w7 wv7 o7,Cm w7 b r o7 (Cg.write { C with k:=kz } s.pg n) wv7 tv sv xs'->Kp (fun k=>o6 k=1\/o6 k=2) wr w7->(∀k,k<wr.heap.size->o7 k=o6 k)->B4 b r c mm g m cap i rb base o ⟨Cg.write { C with k:=kz } s.pg n,nab,false,0⟩ xa x w w7):=by
    intro xs' w7 wv7 o7 hC7 hk7 ho7;have hV6:∀k,V k->o6 k=5:=fun k e=>by rw[h65 k (by have:=(HVW.out k e).1;omega)];exact(HVW.out k e).1
    refine⟨o7,V,wv7,tv,sv,xs',hC7,HST.out.wk.kept hk7 (fun k _ e e'=>by have:=hV6 k e;omega),fun k e=>⟨by rw[ho7 k (HVW.out k e).2];exact hV6 k e,PW (HVW.out k e).2 hk7.size⟩,?_,fun h=>(by cases h),fun _=>Ao HAW.out.row hk7 (fun k e e'=>by have e1:g=k:=Option.some.inj e;subst e1;by_cases hg:s.own g;(have:=h60 g hg;omega);(have h1:=h61 g hg;have h2:=HAW.out.og;omega)),fun k e _=>HV0.out k e⟩
    refine(HKPW.out _ HST.out.kp).trans hk7 (fun _ _ h=>h) (fun k h e=>?_);have hn:¬s.own k:=fun e'=>by have:=h60 k e';omega
    rw[h61 k hn,HST.out.old k (hsz k h),HO1.out k h]at e;omega
   have HSS:=hide hsz;clear h60 h61 h65 hsz;cases q with
   | none =>
    have hu8:u8=.slice none 0 0:=HST.out.gr;subst hu8;by_cases h1:s.n3=1
    ·have hn1:((s.n3:Int)==1)=true:=by rw[h1];rfl
     clear h1;have HRE:Hid (R=⟨Cg.write { C with k:=kz } s.pg n,nab,false,0⟩):=by
      show _=_;rw[<-HGF.out];rfl
     go_wp2_with (first
      | (go_at_call 126;refine HWRT.out.mono ?_;rintro e w7 ⟨rfl,o7,wv7,ho7,hC7,hk7⟩)
      | fail)
     go_ret2;rw[HRE.out];exact⟨rfl,HWEND.out _ w7 wv7 o7 hC7 hk7 ho7⟩
    ·have hn1:((s.n3:Int)==1)=false:=by rw[beq_eq_false_iff_ne];omega
     clear h1;have HRE:Hid (R=⟨Cg.write { C with k:=kz } s.pg n,nab,false,0⟩):=by
      show _=_;rw[<-HGF.out];rfl
     go_wp2_with (first
      | (go_at_call 126;refine HWRT.out.mono ?_;rintro e w7 ⟨rfl,o7,wv7,ho7,hC7,hk7⟩)
      | fail)
     go_ret2;rw[HRE.out];exact⟨rfl,HWEND.out _ w7 wv7 o7 hC7 hk7 ho7⟩
   | some p =>
    obtain⟨y,nn,gg,cc,rest,hu8,hrow,hn5,hyp,hyk,hyw,hyW,hg8⟩:=HST.out.gr;subst hu8;have hpos:(0:Int)<((nn+1:Nat):Int):=by omega
    have HYP:=hide hyp;have HYW:=hide hyW;have HROW:=hide hrow;clear hyp hyk hyw hyW hrow hg8;by_cases h1:s.n3=1
    ·have hn1:((s.n3:Int)==1)=true:=by rw[h1];rfl
     obtain⟨pb,pj⟩:=p;have HQ2:=hide (HGQ.out (pb,pj) rfl);have HRE:Hid (R=⟨(Cg.write { C with k:=kz } (nab.kd.getD pb 0) pj.fst).write (nab.kd.getD (pb+1) 0) pj.snd,{ nab with ks:=nab.ks.set pb pj.mid },true,0⟩):=by
      show _=_;rw[<-HGF.out];show (if n.kd.length=1 then _ else _)=_;rw[if_pos (by rw[<-HN3.out];exact h1)]
     clear h1;have c0:=(AQ HROW.out 0 (.int .i64 y.pg) rfl).1;have c1:=(AQ HROW.out 1 (.int .i64 (nab.kd.getD (pb+1) 0)) rfl).1;have c2:=(AQ HROW.out 2 (.int .i64 (pb:Int)) rfl).1;have c3:=(AQ HROW.out 3 (.bool y.l) rfl).1;have c4:=(AQ HROW.out 4 (.slice y.a1 y.n1 y.c1) rfl).1;have c5:=(AQ HROW.out 5 (.slice y.a2 y.n2 y.c2) rfl).1;have c6:=(AQ HROW.out 6 (.slice y.a3 y.n3 y.c3) rfl).1
     have HSH:=hide (Ma b r g m cap i rb base oW { C with k:=kz } wv tv sv xs xa y x pj nab (nab.kd.getD (pb+1) 0) pb wr HST.out.cm HYW.out.nd HAW.out HQ2.out.1 HKS.out (by have:=HN6.out;omega) (by show C.ws.length<=90000;have:=HL.out;omega) HQ2.out.2.1 HQ2.out.2.2.1 HQ2.out.2.2.2.1 HQ2.out.2.2.2.2);obtain⟨rt,Hrt⟩:∃q,Hid (nab.kd.getD (pb+1) 0=q):=⟨_,hide rfl⟩;rw[Hrt.out]at HSH c1 HRE;go_wp2_with (first
      | (go_at_call 168;refine HSH.out.mono ?_;rintro e w6 ⟨rfl,o6',wv6,y6,z6,ho6,hC6,⟨x',hx1,hx2,hx3,hx4⟩,hk6⟩)
      | fail)
     go_ret2;rw[HRE.out];have hszr:∀k,k<w1.heap.size->k<wr.heap.size:=fun k h=>PW h HST.out.kp.size;have hoo:∀k,k<w.heap.size->o6' k=o k:=fun k h=>by rw[ho6 k (hszr k (HSS.out k h)),HST.out.old k (HSS.out k h),HO1.out k h]
     refine⟨rfl,o6',V,wv6,tv,sv,_,by rw[<-HYP.out];exact hC6,HST.out.wk.kept hk6 (fun k _ e e'=>by have:=(HVW.out k e).1;omega),fun k e=>⟨by rw[ho6 k (HVW.out k e).2];exact(HVW.out k e).1,PW (HVW.out k e).2 hk6.size⟩,?_,fun _ _=>⟨hoo,x',hx1,hx2,hx3,fun k e=>⟨.inl (HAX.out.1 k (hx4 k e)),?_⟩,fun e=>HAX.out.2 (hx4 g e)⟩,fun h=>(by cases h),fun k e _=>HV0.out k e⟩
     ·refine(HKPW.out _ HST.out.kp).trans hk6 (fun _ _ h=>h) (fun k h e=>?_);rw[HST.out.old k (HSS.out k h),HO1.out k h]at e;omega
     ·have h1:=HAW.out.ox k (hx4 k e);rw[ho6 k (HAW.out.nd.blocks k (hx4 k e)).2];omega
    ·have hn1:((s.n3:Int)==1)=false:=by rw[beq_eq_false_iff_ne];omega
     have hkd1:¬n.kd.length=1:=by rw[<-HN3.out];exact h1
     have HKD1:=hide hkd1;clear h1 hkd1;have HRE:Hid (R=⟨Cg.write { C with k:=kz } s.pg n,nab,false,0⟩):=by
      show _=_;rw[<-HGF.out];show (if n.kd.length=1 then _ else _)=_;rw[if_neg HKD1.out]
     go_wp2_with (first
      | (go_at_call 126;refine HWRT.out.mono ?_;rintro e w7 ⟨rfl,o7,wv7,ho7,hC7,hk7⟩)
      | fail)
     go_ret2;rw[HRE.out];exact⟨rfl,HWEND.out _ w7 wv7 o7 hC7 hk7 ho7⟩
  ·have hle:zb<=(kid:Int):=by have:=Hzb.out;omega
   have HLE:=hide hle;by_cases hval:0<=zb/\zb<(lk:Int)
   ·obtain⟨bt,Hbt⟩:∃bt:Nat,Hid (zb=(bt:Int)):=⟨zb.toNat,hide (by omega)⟩;have hrest:restB kid nab j=bt::restB kid nab (j+1):=by
     have h1:=Hzb.out;have h2:=Hlk.out;have h3:=HKL.out;have h4:=Hbt.out;rcases Nat.eq_zero_or_pos j with e|e
     ·subst e;show bts kid nab=bt::(if kid<nab.ks.length then [kid] else []);unfold bts;rw[if_pos (by omega),show kid - 1=bt by omega];rfl
     ·have e1:j=1:=by omega
      subst e1;show (if kid<nab.ks.length then [kid] else [])=[bt];rw[if_pos (by omega),show kid=bt by omega]
    rw[hrest]at HG;have hbl:bt<nab.ks.length:=by have h2:=Hlk.out;have h4:=Hbt.out;omega
    have HBT:=hide hbl;have e:=Hbt.out;subst e;have h0:¬(bt:Int)<0:=by omega
    have hlt:¬(lk:Int)<=(bt:Int):=by omega
    have HCO:=hide (JJ b r c mm g m cap i rb base oW V { C with k:=kz } wv tv sv xs xa s x n nab kid bt wr HST.out.cm HST.out.wk HVW.out (by show kz<=90000;have:=HKZ.out;have:=HK.out;have:=HJ.out;omega) HNW.out HSW.out (HAW.out.toS (fun e=>by have:=HKS.out;rw[e]at this;simp at this)).1 HKID.out hbl HKS.out (by have:=HN6.out;omega) (by have:=HP.out;omega) (by have:=HKK.out;omega) (by have:=HD.out;omega) (by have:=EB { C with k:=kz } (coZ kid bt nab);omega))
    obtain⟨C',HC'⟩:∃q:Cg,Hid (({ C with k:=kz }:Cg)=q):=⟨_,hide rfl⟩;rw[HC'.out]at HCO HG;obtain⟨z,Hz⟩:∃q,Hid (coZ kid bt nab=q):=⟨_,hide rfl⟩;clear hrest hj hj2 hbl hval;obtain⟨E,HE⟩:∃q,Hid (C'.coE z=q):=⟨_,hide rfl⟩;have HCOK:Hid (C'.co z={ C with k:=(C'.co z).k }/\(C'.co z).k<=kz+1):=by
     rw[<-HC'.out];exact⟨rfl,Jt _ _ _⟩
    by_cases hE:E=0
    ·have hEb:(E != 0)=false:=by rw[hE];rfl
     by_cases hlf:(C'.coN z).leaf=n.leaf
     ·obtain⟨J,HJJ⟩:∃q,Hid (C'.coJ kid bt n nab=q):=⟨_,hide rfl⟩
      have HCE:Hid (Calls prog 166 #[.pointer (some ⟨b,0,none⟩),.agg #[.int .i64 s.pg,.bool s.l,.slice s.a1 s.n1 s.c1,.slice s.a2 s.n2 s.c2,.slice s.a3 s.n3 s.c3,.int .i64 s.kid,.int .i64 s.was],.pointer (some ⟨g,i*7,none⟩),.int .i64 (bt:Int)] wr fun e w'=>∃y:SpV,e=.returned (.tuple #[.agg #[.int .i64 y.pg,.int .i64 (nab.kd.getD (bt+1) 0),.int .i64 (bt:Int),.bool y.l,.slice y.a1 y.n1 y.c1,.slice y.a2 y.n2 y.c2,.slice y.a3 y.n3 y.c3],.bool true,.int .i64 0])/\y.pg=nab.kd.getD bt 0/\y.kid=0/\y.was=0/\∃o',(∀k,k<wr.heap.size->o' k=oW k)/\Cm w' b r o' (C'.co z) wv tv sv xs/\Wk w' r V c mm C'.S/\Kp (only b) wr w'/\WrIs w' o' y (y.pg,J)):=HCO.out.mono (fun e w' h=>by
       obtain⟨o',h1,h2,h3,h4,h5⟩:=h;unfold CoupV at h5;rw[Hz.out,HE.out,if_pos hE,if_pos hlf]at h5;rw[Hz.out]at h2;rw[HJJ.out]at h5;obtain⟨y,a1,a2,a3,a4,a5⟩:=h5;exact⟨y,a5,a1,a2,a3,o',h1,h2,h3,h4,a4⟩)
      obtain⟨rt,Hrt⟩:∃q,Hid (nab.kd.getD (bt+1) 0=q):=⟨_,hide rfl⟩;rw[Hrt.out]at HCE;have HLF:=hide hlf;have HE0:=hide hE;clear HCO hE hlf;go_upto_region 7 with (first
       | (go_at_call 166;refine HCE.out.mono ?_;rintro e w3 ⟨y,rfl,hyp,hyk,hyw,o3,ho3,hC3,hW3,hk3,hy3⟩;have HYP:=hide hyp;have HYK:=hide hyk;have HYW:=hide hyw;clear hyp hyk hyw)
       | fail)
      have hka:Kp none' w3 (w3.alloc (.cells #[.int .i64 y.pg,.int .i64 rt,.int .i64 (bt:Int),.bool y.l,.slice y.a1 y.n1 y.c1,.slice y.a2 y.n2 y.c2,.slice y.a3 y.n3 y.c3] 224)):=Kp.alloc _ _ _;have cell:=Am w3 #[.int .i64 y.pg,.int .i64 rt,.int .i64 (bt:Int),.bool y.l,.slice y.a1 y.n1 y.c1,.slice y.a2 y.n2 y.c2,.slice y.a3 y.n3 y.c3] 224
      have HU:Hid (∀W,Kp none' (w3.alloc (.cells #[.int .i64 y.pg,.int .i64 rt,.int .i64 (bt:Int),.bool y.l,.slice y.a1 y.n1 y.c1,.slice y.a2 y.n2 y.c2,.slice y.a3 y.n3 y.c3] 224)) W->∀j u,(#[.int .i64 y.pg,.int .i64 rt,.int .i64 (bt:Int),.bool y.l,.slice y.a1 y.n1 y.c1,.slice y.a2 y.n2 y.c2,.slice y.a3 y.n3 y.c3]:Array Value)[j]?=some u->W.cell? ⟨w3.heap.size,j,none⟩=some u):=fun W hk j u h=>hk.cell (cell j u h) (fun h=>h)
      have HC4:=hide (hC3.kept (o':=lab o3 w3.heap.size 9) hka (fun _ _ _ h=>h) (fun k h=>Ad h));have HW4:=hide (hW3.keptN hka);have HY4:=hide (hy3.kept (o':=lab o3 w3.heap.size 9) hka (fun _ _ _ h=>h) (fun k h=>Ad h));have hob:∀k,oW k≠1->¬only b k:=fun k e e'=>by unfold only at e';subst e';exact e HST.out.cm.ob
      have HA4:=hide ((HAW.out.kept hk3 (fun k _ e=>hob k (by omega)) ho3).kept (o':=lab o3 w3.heap.size 9) hka (fun _ _ _ h=>h) (fun k h=>Ad h));have HGR4:=hide ((HST.out.gr.kept hk3 (fun k _ e=>hob k (by omega)) ho3).kept (o':=lab o3 w3.heap.size 9) hka (fun _ _ _ h=>h) (fun k h=>Ad h));have HO4:Hid (∀k,k<w1.heap.size->lab o3 w3.heap.size 9 k=o1 k):=fun k h=>by
       have h1:=PW h HST.out.kp.size;rw[Ad (PW h1 hk3.size),ho3 k h1,HST.out.old k h]
      have HK14:=hide ((HST.out.kp.then hk3).thenN hka);have HV4:Hid (∀k,V k->lab o3 w3.heap.size 9 k=5):=fun k e=>by
       rw[HO4.out k (HV1.out k e).2];exact(HV1.out k e).1
      have HG9:Hid (lab o3 w3.heap.size 9 w3.heap.size=9):=Aq (Nat.le_refl _);clear cell hC3 hW3 hy3 hk3 hka hob ho3;generalize w3.alloc (.cells #[.int .i64 y.pg,.int .i64 rt,.int .i64 (bt:Int),.bool y.l,.slice y.a1 y.n1 y.c1,.slice y.a2 y.n2 y.c2,.slice y.a3 y.n3 y.c3] 224)=w4 at *;obtain⟨o4,Ho4⟩:∃q,Hid (lab o3 w3.heap.size 9=q):=⟨_,hide rfl⟩;rw[Ho4.out]at HC4 HY4 HA4 HGR4 HO4 HV4 HG9;obtain⟨gc,Hgc⟩:∃q,Hid (w3.heap.size=q):=⟨_,hide rfl⟩;rw[Hgc.out]at HU HG9 |-
      have HJS:=hide (Le (C:=C') (kid:=kid) (bt:=bt) (by rw[Hz.out];exact HLF.out) hnl HNZ.out HP.out HKK.out HD.out HSZ.out);rw[HJJ.out]at HJS;have HWR:=hide (Fc y.node J _ w4 HY4.out.nd (Nat.le_refl _) (by have:=HJS.out.1;omega) (by have:=HJS.out.2.1;omega));unfold SpV.node at HWR;obtain⟨jw,Hjw⟩:∃q,Hid (J.write=q):=⟨_,hide rfl⟩;obtain⟨je,Hje⟩:∃q,Hid (J.writeE=q):=⟨_,hide rfl⟩;rw[Hjw.out,Hje.out]at HWR;have u0:=HU.out w4 (Kp.refl _ _) 0 _ rfl;have u3:=HU.out w4 (Kp.refl _ _) 3 _ rfl
      have u4:w4.cell? ⟨gc,3+1,none⟩=some (.slice y.a1 y.n1 y.c1):=HU.out w4 (Kp.refl _ _) 4 _ rfl;have u5:w4.cell? ⟨gc,3+2,none⟩=some (.slice y.a2 y.n2 y.c2):=HU.out w4 (Kp.refl _ _) 5 _ rfl;have u6':w4.cell? ⟨gc,3+3,none⟩=some (.slice y.a3 y.n3 y.c3):=HU.out w4 (Kp.refl _ _) 6 _ rfl;by_cases hwe:je=0
      ·have hwb:(je==0)=true:=by rw[hwe];rfl
       have HRE:Hid (R=⟨{ (C'.co z).write (nab.kd.getD bt 0) J with sp:=C'.sp++[rt] },nab.lose (bt+1),true,0⟩):=by
        show _=_;rw[<-HG.out,gathG,Hz.out,HE.out,if_pos HE0.out,if_pos HLF.out,HJJ.out,Hje.out,if_pos hwe,Hrt.out]
       clear hwe HG;go_upto_region 12 with (first
        | (go_at_call 91;refine HWR.out.mono ?_;rintro e w5 ⟨rfl,hk5⟩)
        | fail)
       have v0:=HU.out w5 hk5 0 _ rfl;have v1:=HU.out w5 hk5 1 _ rfl;have v2:=HU.out w5 hk5 2 _ rfl;have v3:=HU.out w5 hk5 3 _ rfl;have v4:=HU.out w5 hk5 4 _ rfl;have v5:=HU.out w5 hk5 5 _ rfl;have v6:=HU.out w5 hk5 6 _ rfl
       have HMG:=hide (L6 b r g m cap i rb base o4 (C'.co z) wv tv sv xs xa y x J nab rt bt w5 (HC4.out.kept hk5 (fun _ _ _ h=>h) (fun _ _=>rfl)) (HY4.out.kept hk5 (fun _ _ _ h=>h) (fun _ _=>rfl)) HYK.out HYW.out (HA4.out.kept hk5 (fun _ _ _ h=>h) (fun _ _=>rfl)) (by have:=HBT.out;have:=HKS.out;omega) HKS.out (by have:=HN6.out;omega) (by rw[HCOK.out.1];show C.ws.length<=100000;have:=HL.out;omega) (by rw[HCOK.out.1];show C.sp.length<=100000;have:=HS.out;omega));clear u0 u3 u4 u5 u6'
       go_wp2_with (first
        | (go_at_call 167;refine HMG.out.mono ?_;rintro e w6 ⟨rfl,o6,wv6,sv6,ho6,hC6,⟨x',hx1,hx2,hx3,hx4⟩,hk6⟩)
        | fail)
       go_ret2;rw[HRE.out];have hsz:∀k,k<w.heap.size->k<w1.heap.size:=fun k h=>Nat.lt_trans h HGW.out;have hsz5:∀k,k<w1.heap.size->k<w5.heap.size:=fun k h=>PW h (Nat.le_trans HK14.out.size hk5.size);have hoo:∀k,k<w.heap.size->o6 k=o k:=fun k h=>by rw[ho6 k (hsz5 k (hsz k h)),HO4.out k (hsz k h),HO1.out k h]
       have hSS:(C'.co z).S=C'.S:=rfl;have hW6:=(HW4.out.keptN hk5).kept hk6 (fun k _ e e'=>by have:=HV4.out k e;omega);refine⟨rfl,o6,V,wv6,tv,sv6,_,by rw[<-HYP.out];exact hC6,hW6,fun k e=>?_,?_,fun _ _=>⟨hoo,x',hx1,hx2,hx3,fun k e=>⟨.inl (HAX.out.1 k (hx4 k e)),?_⟩,fun e=>HAX.out.2 (hx4 g e)⟩,fun h=>(by cases h),fun k e _=>HV0.out k e⟩
       ·have h1:=(HV1.out k e).2;exact⟨by rw[ho6 k (hsz5 k h1)];exact HV4.out k e,PW (hsz5 k h1) hk6.size⟩
       ·refine((HKPW.out _ (HK14.out.thenN hk5))).trans hk6 (fun _ _ h=>h) (fun k h e=>?_);rw[HO4.out k (hsz k h),HO1.out k h]at e;omega
       ·have h1:=HA1.out.ox k (hx4 k e);have h2:=(HA1.out.nd.blocks k (hx4 k e)).2;rw[ho6 k (hsz5 k h2),HO4.out k h2];omega
      ·have hwb:(je==0)=false:=by rw[beq_eq_false_iff_ne];exact hwe
       have HG2:Hid (gathG s.pg n nab kid (restB kid nab (j+1)) (q.or (some (bt,J))) (C'.co z)=R):=by
        show _=_;rw[<-HG.out];conv=>rhs;unfold gathG
        rw[Hz.out,HE.out,if_pos HE0.out,if_pos HLF.out,HJJ.out,Hje.out,if_neg hwe]
       clear hwe HG;go_upto_region 14 with (first
        | (go_at_call 91;refine HWR.out.mono ?_;rintro e w5 ⟨rfl,hk5⟩)
        | fail)
       have v0:=HU.out w5 hk5 0 _ rfl;have v1:=HU.out w5 hk5 1 _ rfl;have v2:=HU.out w5 hk5 2 _ rfl;have v3:=HU.out w5 hk5 3 _ rfl;have v4:=HU.out w5 hk5 4 _ rfl;have v5:=HU.out w5 hk5 5 _ rfl;have v6:=HU.out w5 hk5 6 _ rfl
       obtain⟨gg,nn,cc,w6,hq,hgr6,hk6,hnn⟩:=Gre.app (HGR4.out.kept (o':=o4) hk5 (fun _ _ _ h=>h) (fun _ _=>rfl)) (Nat.le_trans HK14.out.size hk5.size) bt J y HYP.out HYK.out HYW.out (HY4.out.kept hk5 (fun _ _ _ h=>h) (fun _ _=>rfl)) (fun n gg cc e=>by have:=HGN.out n gg cc e;have:=HJ.out;omega);rw[Hrt.out]at hq;have HGR6:=hide hgr6;have HK6:=hide hk6;have HNN:=hide (hnn j HGN.out);clear hnn hgr6 hk6 u0 u3 u4 u5 u6';go_wp2_with (first
        | (at_builtin;refine Ak rfl (.tmp 66) (.tmp 68) 222 222 rfl _ _ rfl rfl hq ?_)
        | fail)
       go_roundw
       case rel =>
        rw[HCOK.out.1]at HG2;have hSS:C'.S=C.S:=by rw[<-HC'.out]
        have hC5:=HC4.out;rw[HCOK.out.1]at hC5;have hW4:=HW4.out;rw[hSS]at hW4;have hsz5:w1.heap.size<=w5.heap.size:=Nat.le_trans HK14.out.size hk5.size;have hold6:∀k,k<w5.heap.size->lab o4 w5.heap.size 8 k=o4 k:=fun k h=>Ad h;have hC6:=(hC5.kept (o':=o4) hk5 (fun _ _ _ h=>h) (fun _ _=>rfl)).kept (o':=lab o4 w5.heap.size 8) HK6.out (fun k _ e e'=>by omega) hold6;have hW6:=(hW4.keptN hk5).kept HK6.out (fun k _ e e'=>by have:=HV4.out k e;omega);have hkp:=HK14.out.thenN hk5
        refine⟨j+1,(C'.co z).k,_,lab o4 w5.heap.size 8,by have:=Hzb.out;have:=HLE.out;omega,E5 Hzb.out HZW.out.1,hide (by have:=HKZ.out;have:=HCOK.out.2;omega),HG2,hide ⟨hC6,hW6,fun k h=>?_,?_,HGR6.out⟩,hide (fun n' gg' cc' e=>?_),hide (fun p hp=>?_)⟩
        ·rw[hold6 k (PW h hsz5)];exact HO4.out k h
        ·refine hkp.trans HK6.out (fun _ _ h=>h) (fun k h e=>?_);have:=e.2;omega
        ·have e1:nn=n'+1:=by simp only[Value.slice.injEq]at e;exact e.2.1
         have:=HNN.out;omega
        ·cases q with
         | some p' =>
          have:p'=p:=by simpa using hp
          subst this;exact HGQ.out p' rfl
         | none =>
          have:(bt,J)=p:=by simpa using hp
          subst this;exact⟨HBT.out,HJS.out⟩
       case measure=>exact E2 kid _ HZW.out.2 HLE.out HZW.out.1
     ·have HCE:Hid (Calls prog 166 #[.pointer (some ⟨b,0,none⟩),.agg #[.int .i64 s.pg,.bool s.l,.slice s.a1 s.n1 s.c1,.slice s.a2 s.n2 s.c2,.slice s.a3 s.n3 s.c3,.int .i64 s.kid,.int .i64 s.was],.pointer (some ⟨g,i*7,none⟩),.int .i64 (bt:Int)] wr fun e w'=>e=.returned (.tuple #[.agg #[.int .i64 0,.int .i64 0,.int .i64 0,.bool false,.slice none 0 0,.slice none 0 0,.slice none 0 0],.bool false,.int .i64 0])/\∃o',(∀k,k<wr.heap.size->o' k=oW k)/\Cm w' b r o' (C'.co z) wv tv sv xs/\Wk w' r V c mm C'.S/\Kp (only b) wr w'):=HCO.out.mono (fun e w' h=>by
       obtain⟨o',h1,h2,h3,h4,h5⟩:=h;unfold CoupV at h5;rw[Hz.out,HE.out,if_pos hE,if_neg hlf]at h5;rw[Hz.out]at h2;exact⟨h5,o',h1,h2,h3,h4⟩)
      have HG2:Hid (gathG s.pg n nab kid (restB kid nab (j+1)) q (C'.co z)=R):=by
       show _=_;rw[<-HG.out];conv=>rhs;unfold gathG
       rw[Hz.out,HE.out,if_pos hE,if_neg hlf]
      clear HCO HG hE hlf;go_wp2_with (first
       | (go_at_call 166;refine HCE.out.mono ?_;rintro e w3 ⟨rfl,o3,ho3,hC3,hW3,hk3⟩)
       | fail)
      go_roundw
      case rel =>
       have hka:Kp none' w3 (w3.alloc (.cells #[.int .i64 0,.int .i64 0,.int .i64 0,.bool false,.slice none 0 0,.slice none 0 0,.slice none 0 0] 224)):=Kp.alloc _ _ _;rw[HCOK.out.1]at hC3 HG2;have hSS:C'.S=C.S:=by rw[<-HC'.out]
       rw[hSS]at hW3;have hk13:=(HST.out.kp.then hk3).thenN hka;have hgr:=(HST.out.gr.kept hk3 (fun k _ e e'=>by unfold only at e';subst e';have:=HST.out.cm.ob;omega) ho3).kept (o':=lab o3 w3.heap.size 9) hka (fun _ _ _ h=>h) (fun k h=>Ad h)
       refine⟨j+1,(C'.co z).k,q,lab o3 w3.heap.size 9,by have:=Hzb.out;have:=HLE.out;omega,E5 Hzb.out HZW.out.1,hide (by have:=HKZ.out;have:=HCOK.out.2;omega),HG2,hide ⟨hC3.kept hka (fun _ _ _ h=>h) (fun k h=>Ad h),hW3.keptN hka,fun k h=>?_,hk13,hgr⟩,hide (fun n gg cc e=>Nat.le_succ_of_le (HGN.out n gg cc e)),HGQ⟩;have h1:=PW h HST.out.kp.size;rw[Ad (PW h1 hk3.size),ho3 k h1,HST.out.old k h]
      case measure=>exact E2 kid _ HZW.out.2 HLE.out HZW.out.1
    ·have hEb:(E != 0)=true:=by rw[bne_iff_ne];exact hE
     have HCE:Hid (Calls prog 166 #[.pointer (some ⟨b,0,none⟩),.agg #[.int .i64 s.pg,.bool s.l,.slice s.a1 s.n1 s.c1,.slice s.a2 s.n2 s.c2,.slice s.a3 s.n3 s.c3,.int .i64 s.kid,.int .i64 s.was],.pointer (some ⟨g,i*7,none⟩),.int .i64 (bt:Int)] wr fun e w'=>e=.returned (.tuple #[.agg #[.int .i64 0,.int .i64 0,.int .i64 0,.bool false,.slice none 0 0,.slice none 0 0,.slice none 0 0],.bool false,.int .i64 E])/\∃o',(∀k,k<wr.heap.size->o' k=oW k)/\Cm w' b r o' (C'.co z) wv tv sv xs/\Wk w' r V c mm C'.S/\Kp (only b) wr w'):=HCO.out.mono (fun e w' h=>by
      obtain⟨o',h1,h2,h3,h4,h5⟩:=h;unfold CoupV at h5;rw[Hz.out,HE.out,if_neg hE]at h5;rw[Hz.out]at h2;exact⟨h5,o',h1,h2,h3,h4⟩)
     have HRE:Hid (R=⟨C'.co z,nab,false,E⟩):=by
      show _=_;rw[<-HG.out,gathG,Hz.out,HE.out,if_neg hE]
     clear HCO HG hE;go_wp2_with (first
      | (go_at_call 166;refine HCE.out.mono ?_;rintro e w3 ⟨rfl,o3,ho3,hC3,hW3,hk3⟩)
      | fail)
     go_ret2;rw[HRE.out];have hka:Kp none' w3 (w3.alloc (.cells #[.int .i64 0,.int .i64 0,.int .i64 0,.bool false,.slice none 0 0,.slice none 0 0,.slice none 0 0] 224)):=Kp.alloc _ _ _;have hSS:(C'.co z).S=C'.S:=rfl
     refine⟨rfl,lab o3 w3.heap.size 9,V,wv,tv,sv,xs,hC3.kept hka (fun _ _ _ h=>h) (fun k h=>Ad h),hW3.keptN hka,fun k e=>?_,HKPW.out _ ((HST.out.kp.then hk3).thenN hka),fun h=>(by cases h),fun _=>Ao (Ao HAW.out.row hk3 (fun k e e'=>by have e1:g=k:=Option.some.inj e;unfold only at e';have h1:=HAW.out.og;have h2:=HST.out.cm.ob;rw[e1,e']at h1;omega)) hka (fun _ _ h=>h),fun k e _=>HV0.out k e⟩;have h1:=HVW.out k e
     exact⟨by rw[Ad (PW h1.2 hk3.size),ho3 k h1.2];exact h1.1,PW h1.2 (Nat.le_trans hk3.size hka.size)⟩
   ·have hrest:restB kid nab j=restB kid nab (j+1):=by
     have h1:=Hzb.out;have h2:=Hlk.out;have h3:=HKL.out;rcases Nat.eq_zero_or_pos j with e|e
     ·subst e;show bts kid nab=if kid<nab.ks.length then [kid] else []
      unfold bts;rw[if_neg (by omega),List.nil_append]
     ·have e1:j=1:=by omega
      subst e1;show (if kid<nab.ks.length then [kid] else [])=[];rw[if_neg (by omega)]
    rw[hrest]at HG;clear hrest hj hj2;by_cases h0:zb<0
    ·clear hval;go_wp2;go_roundw
     case rel=>exact⟨j+1,kz,q,oW,by have:=Hzb.out;have:=HLE.out;omega,E5 Hzb.out HZW.out.1,hide (by have:=HKZ.out;omega),HG,HST,hide (fun n gg cc e=>Nat.le_succ_of_le (HGN.out n gg cc e)),HGQ⟩
     case measure=>exact E2 kid zb HZW.out.2 HLE.out HZW.out.1
    ·have h1:(lk:Int)<=zb:=by omega
     clear hval;go_wp2;go_roundw
     case rel=>exact⟨j+1,kz,q,oW,by have:=Hzb.out;have:=HLE.out;omega,E5 Hzb.out HZW.out.1,hide (by have:=HKZ.out;omega),HG,HST,hide (fun n gg cc e=>Nat.le_succ_of_le (HGN.out n gg cc e)),HGQ⟩
     case measure=>exact E2 kid zb HZW.out.2 HLE.out HZW.out.1
set_option maxRecDepth 100000 in
theorem ER(b r c mm g m cap i rb base:Nat)(o:Nat->Nat)(V:Nat->Prop)(C:Cg)(wv tv sv:Value)(xs xa:List SpV)(s x:SpV)(n nab:Nd)(kid skid was:Nat)(w:World)(hC:Cm w b r o C wv tv sv xs)(hWk:Wk w r V c mm C.S)(hV:∀k,V k->o k=5/\k<w.heap.size)(hm:mm<=4000)(hk:C.k<=80000)(hl:C.ws.length<=80000)(hs:C.sp.length<=80000)(ht:C.tk.length<=80000)(hz:-9223372036854775808<=C.takeZ.1/\C.takeZ.1<9223372036854775808)
  (hN:Nv w.heap.size w s.node n) (hso:∀k,s.own k->k<w.heap.size/\(o k=0\/6<=o k)) (hwas:s.was=(was:Int)) (hA:AbM w o g m cap i rb base xa x nab) (hb:base<=w.heap.size) (hkid:x.kid=(kid:Int)) (hkl:kid<=nab.ks.length) (hks:nab.kd.length=nab.ks.length+1) (hn6:nab.kd.length<=1000) (hnl:nab.leaf=false) (hnz:nab.size<=100000) (hp:n.ps.length<=100000) (hkk:n.ks.length<=100000) (hd:n.kd.length<=100000) (hsz:n.size<=1000000) :
  Calls prog 88 #[.pointer (some ⟨b,0,none⟩),.agg #[.int .i64 s.pg,.bool s.l,.slice s.a1 s.n1 s.c1,.slice s.a2 s.n2 s.c2,.slice s.a3 s.n3 s.c3,.int .i64 s.kid,.int .i64 s.was],.pointer (some ⟨g,i*7,none⟩)] w fun e w'=>e=.returned (.tuple #[.bool (C.below ⟨s.pg,n,skid,was⟩ kid nab).go,.int .i64 (C.below ⟨s.pg,n,skid,was⟩ kid nab).e])/\B4 b r c (mm+2) g m cap i rb base o (C.below ⟨s.pg,n,skid,was⟩ kid nab) xa x w w':=by
 have HWAS:=hide hwas;have HKID:=hide hkid;have HKS:=hide hks;have HKL:=hide hkl;have HN6:=hide hn6;have HNZ:=hide hnz;have HP:=hide hp;have HKK:=hide hkk;have HD:=hide hd;have HSZ:=hide hsz;have HK:=hide hk;have HL:=hide hl;have HS:=hide hs;have HT:=hide ht;have HM:=hide hm;have HZ:=hide hz;have HB:=hide hb;clear hwas hkid hks hkl hn6 hnz hp hkk hd hsz hk hl hs ht hm hz hb
 have hKA:Kp none' w (w.alloc (.cells #[.int .i64 s.pg,.bool s.l,.slice s.a1 s.n1 s.c1,.slice s.a2 s.n2 s.c2,.slice s.a3 s.n3 s.c3,.int .i64 s.kid,.int .i64 s.was] 75)):=Kp.alloc _ _ _;have cell:=Am w #[.int .i64 s.pg,.bool s.l,.slice s.a1 s.n1 s.c1,.slice s.a2 s.n2 s.c2,.slice s.a3 s.n3 s.c3,.int .i64 s.kid,.int .i64 s.was] 75;have q0:=cell 0 _ rfl
 have HQ:Hid (∀W,Kp none' (w.alloc (.cells #[.int .i64 s.pg,.bool s.l,.slice s.a1 s.n1 s.c1,.slice s.a2 s.n2 s.c2,.slice s.a3 s.n3 s.c3,.int .i64 s.kid,.int .i64 s.was] 75)) W->∀j u,(#[.int .i64 s.pg,.bool s.l,.slice s.a1 s.n1 s.c1,.slice s.a2 s.n2 s.c2,.slice s.a3 s.n3 s.c3,.int .i64 s.kid,.int .i64 s.was]:Array Value)[j]?=some u->W.cell? ⟨w.heap.size,j,none⟩=some u):=fun W hk j u h=>hk.cell (cell j u h) (fun h=>h);have hold:∀k,k<w.heap.size->lab o w.heap.size 9 k=o k:=fun k hk=>Ad hk
 have HC1:=hide (hC.kept (o':=lab o w.heap.size 9) hKA (fun _ _ _ h=>h) hold);have HW1:=hide (hWk.keptN hKA);have HV1:Hid (∀k,V k->lab o w.heap.size 9 k=5/\k<(w.alloc (.cells #[.int .i64 s.pg,.bool s.l,.slice s.a1 s.n1 s.c1,.slice s.a2 s.n2 s.c2,.slice s.a3 s.n3 s.c3,.int .i64 s.kid,.int .i64 s.was] 75)).heap.size):=fun k e=>⟨by rw[hold k (hV k e).2];exact(hV k e).1,PW (hV k e).2 hKA.size⟩;have HA1:=hide (hA.kept (o':=lab o w.heap.size 9) hKA (fun _ _ _ h=>h) hold)
 have HN1:=hide (hN.keptO hKA (fun _ _ h=>h));have HSO:Hid (∀k,s.own k->k<w.heap.size/\(lab o w.heap.size 9 k=0\/6<=lab o w.heap.size 9 k)):=fun k e=>by rw[hold k (hso k e).1];exact hso k e
 have HOG:Hid (lab o w.heap.size 9 w.heap.size=9):=Aq (Nat.le_refl _);have HKA:=hide hKA;have HO1:=hide hold;have HGW:=hide (lt_of_cell q0);have HSI:=hide (Cs s.node n _ _ (hN.keptO hKA (fun _ _ h=>h)));rw[show wrap64 (n.size:Int)=(n.size:Int) by unfold wrap64;have:=HSZ.out;omega]at HSI
 have HWO:Hid (∀W,Kp none' (w.alloc (.cells #[.int .i64 s.pg,.bool s.l,.slice s.a1 s.n1 s.c1,.slice s.a2 s.n2 s.c2,.slice s.a3 s.n3 s.c3,.int .i64 s.kid,.int .i64 s.was] 75)) W->Calls prog 122 #[s.node] W fun e w'=>e=.returned (.bool n.without)/\Kp none' W w'):=fun W hk=>EN s.node n _ W ((hN.keptO hKA (fun _ _ h=>h)).keptO hk (fun _ _ h=>h));unfold SpV.node at HSI HWO;obtain⟨R,HR⟩:∃q,Hid (C.below ⟨s.pg,n,skid,was⟩ kid nab=q):=⟨_,hide rfl⟩;rw[HR.out]
 have HV0:Hid (∀k,V k->o k=5):=fun k e=>(hV k e).1;have HAX:Hid ((∀k,x.own k->o k=6)/\¬x.own g):=⟨hA.ox,hA.hg⟩;clear cell hC hN hWk hV hKA hold hso hA q0;go_enter func88,ntmps88;go_upto_region 1 with fail;generalize w.alloc (.cells #[.int .i64 s.pg,.bool s.l,.slice s.a1 s.n1 s.c1,.slice s.a2 s.n2 s.c2,.slice s.a3 s.n3 s.c3,.int .i64 s.kid,.int .i64 s.was] 75)=w1 at *;obtain⟨gb,Hgb⟩:∃q,Hid (w.heap.size=q):=⟨_,rfl⟩;obtain⟨o1,Ho1⟩:∃q,Hid (lab o w.heap.size 9=q):=⟨_,rfl⟩
 rw[Ho1.out]at HC1 HO1 HV1 HSO HOG HA1;rw[Hgb.out]at HOG HQ HSO |-;obtain⟨wo,Hwo⟩:∃q,Hid (n.without=q):=⟨_,hide rfl⟩;rw[Hwo.out]at HWO;obtain⟨nz,Hnz⟩:∃q,Hid (n.size=q):=⟨_,hide rfl⟩;rw[Hnz.out]at HSI;have q1:=HQ.out w1 (Kp.refl _ _) 1 _ rfl;have p2:w1.cell? ⟨gb,1+1,none⟩=some (.slice s.a1 s.n1 s.c1):=HQ.out w1 (Kp.refl _ _) 2 _ rfl;have p3:w1.cell? ⟨gb,1+2,none⟩=some (.slice s.a2 s.n2 s.c2):=HQ.out w1 (Kp.refl _ _) 3 _ rfl
 have p4:w1.cell? ⟨gb,1+3,none⟩=some (.slice s.a3 s.n3 s.c3):=HQ.out w1 (Kp.refl _ _) 4 _ rfl;go_upto_region 2 with (first
  | (go_at_call 48;refine HSI.out.mono ?_;rintro e w2 ⟨rfl,hk2⟩)
  | fail)
 replace q1:=hk2.cell q1 (fun h=>h);replace p2:=hk2.cell p2 (fun h=>h);replace p3:=hk2.cell p3 (fun h=>h);replace p4:=hk2.cell p4 (fun h=>h);have HWO2:=hide (HWO.out w2 hk2);have HK2:=hide hk2;clear hk2 HSI HWO;go_upto_if 12 with (first
  | (go_at_call 122;refine HWO2.out.mono ?_;rintro e w3 ⟨rfl,hk3⟩)
  | fail)
 have hk13:=HK2.out.thenN hk3;have q0:=HQ.out w3 hk13 0 _ rfl;replace q1:=HQ.out w3 hk13 1 _ rfl;have q2:=HQ.out w3 hk13 2 _ rfl;have q3:=HQ.out w3 hk13 3 _ rfl;have q4:=HQ.out w3 hk13 4 _ rfl;have q5:=HQ.out w3 hk13 5 _ rfl;have q6:=HQ.out w3 hk13 6 _ rfl;replace p2:w3.cell? ⟨gb,1+1,none⟩=some (.slice s.a1 s.n1 s.c1):=q2;replace p3:w3.cell? ⟨gb,1+2,none⟩=some (.slice s.a2 s.n2 s.c2):=q3;replace p4:w3.cell? ⟨gb,1+3,none⟩=some (.slice s.a3 s.n3 s.c3):=q4
 have HC3:=hide (HC1.out.kept (o':=o1) hk13 (fun _ _ _ h=>h) (fun _ _=>rfl));have HW3:=hide (HW1.out.keptN hk13);have HV3:Hid (∀k,V k->o1 k=5/\k<w3.heap.size):=fun k e=>⟨(HV1.out k e).1,PW (HV1.out k e).2 hk13.size⟩;have HN3:=hide (HN1.out.keptO hk13 (fun _ _ h=>h));have HA3:=hide (HA1.out.kept (o':=o1) hk13 (fun _ _ _ h=>h) (fun _ _=>rfl));have HSG:Hid (¬s.own gb):=fun e=>by have:=(HSO.out gb e).1;omega
 have HSZ3:Hid (∀k,k<w.heap.size->k<w3.heap.size):=fun k h=>PW (Nat.lt_trans h HGW.out) hk13.size;have HSO3:Hid (∀k,s.own k->k<w3.heap.size/\(o1 k=0\/6<=o1 k)):=fun k e=>⟨HSZ3.out k (by rw[Hgb.out];exact(HSO.out k e).1),(HSO.out k e).2⟩;have HK3:Hid (Kp (fun k=>1<=o k/\o k<=6) w w3):=(HKA.out.thenN hk13).mono (fun _ _ h=>by cases h);have HGL:Hid (g<w.heap.size\/True):=.inr trivial;clear HC1 HW1 HV1 HN1 HSO hk3 hk13 HKA HWO2 HK2 HA1;cases wo with
 | true =>
  have HRE:Hid (R=⟨{ C with sp:=C.sp++[s.pg] },nab.lose kid,true,0⟩):=by
   show _=_;rw[<-HR.out];unfold Cg.below;rw[if_pos Hwo.out]
  have dr:Kp none' w3 w3.drew:=Kp.drew _ _;have hCd:=HC3.out.kept (o':=o1) dr (fun _ _ _ h=>h) (fun _ _=>rfl);obtain⟨aq,nq,cq,a4,n4,c4,w4,esv,y4,hq,y4',f4,hC5,hk5⟩:=Cm.appSp s.pg hCd (by have:=HS.out;omega);have q0d:w3.drew.cell? ⟨gb,0,none⟩=some (.int .i64 s.pg):=q0;have q0a:∀oo,(w3.alloc oo).cell? ⟨gb,0,none⟩=some (.int .i64 s.pg):=fun oo=>(Kp.alloc none' w3 oo).cell q0 (fun h=>h);have y4n:w3.cell? ⟨b,4,none⟩=some (.slice aq nq cq):=y4
  have y4a:∀oo,(w3.alloc oo).cell? ⟨b,4,none⟩=some (.slice aq nq cq):=fun oo=>(Kp.alloc none' w3 oo).cell y4n (fun h=>h);have hA5:=(HA3.out.kept (o':=o1) dr (fun _ _ _ h=>h) (fun _ _=>rfl)).kept (o':=lab o1 w3.drew.heap.size 4) hk5 (fun k _ e e'=>by omega) (fun k h=>Ad h);have HA5:=hide hA5;have HC5:=hide hC5;have HW5:=hide ((HW3.out.keptN dr).kept hk5 (fun k _ e e'=>by have:=(HV3.out k e).1;omega))
  have HKK5:Hid (Kp (fun k=>1<=o k/\o k<=6) w (w4.setCell ⟨b,4,none⟩ (.slice a4 n4 c4))/\(∀k,k<w3.heap.size->lab o1 w3.drew.heap.size 4 k=o1 k)/\w3.heap.size<=(w4.setCell ⟨b,4,none⟩ (.slice a4 n4 c4)).heap.size):=⟨(HK3.out.thenN dr).trans hk5 (fun _ _ h=>h) (fun k e e'=>by rw[HO1.out k e]at e';omega),fun k h=>Ad h,hk5.size⟩;obtain⟨o5,Ho5⟩:∃q,Hid (lab o1 w3.drew.heap.size 4=q):=⟨_,hide rfl⟩;rw[Ho5.out]at HA5 HC5 HKK5;clear hCd hC5 hk5 esv y4 dr q1 q2 q3 q4 q5 q6 p2 p3 p4 hA5
  go_upto_region 3 with fail;go_region_law (first
   | (refine Au (by rfl) (.tmp 20) (.tmp 23) 71 71 (by rfl) _ _ (by rfl) (by rfl) hq ?_)
   | fail)
  all_goals (
   generalize w4.setCell ⟨b,4,none⟩ (.slice a4 n4 c4)=w5 at *;have kI:w5.cell? ⟨g,i*7+5,none⟩=some (.int .i64 (kid:Int)):=(row_step HA5.out.row i HA5.out.hi 5 _ (by rw[HA5.out.hx,<-HKID.out];rfl)).1;have HLS:=hide (I9 g cap m i rb base xa x nab kid w5 HA5.out.row HA5.out.hi HA5.out.hx HA5.out.nd HA5.out.hg HA5.out.hp (by have:=HKL.out;have:=HKS.out;omega) HKS.out (by have:=HN6.out;omega));clear hq y4n y4a q0d q0a q0 y4' f4;go_wp2_with (first
    | (go_at_call 123;refine HLS.out.mono ?_;rintro e w6 ⟨rfl,x',hrow',hN',hf',ho',hk6⟩)
    | fail)
   go_ret2;rw[HRE.out];have hlab:∀k,(k=g\/x.own k)->o5 k=6:=fun k e=>by rcases e with e|e;(rw[e];exact HA5.out.og);exact HA5.out.ox k e
   have hoo:∀k,k<w.heap.size->o5 k=o k:=fun k h=>by rw[HKK5.out.2.1 k (HSZ3.out k h),HO1.out k h]
   have hV5:∀k,V k->o5 k=5/\k<w5.heap.size:=fun k e=>⟨by rw[HKK5.out.2.1 k (HV3.out k e).2];exact(HV3.out k e).1,PW (HV3.out k e).2 HKK5.out.2.2⟩
   refine⟨rfl,o5,V,wv,tv,_,xs,HC5.out.kept hk6 (fun k _ h1 h2=>by have:=hlab k h2;omega) (fun _ _=>rfl),(HW5.out.kept hk6 (fun k _ e e'=>by have:=(hV5 k e).1;have:=hlab k e';omega)).mono (fun _ _ h=>h) (by omega),fun k e=>⟨(hV5 k e).1,PW (hV5 k e).2 hk6.size⟩,HKK5.out.1.trans hk6 (fun _ _ h=>h) (fun k h e=>by have:=hlab k e;rw[hoo k h]at this;omega),fun _ _=>⟨hoo,x',hrow',hN',hf',fun k e=>⟨.inl (HAX.out.1 k (ho' k e)),by rw[hlab k (.inr (ho' k e))];omega⟩,fun e=>HAX.out.2 (ho' g e)⟩,fun h=>(by cases h),fun k e _=>HV0.out k e⟩)
 | false =>
  have hwf:¬(n.without=true):=by rw[Hwo.out];simp
  by_cases h2:256<nz
  ·have HRE:Hid (R=⟨C.split s.pg n,C.splitAb kid n nab,true,C.takeZ.2⟩):=by
    show _=_;rw[<-HR.out];unfold Cg.below;rw[if_neg hwf,Hnz.out,if_pos h2]
   have hg2:(256:Int)<(nz:Int):=by omega
   obtain⟨hS,t2,t3⟩:=HA3.out.toS (fun e=>by have:=HKS.out;rw[e]at this;simp at this)
   have HSP:=hide (FF b r c mm g m cap i rb base o1 V C wv tv sv xs xa s x n nab kid w3 HC3.out HW3.out HV3.out (by have:=HM.out;omega) (by have:=HT.out;omega) (by have:=HS.out;omega) (by have:=HL.out;omega) HN3.out HSO3.out hS (Nat.le_trans HB.out (Nat.le_of_lt_succ (Nat.lt_succ_of_le (HK3.out.size)))) HKID.out HKL.out (by have:=HKL.out;have:=HKS.out;omega) (fun _=>t2) (fun _=>t3) (by have:=HKS.out;have:=HN6.out;omega) (by have:=HN6.out;omega) HZ.out (by have:=HP.out;omega) (by have:=HKK.out;omega) (by have:=HD.out;omega) (by have:=HSZ.out;omega))
   obtain⟨te,Hte⟩:∃q,Hid (C.takeZ.2=q):=⟨_,hide rfl⟩;rw[Hte.out]at HSP HRE;clear hwf h2 hS t2 t3;go_wp2_with (first
    | (go_at_call 124;refine HSP.out.mono ?_;rintro e w4 ⟨rfl,o4,V4,wv4,tv4,sv4,xs4,x',hSt,hf⟩)
    | fail)
   go_ret2;rw[HRE.out];have hoo:∀k,k<w.heap.size->o4 k=o k:=fun k h=>by rw[hSt.old k (HSZ3.out k h),HO1.out k h]
   refine⟨rfl,o4,V4,wv4,tv4,sv4,xs4,hSt.cm,hSt.wk,hSt.hv,HK3.out.trans hSt.kp (fun _ _ h=>h) (fun k h e=>by rw[HO1.out k h]at e;exact e),fun _ _=>⟨hoo,x',hSt.ab.row,hSt.ab.nd,hf,fun k e=>⟨?_,by rw[hSt.ab.ox k e];omega⟩,hSt.ab.hg⟩,fun h=>(by cases h),fun k e h=>by rw[<-hoo k h];exact(hSt.hv k e).1⟩;rcases Nat.lt_or_ge k w.heap.size with h|h
   ·left;rw[<-hoo k h];exact hSt.ab.ox k e
   ·exact .inr h
  ·have hg2:¬(256:Int)<(nz:Int):=by omega
   by_cases h3:nz<128/\nz<was
   ·have HRE:Hid (R=C.gather s.pg n kid nab):=by
     show _=_;rw[<-HR.out];unfold Cg.below;rw[if_neg hwf,Hnz.out,if_neg h2,if_pos h3]
    have hg3:(nz:Int)<128:=by omega
    have hg4:(nz:Int)<s.was:=by have:=HWAS.out;omega
    have HGA:=hide (Kh b r c mm g m cap i rb base o1 V C wv tv sv xs xa s x n nab kid w3 HC3.out HW3.out HV3.out HK.out HL.out HS.out HN3.out HSO3.out HA3.out HKID.out HKL.out HKS.out HN6.out hnl HNZ.out HP.out HKK.out HD.out HSZ.out);obtain⟨G,HG⟩:∃q,Hid (C.gather s.pg n kid nab=q):=⟨_,hide rfl⟩;rw[HG.out]at HGA HRE;obtain⟨Gg,HGg⟩:∃q,Hid (G.go=q):=⟨_,hide rfl⟩;obtain⟨Ge,HGe⟩:∃q,Hid (G.e=q):=⟨_,hide rfl⟩;rw[HGg.out,HGe.out]at HGA;clear hwf h2 h3;go_wp2_with (first
     | (go_at_call 125;refine HGA.out.mono ?_;rintro e w4 ⟨rfl,o4,V4,wv4,tv4,sv4,xs4,hC4,hW4,hV4,hk4,hx4,hr4,hvo4⟩)
     | fail)
    go_ret2;rw[HRE.out,HGg.out,HGe.out];have hSG:G.C.S=G.C.S:=rfl;refine⟨rfl,o4,V4,wv4,tv4,sv4,xs4,hC4,hW4.mono (fun _ _ h=>h) (by omega),hV4,HK3.out.trans hk4 (fun _ _ h=>h) (fun k h e=>by rw[HO1.out k h]at e;exact e),fun e1 e2=>?_,hr4,fun k e h=>by rw[<-HO1.out k h];exact hvo4 k e (HSZ3.out k h)⟩;obtain⟨h5,x',h6,h7,h8,h9,h10⟩:=hx4 e1 e2;refine⟨fun k h=>by rw[h5 k (HSZ3.out k h),HO1.out k h],x',h6,h7,h8,fun k e=>⟨?_,(h9 k e).2⟩,h10⟩;rcases Nat.lt_or_ge k w.heap.size with h|h
    ·left;rcases (h9 k e).1 with e'|e'
     ·rw[<-HO1.out k h];exact e'
     ·have:=HSZ3.out k h;omega
    ·exact .inr h
   ·have HRE:Hid (R=⟨C.write s.pg n,nab,false,0⟩):=by
     show _=_;rw[<-HR.out];unfold Cg.below;rw[if_neg hwf,Hnz.out,if_neg h2,if_neg h3]
    have hex:∃o6:Nat->Nat,(∀k,s.own k->o6 k=0)/\(∀k,¬s.own k->o6 k=o1 k):=by
     classical exact⟨fun k=>if s.own k then 0 else o1 k,fun k h=>if_pos h,fun k h=>if_neg h⟩
    obtain⟨o6,h60,h61⟩:=hex;have h65:∀k,o1 k<=5->o6 k=o1 k:=fun k h=>by
     by_cases e:s.own k
     ·rw[h60 k e];have:=(HSO3.out k e).2;omega
     ·exact h61 k e
    have HWRT:=hide (AZ b r o6 C wv tv sv xs ⟨s.pg,s.l,s.a1,s.n1,s.c1,s.a2,s.n2,s.c2,s.a3,s.n3,s.c3,0,0⟩ n w3 (HC3.out.relabel (fun k h=>h65 k (by omega))) ⟨rfl,HN3.out,fun k e=>⟨(HSO3.out k e).1,h60 k e⟩⟩ rfl rfl (by have:=HL.out;omega));have HWEND:Hid (∀xs' w7 wv7 o7,Cm w7 b r o7 (C.write s.pg n) wv7 tv sv xs'->Kp (fun k=>o6 k=1\/o6 k=2) w3 w7->(∀k,k<w3.heap.size->o7 k=o6 k)->B4 b r c (mm+2) g m cap i rb base o ⟨C.write s.pg n,nab,false,0⟩ xa x w w7):=by
     intro xs' w7 wv7 o7 hC7 hk7 ho7;have hV6:∀k,V k->o6 k=5:=fun k e=>by rw[h65 k (by have:=(HV3.out k e).1;omega)];exact(HV3.out k e).1
     refine⟨o7,V,wv7,tv,sv,xs',hC7,(HW3.out.kept hk7 (fun k _ e e'=>by have:=hV6 k e;omega)).mono (fun _ _ h=>h) (by omega),fun k e=>⟨by rw[ho7 k (HV3.out k e).2];exact hV6 k e,PW (HV3.out k e).2 hk7.size⟩,?_,fun h=>(by cases h),fun _=>Ao HA3.out.row hk7 (fun k e e'=>by have e1:g=k:=Option.some.inj e;subst e1;by_cases hg:s.own g;(have:=h60 g hg;omega);(have h1:=h61 g hg;have h2:=HA3.out.og;omega)),fun k e _=>HV0.out k e⟩
     refine HK3.out.trans hk7 (fun _ _ h=>h) (fun k h e=>?_);have hn:¬s.own k:=fun e'=>by have:=h60 k e';omega
     rw[h61 k hn,HO1.out k h]at e;omega
    clear h60 h61 h65 hwf h2;by_cases h4:nz<128
    ·have hg3:(nz:Int)<128:=by omega
     have hg4:¬(nz:Int)<s.was:=by have:=HWAS.out;omega
     clear h3 h4;go_wp2_with (first
      | (go_at_call 126;refine HWRT.out.mono ?_;rintro e w7 ⟨rfl,o7,wv7,ho7,hC7,hk7⟩)
      | fail)
     go_ret2;rw[HRE.out];exact⟨rfl,HWEND.out _ w7 wv7 o7 hC7 hk7 ho7⟩
    ·have hg3:¬(nz:Int)<128:=by omega
     clear h3 h4;go_wp2_with (first
      | (go_at_call 126;refine HWRT.out.mono ?_;rintro e w7 ⟨rfl,o7,wv7,ho7,hC7,hk7⟩)
      | fail)
     go_ret2;rw[HRE.out];exact⟨rfl,HWEND.out _ w7 wv7 o7 hC7 hk7 ho7⟩
end Go.Proofs.YtjojffepakclcaaGreatDoor
namespace Go.Proofs.YtjojffepakclcaaGreatDoor
structure Bd (C:Cg) (W P T K:Nat):Prop where
 ws:C.ws.length<=W
 sp:C.sp.length<=P
 tk:C.tk.length<=T
 k:C.k<=K
 now:C.S.now.length<=1000
 oz:∀z∈C.sp,okZ z
 wz:∀p∈C.ws,p.2.ps.length<=100000/\p.2.ks.length<=100000
theorem Bd.mono{C:Cg}{W P T K W' P' T' K':Nat}(h:Bd C W P T K)(h1:W<=W')(h2:P<=P')(h3:T<=T')(h4:K<=K'):Bd C W' P' T' K':=⟨by have:=h.ws;omega,by have:=h.sp;omega,by have:=h.tk;omega,by have:=h.k;omega,h.now,h.oz,h.wz⟩
structure NdB (n:Nd) (Z:Nat):Prop where
 ps:n.ps.length<=2000
 ks:n.ks.length<=2000
 kd:n.kd.length<=2000
 sz:n.size<=Z
structure GoodSp (a:Sp):Prop where
 kid:a.kid<=a.nd.ks.length
 kdl:a.nd.kd.length=a.nd.ks.length+1
 ks:a.nd.ks.length<=256
 ps:a.nd.ps.length<=256
 lf:a.nd.leaf=false
 sz:a.nd.size<=256
 oz:∀z∈a.nd.kd,okZ z
theorem Fa{l:List Int}(h:∀z∈l,okZ z)(i:Nat):okZ (l.getD i 0):=by
 by_cases hi:i<l.length
 ·rw[List.getD_eq_getElem?_getD,List.getElem?_eq_getElem hi];exact h _ (List.getElem_mem hi)
 ·rw[List.getD_eq_getElem?_getD,List.getElem?_eq_none (by omega)];exact⟨by simp,by simp⟩
theorem Mo(l:List ByteArray):∀k n m,lowest l k n=some m->m<n+k:=by
 intro k;induction k with
 | zero=>intro n m h;cases h
 | succ k ih =>
  intro n m h;unfold lowest at h;split at h
  ·have:=ih (n+1) m h;omega
  ·have:=Option.some.inj h;omega
theorem Lu(S:Sw)(h:S.now.length<=1000):okZ S.takeE.1:=by
 unfold Sw.takeE okZ;split
 ·simp
 ·cases hf:S.free with
  | none=>simp
  | some n =>
   have:=Mo _ _ _ _ (show lowest S.now (S.now.length - 1) 1=some n from hf);simp only;omega
theorem Et{C:Cg}{W P T K:Nat}(h:Bd C W P T K):okZ C.takeZ.1:=by
 unfold Cg.takeZ;split
 ·exact Lu _ h.now
 ·exact Fa h.oz _
theorem Oo(S:Sw)(Z:ByteArray):(S.take Z).now.length=S.now.length:=by
 unfold Sw.take;split
 ·rfl
 ·split
  ·show ((turnL S.now _).set _ _).length=_;rw[List.length_set,Bs]
  ·rfl
theorem Bd.take{C:Cg}{W P T K:Nat}(h:Bd C W P T K):Bd C.take W P (T+1) K:=by
 unfold Cg.take;split
 ·refine⟨h.ws,h.sp,?_,h.k,by show (C.S.take _).now.length<=_;rw[Oo];exact h.now,h.oz,h.wz⟩;show (if C.S.takeE.2=0 then C.tk++[C.S.takeE.1] else C.tk).length<=T+1;have:=h.tk;split
  ·rw[List.length_append];simp;omega
  ·omega
 ·exact⟨h.ws,Nat.le_trans (List.length_take_le _ _) (by have:=h.sp;omega),by have:=h.tk;show C.tk.length<=_;omega,h.k,h.now,fun z hz=>h.oz z (List.mem_of_mem_take hz),h.wz⟩
theorem Bd.write{C:Cg}{W P T K:Nat}(h:Bd C W P T K)(z:Int)(n:Nd)(h1:n.ps.length<=100000)(h2:n.ks.length<=100000):Bd (C.write z n) (W+1) P T K:=by
 refine⟨?_,h.sp,h.tk,h.k,h.now,h.oz,fun p hp=>?_⟩
 ·show (C.ws++[(z,n)]).length<=_;have:=h.ws;rw[List.length_append];simp;omega
 ·rcases List.mem_append.1 hp with e|e
  ·exact h.wz p e
  ·rw[List.mem_singleton.1 e];exact⟨h1,h2⟩
theorem Bd.spare{C:Cg}{W P T K:Nat}(h:Bd C W P T K)(z:Int)(hz:okZ z):Bd { C with sp:=C.sp++[z] } W (P+1) T K:=by
 refine⟨h.ws,?_,h.tk,h.k,h.now,fun y hy=>?_,h.wz⟩
 ·show (C.sp++[z]).length<=_;have:=h.sp;rw[List.length_append];simp;omega
 ·rcases List.mem_append.1 hy with e|e
  ·exact h.oz y e
  ·rw[List.mem_singleton.1 e];exact hz
theorem Bd.co{C:Cg}{W P T K:Nat}(h:Bd C W P T K)(z:Int):Bd (C.co z) W P T (K+1):=⟨h.ws,h.sp,h.tk,by have:=h.k;have:=Jt C.S C.k z;show trK C.S C.k z<=K+1;omega,h.now,h.oz,h.wz⟩
theorem KA{α:Type}(f:α->Nat):∀(l:List α) (x:α),x∈l->f x<=(l.map f).sum
 | [],x,h=>by cases h
 | y::l,x,h=>by
  simp only[List.map_cons,List.sum_cons]
  rcases List.mem_cons.1 h with e|e
  ·rw[e];omega
  ·have:=KA f l x e;omega
theorem Ih(n:Nd):kSize n.mid<=n.size+3:=by
 unfold Nd.mid;cases hp:n.parts with
 | false=>rw[if_neg (by simp)];show 3+0<=_;omega
 | true =>
  rw[if_pos rfl];cases hl:n.leaf with
  | true =>
   rw[if_pos rfl];have e1:n.size=2+(n.ps.map Pr.size).sum:=by unfold Nd.size;rw[hl,if_pos rfl]
   by_cases hi:n.at_<n.ps.length
   ·rw[List.getD_eq_getElem?_getD,List.getElem?_eq_getElem hi];have h1:=KA Pr.size n.ps _ (List.getElem_mem hi);have h2:(n.ps[n.at_]).size=2+(n.ps[n.at_]).k.size+(n.ps[n.at_]).v.size:=rfl;show 3+(n.ps[n.at_]).k.size<=_;omega
   ·rw[List.getD_eq_getElem?_getD,List.getElem?_eq_none (by omega)];show 3+0<=_;omega
  | false =>
   rw[if_neg (by simp)];have:=Fp n hl n.at_;omega
theorem Em(n:Nd):n.fst.ps.length<=n.ps.length/\n.fst.ks.length<=n.ks.length/\n.snd.ps.length<=n.ps.length/\n.snd.ks.length<=n.ks.length:=by
 unfold Nd.fst Nd.snd;cases hp:n.parts with
 | false=>simp
 | true =>
  cases hl:n.leaf with
  | true=>simp[List.length_take,List.length_drop];omega
  | false=>simp[List.length_take,List.length_drop];omega
theorem N2(ks:List ByteArray)(i:Nat)(x:ByteArray):((ks.set i x).map kSize).sum<=(ks.map kSize).sum+kSize x:=by
 induction ks generalizing i with
 | nil=>simp
 | cons k ks ih =>
  cases i with
  | zero=>simp only[PU,List.map_cons,List.sum_cons];omega
  | succ i=>simp only[PV,List.map_cons,List.sum_cons];have:=ih i;omega
theorem Ns(ks:List ByteArray)(i:Nat)(x:ByteArray):((insAt ks i x).map kSize).sum=(ks.map kSize).sum+kSize x/\(insAt ks i x).length=ks.length+1:=by
 unfold insAt;have h1:(ks.take i++ks.drop i)=ks:=List.take_append_drop i ks;have h2:(ks.map kSize).sum=((ks.take i).map kSize).sum+((ks.drop i).map kSize).sum:=by rw[<-List.sum_append,<-List.map_append,h1]
 have h3:ks.length=(ks.take i).length+(ks.drop i).length:=by rw[<-List.length_append,h1]
 refine⟨?_,?_⟩
 ·simp only[List.map_append,List.map_cons,List.sum_append,List.sum_cons];omega
 ·simp only[List.length_append,List.length_cons];omega
theorem JU(ks:List ByteArray)(i:Nat):((ks.eraseIdx i).map kSize).sum<=(ks.map kSize).sum:=by
 induction ks generalizing i with
 | nil=>simp
 | cons k ks ih =>
  cases i with
  | zero=>simp only[List.eraseIdx_cons_zero,List.map_cons,List.sum_cons];omega
  | succ i=>simp only[List.eraseIdx_cons_succ,List.map_cons,List.sum_cons];have:=ih i;omega
theorem GoodSp.ndB{a:Sp}(h:GoodSp a){Z:Nat}(hz:256<=Z):NdB a.nd Z:=⟨by have:=h.ps;omega,by have:=h.ks;omega,by have:=h.kdl;have:=h.ks;omega,by have:=h.sz;omega⟩
theorem GoodSp.lose{a:Sp}(h:GoodSp a)(i:Nat){Z:Nat}(hz:256<=Z):NdB (a.nd.lose i) Z:=by
 have e1:a.nd.size=4+(a.nd.ks.map kSize).sum:=by unfold Nd.size;rw[h.lf,if_neg (by simp)]
 have e2:(a.nd.lose i).size=4+((a.nd.lose i).ks.map kSize).sum:=by unfold Nd.size;rw[show (a.nd.lose i).leaf=a.nd.leaf from rfl,h.lf,if_neg (by simp)]
 have h1:=h.sz;have h2:=h.kdl;have h3:=h.ks;have h4:=h.ps;refine⟨by show a.nd.ps.length<=_;omega,?_,?_,?_⟩
 ·show (if a.nd.ks.length=0 then a.nd.ks else a.nd.ks.eraseIdx (i - 1)).length<=_;split
  ·omega
  ·have:=List.length_eraseIdx_le a.nd.ks (i - 1);omega
 ·have:=List.length_eraseIdx_le a.nd.kd i;show (a.nd.kd.eraseIdx i).length<=_;omega
 ·rw[e2];show 4+((if a.nd.ks.length=0 then a.nd.ks else a.nd.ks.eraseIdx (i - 1)).map kSize).sum<=_;split
  ·omega
  ·have:=JU a.nd.ks (i - 1);omega
theorem G6{a:Sp}(h:GoodSp a)(z:Int)(n:Nd)(Z:Nat)(hn:NdB n Z):∀(l:List Nat) (g:Option (Nat × Nd)) (C:Cg) (W P T K:Nat),Bd C W P T K->(∀p,g=some p->p.2.ps.length<=100000/\p.2.ks.length<=100000/\p.2.size<=Z+600) ->
  Bd (gathG z n a.nd a.kid l g C).C (W+2) (P+1) T (K+l.length)/\NdB (gathG z n a.nd a.kid l g C).ab (Z+1000)
 | [],g,C,W,P,T,K,hB,hg=>by
  show Bd (C.gathF z n a.nd g).C _ _ _ _/\NdB (C.gathF z n a.nd g).ab _
  have hw:Bd (C.write z n) (W+2) (P+1) T (K+0)/\NdB a.nd (Z+1000):=⟨(hB.write z n (by have:=hn.ps;omega) (by have:=hn.ks;omega)).mono (by omega) (by omega) (by omega) (by omega),h.ndB (by omega)⟩
  cases g with
  | none=>exact hw
  | some p =>
   obtain⟨g1,g2,g3⟩:=hg p rfl
   unfold Cg.gathF
   simp only
   split
   ·have hp:=Em p.2
    refine⟨((hB.write _ p.2.fst (by omega) (by omega)).write _ p.2.snd (by omega) (by omega)).mono (by omega) (by omega) (by omega) (by show K<=K+0;omega),?_⟩
    have e1:a.nd.size=4+(a.nd.ks.map kSize).sum:=by unfold Nd.size;rw[h.lf,if_neg (by simp)]
    have h1:=h.sz
    have h2:=Ih p.2
    have h3:=N2 a.nd.ks p.1 p.2.mid
    have h4:=h.ks
    have h5:=h.kdl
    have h6:=h.ps
    refine⟨by show a.nd.ps.length<=_;omega,by show (a.nd.ks.set _ _).length<=_;rw[List.length_set];omega,by show a.nd.kd.length<=_;omega,?_⟩
    have e2:({ a.nd with ks:=a.nd.ks.set p.1 p.2.mid }:Nd).size=4+((a.nd.ks.set p.1 p.2.mid).map kSize).sum:=by unfold Nd.size;rw[show ({ a.nd with ks:=a.nd.ks.set p.1 p.2.mid }:Nd).leaf=a.nd.leaf from rfl,h.lf,if_neg (by simp)]
    rw[e2]
    omega
   ·exact hw
 | bt::r,g,C,W,P,T,K,hB,hg=>by
  unfold gathG
  split
  ·split
   ·rename_i hE hL
    have hJ:(C.coJ a.kid bt n a.nd).ps.length<=100000/\(C.coJ a.kid bt n a.nd).ks.length<=100000/\(C.coJ a.kid bt n a.nd).size<=Z+600:=by
     have h1:=EB C (coZ a.kid bt a.nd);have h2:=Fp a.nd h.lf bt;have h3:=h.sz;have h4:=hn.ps;have h5:=hn.ks;have h6:=hn.sz;unfold Cg.coJ;split
     ·have:=Dd n (C.coN (coZ a.kid bt a.nd)) (a.nd.ks.getD bt ⟨#[]⟩) hL.symm;omega
     ·have:=Dd (C.coN (coZ a.kid bt a.nd)) n (a.nd.ks.getD bt ⟨#[]⟩) hL;omega
    split
    ·have hb:=((hB.co (coZ a.kid bt a.nd)).write (a.nd.kd.getD bt 0) (C.coJ a.kid bt n a.nd) hJ.1 hJ.2.1).spare (a.nd.kd.getD (bt+1) 0) (Fa h.oz _);exact⟨hb.mono (by omega) (by omega) (by omega) (by simp only[List.length_cons];omega),h.lose _ (by omega)⟩
    ·obtain⟨i1,i2⟩:=G6 h z n Z hn r (g.or (some (bt,C.coJ a.kid bt n a.nd))) (C.co (coZ a.kid bt a.nd)) W P T (K+1) (hB.co _) (fun p hp=>by
      cases g with
      | some p'=>exact hg p hp
      | none =>
       have:(bt,C.coJ a.kid bt n a.nd)=p:=Option.some.inj hp;rw[<-this];exact hJ)
     exact⟨i1.mono (by omega) (by omega) (by omega) (by simp only[List.length_cons];omega),i2⟩
   ·obtain⟨i1,i2⟩:=G6 h z n Z hn r g (C.co (coZ a.kid bt a.nd)) W P T (K+1) (hB.co _) hg;exact⟨i1.mono (by omega) (by omega) (by omega) (by simp only[List.length_cons];omega),i2⟩
  ·exact⟨(hB.co (coZ a.kid bt a.nd)).mono (by omega) (by omega) (by omega) (by simp only[List.length_cons];omega),h.ndB (by omega)⟩
theorem MQ{a:Sp}(h:GoodSp a)(s:Sp)(hs:okZ s.page)(Z:Nat)(hn:NdB s.nd Z)(hZ:256<=Z){C:Cg}{W P T K:Nat}(hB:Bd C W P T K):Bd (C.below s a.kid a.nd).C (W+2) (P+1) (T+1) (K+2)/\NdB (C.below s a.kid a.nd).ab (Z+1000):=by
 unfold Cg.below;split
 ·exact⟨(hB.spare s.page hs).mono (by omega) (by omega) (by omega) (by omega),h.lose _ (by omega)⟩
 ·split
  ·have hp:=Em s.nd;have h1:=hn.ps;have h2:=hn.ks;constructor
   ·show Bd (C.split s.page s.nd) _ _ _ _;unfold Cg.split;split
    ·exact((hB.take.write s.page s.nd.fst (by omega) (by omega)).write C.takeZ.1 s.nd.snd (by omega) (by omega)).mono (by omega) (by omega) (by omega) (by omega)
    ·exact hB.take.mono (by omega) (by omega) (by omega) (by omega)
   ·show NdB (C.splitAb a.kid s.nd a.nd) _;unfold Cg.splitAb;split
    ·have e1:a.nd.size=4+(a.nd.ks.map kSize).sum:=by unfold Nd.size;rw[h.lf,if_neg (by simp)]
     have h3:=h.sz;have h4:=Ih s.nd;have h5:=Ns a.nd.ks a.kid s.nd.mid;have h6:=h.ks;have h7:=h.kdl;have h8:=h.ps;have h9:=hn.sz;refine⟨by show a.nd.ps.length<=_;omega,by show (insAt a.nd.ks _ _).length<=_;omega,?_,?_⟩
     ·show (insAt a.nd.kd (a.kid+1) C.takeZ.1).length<=_;unfold insAt;have hl:a.nd.kd.length=(a.nd.kd.take (a.kid+1)).length+(a.nd.kd.drop (a.kid+1)).length:=by rw[<-List.length_append,List.take_append_drop]
      simp only[List.length_append,List.length_cons];omega
     ·have e2:({ a.nd with ks:=insAt a.nd.ks a.kid s.nd.mid,kd:=insAt a.nd.kd (a.kid+1) C.takeZ.1 }:Nd).size=4+((insAt a.nd.ks a.kid s.nd.mid).map kSize).sum:=by unfold Nd.size;rw[show ({ a.nd with ks:=insAt a.nd.ks a.kid s.nd.mid,kd:=insAt a.nd.kd (a.kid+1) C.takeZ.1 }:Nd).leaf=a.nd.leaf from rfl,h.lf,if_neg (by simp)]
      rw[e2];omega
    ·exact h.ndB (by omega)
  ·split
   ·unfold Cg.gather;have h2:(bts a.kid a.nd).length<=2:=by
     unfold bts;rw[List.length_append];split<;>split<;>simp
    obtain⟨i1,i2⟩:=G6 h s.page s.nd Z hn (bts a.kid a.nd) none C W P T K hB (fun p hp=>by cases hp);exact⟨i1.mono (by omega) (by omega) (by omega) (by omega),i2⟩
   ·exact⟨(hB.write s.page s.nd (by have:=hn.ps;omega) (by have:=hn.ks;omega)).mono (by omega) (by omega) (by omega) (by omega),h.ndB (by omega)⟩
end Go.Proofs.YtjojffepakclcaaGreatDoor
