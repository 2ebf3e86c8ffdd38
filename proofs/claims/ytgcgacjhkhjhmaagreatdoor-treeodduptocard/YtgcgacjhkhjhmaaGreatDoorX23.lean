/- Part of the proof: contracts over the turned program. -/
import Derived.Lib.ConvBytes
import Derived.Test.YtgcgacjhkhjhmaaGreatDoorX19
set_option linter.unusedVariables false
set_option maxHeartbeats 4000000
open Go.Proofs.Tryz
namespace Go.Proofs.YtgcgacjhkhjhmaaGreatDoor
open Go.RowKit
theorem JD{p:ByteArray}{i:Nat}(h:i<p.size):AZ p i=p[i]:=by
 unfold AZ;have h':i<p.data.toList.length:=by simpa using h
 rw[List.getD_eq_getElem?_getD,List.getElem?_eq_getElem h'];simp;rfl
theorem Mr(w:World)(e:TypeId)(s:ByteArray)(j:Nat)(hj:j<s.size):(Lib.bytesWorld w e s).frozen? ⟨w.heap.size,j,none⟩=false:=by
 unfold World.frozen?;rw[Lib.bytesWorld_at_new];have:s.size<=(Lib.bytesCells w e s).size:=by simp[Lib.bytesCells]
 simp;omega
theorem PY(w:World)(e:TypeId)(s:ByteArray)(m:Nat)(hm:m<s.size)(c:UInt8)(j:Nat)(hj:j<s.size) :
  ((Lib.bytesWorld w e s).setCell ⟨w.heap.size,m,none⟩ (.int .u8 (c.toNat:Int))).cell? ⟨w.heap.size,j,none⟩=some (.int .u8 (((s.data.toList.set m c).getD j 0).toNat:Int)):=by
 have hl:s.data.toList.length=s.size:=by rw[Array.length_toList];rfl
 by_cases h:m=j
 ·subst h;rw[World.cell?_setCell_same (w:=Lib.bytesWorld w e s) (h:=Lib.bytesWorld_cell w e s m hj)];simp[List.getD_eq_getElem?_getD,hl,hj]
 ·have hne:(⟨w.heap.size,m,none⟩:Addr)≠⟨w.heap.size,j,none⟩:=by
   intro he;exact h (congrArg Addr.off he)
  rw[World.cell?_setCell_other (h:=hne),Lib.bytesWorld_cell w e s j hj];simp[List.getD_eq_getElem?_getD,h]
theorem M3(p:ByteArray)(m:Nat)(c:UInt8)(hm:m<p.size)(w:World):∃W1 cap,
  (convert 9 112 (.string p)).run prog w=.ok (.slice (some ⟨w.heap.size,0,none⟩) p.size cap) W1/\W1.cell? ⟨w.heap.size,m,none⟩=some (.int .u8 ((AZ p m).toNat:Int))/\W1.frozen? ⟨w.heap.size,m,none⟩=false/\Kp none' w W1/\w.heap.size<W1.heap.size /\
  ∀W2,Kp none' (W1.setCell ⟨w.heap.size,m,none⟩ (.int .u8 (c.toNat:Int))) W2->(convert 112 9 (.slice (some ⟨w.heap.size,0,none⟩) p.size cap)).run prog W2=.ok (.string ⟨(p.data.toList.set m c).toArray⟩) W2:=by
 have hcv:=Lib.run_convert_string_bytes (P:=prog) w 9 112 5 p underlying9 underlying112 underlying5;have hcl:=Lib.bytesWorld_cell w 5 p m hm;have hl:p.data.toList.length=p.size:=by rw[Array.length_toList];rfl
 refine⟨Lib.bytesWorld w 5 p,grownCap w p.size 0 5,hcv,hcl,Mr w 5 p m hm,⟨rfl,rfl,rfl,by rw[Lib.bytesWorld_size];omega,fun k hk _=>Lib.bytesWorld_at_old w 5 p k hk⟩,by rw[Lib.bytesWorld_size];omega,fun W2 hk=>?_⟩;have h:=run_convert_bytes_back (P:=prog) W2 112 9 5 ⟨w.heap.size,0,none⟩ (grownCap w p.size 0 5) (p.data.toList.set m c) underlying112 underlying5 underlying9 (fun j hj=>by
  have hj':j<p.size:=by rw[List.length_set,hl]at hj;exact hj
  have h1:=hk.cell (PY w 5 p m hm c j hj') (fun h=>h);rw[List.getD_eq_getElem?_getD,List.getElem?_eq_getElem hj]at h1;have e:(⟨w.heap.size,0,none⟩:Addr).add j=⟨w.heap.size,j,none⟩:=by unfold Addr.add;split<;>simp_all
  rw[e];exact h1)
 rw[List.length_set,hl]at h;exact h
theorem Ow.storedS{w:World}{g n cap:Nat}{l:List ByteArray}(h:Ow Value.string 9 w 0 (.slice (some ⟨g,0,none⟩) n cap) l)(j:Nat)(x:ByteArray)(hn:n=l.length):Ow Value.string 9 (w.setCell ⟨g,j,none⟩ (.string x)) 0 (.slice (some ⟨g,0,none⟩) n cap) (l.set j x):=(Ow.stored h j x).1
theorem MQ(b:UInt8)(k:Nat)(hk:k<8):bits .xor .u8 (b.toNat:Int) (2 ^ k%256)=((b ^^^ UInt8.ofNat (2 ^ k)).toNat:Int):=by
 have h:2 ^ k<256:=by
  have:=Nat.pow_lt_pow_right (a:=2) (by omega) hk;simpa using this
 have hx:b.toNat ^^^ 2 ^ k<256:=Nat.xor_lt_two_pow (n:=8) b.toNat_lt h;have e1:((2:Int) ^ k%256%2 ^ IntKind.u8.bits).toNat=2 ^ k:=by
  show ((2:Int) ^ k%256%256).toNat=2 ^ k;have:((2:Int) ^ k)=((2 ^ k:Nat):Int):=by simp
  rw[this];generalize 2 ^ k=y at h;omega
 have e2:b.toNat%2 ^ IntKind.u8.bits=b.toNat:=Nat.mod_eq_of_lt b.toNat_lt;have e3:2 ^ k%256=2 ^ k:=Nat.mod_eq_of_lt h;simp[bits];rw[e1,e2,e3];generalize b.toNat ^^^ 2 ^ k=x at hx;show (x:Int)%256=(x:Int);omega
structure Wm (w:World) (r gP:Nat) (V:Nat->Prop) (c:Nat) (P:List ByteArray) (NL:List (List Chg)):Prop where
 c0:w.cell? ⟨r,0,none⟩=some (.pointer (some ⟨c,0,none⟩))
 c1:w.cell? ⟨r,1,none⟩=some (.bool false)
 c2:∃cN,w.cell? ⟨r,2,none⟩=some (.slice (some ⟨gP,0,none⟩) P.length cN)/\Ow Value.string 9 w 0 (.slice (some ⟨gP,0,none⟩) P.length cN) P
 c3:∃v vs,w.cell? ⟨r,3,none⟩=some v/\Ow (fun x:Value=>x) 72 w 0 v vs/\(∀k,v.ownBlock=some k->V k/\k≠r/\k≠gP)/\vs.length=NL.length /\
  (∀i (h:i<vs.length) (h':i<NL.length),OwC 75 w 0 vs[i] NL[i]/\∀k,vs[i].ownBlock=some k->V k/\k≠r/\k≠gP/\v.ownBlock≠some k) /\
  (∀i j (h:i<vs.length) (h':j<vs.length),i≠j->∀k,vs[i].ownBlock=some k->vs[j].ownBlock≠some k)
 fr:∀j,w.frozen? ⟨r,j,none⟩=false
 gg:V r/\V gP/\gP≠r
theorem Wm.lt{w:World}{r gP:Nat}{V:Nat->Prop}{c:Nat}{P:List ByteArray}{NL:List (List Chg)}(h:Wm w r gP V c P NL):r<w.heap.size:=lt_of_cell h.c0
theorem Wm.mono{w:World}{r gP:Nat}{V V':Nat->Prop}{c:Nat}{P:List ByteArray}{NL:List (List Chg)}(h:Wm w r gP V c P NL)(hV:∀k,k<w.heap.size->V k->V' k):Wm w r gP V' c P NL:=by
 obtain⟨cN,b1,b2⟩:=h.c2;obtain⟨v,vs,d1,d2,d3,d4,d5,d6⟩:=h.c3;refine⟨h.c0,h.c1,⟨cN,b1,b2⟩,⟨v,vs,d1,d2,fun k hk=>⟨hV k (d2.lt k hk).2 (d3 k hk).1,(d3 k hk).2⟩,d4,fun i h1 h2=>⟨(d5 i h1 h2).1,fun k hk=>⟨hV k ((d5 i h1 h2).1.lt k hk).2 ((d5 i h1 h2).2 k hk).1,((d5 i h1 h2).2 k hk).2⟩⟩,d6⟩,h.fr,hV r h.lt h.gg.1,hV gP (b2.lt gP rfl).2 h.gg.2.1,h.gg.2.2⟩
theorem Wm.kept{w w':World}{r gP:Nat}{V S:Nat->Prop}{c:Nat}{P:List ByteArray}{NL:List (List Chg)}(h:Wm w r gP V c P NL)(hk:Kp S w w')(hS:∀k,k<w.heap.size->V k->¬S k):Wm w' r gP V c P NL:=by
 obtain⟨cN,b1,b2⟩:=h.c2;obtain⟨v,vs,d1,d2,d3,d4,d5,d6⟩:=h.c3;have hr:=hS r h.lt h.gg.1;refine⟨hk.cell h.c0 hr,hk.cell h.c1 hr,⟨cN,hk.cell b1 hr,b2.kept hk (fun k e=>by cases e;exact hS gP (b2.lt gP rfl).2 h.gg.2.1)⟩,⟨v,vs,hk.cell d1 hr,d2.kept hk (fun k e=>hS k (d2.lt k e).2 (d3 k e).1),d3,d4,fun i h1 h2=>⟨(d5 i h1 h2).1.kept hk (fun k e=>hS k ((d5 i h1 h2).1.lt k e).2 ((d5 i h1 h2).2 k e).1),(d5 i h1 h2).2⟩,d6⟩,fun j=>by rw[hk.frozen h.lt hr];exact h.fr j,h.gg⟩
theorem Wm.keptN{w w':World}{r gP:Nat}{V:Nat->Prop}{c:Nat}{P:List ByteArray}{NL:List (List Chg)}(h:Wm w r gP V c P NL)(hk:Kp none' w w'):Wm w' r gP V c P NL:=h.kept hk (fun _ _ _ h=>h)
theorem Wm.pageAt{w:World}{r gP:Nat}{V:Nat->Prop}{c:Nat}{P:List ByteArray}{NL:List (List Chg)}(h:Wm w r gP V c P NL)(n:Nat)(hn:n<P.length):w.cell? ⟨gP,n,none⟩=some (.string (P.getD n ⟨#[]⟩))/\w.frozen? ⟨gP,n,none⟩=false:=by
 obtain⟨cN,_,hO⟩:=h.c2;have hc:=hO.cellAt n hn;refine⟨?_,hc.2⟩;rw[hc.1,List.getD_eq_getElem?_getD,List.getElem?_eq_getElem hn];rfl
def usedB(P:List ByteArray)(z:Int):Bool:=decide (0<=z/\z<(P.length:Int))&&isU P z.toNat
theorem LD(x:Nat)(h:x<256):bits .and .u8 (x:Int) 1=((x%2:Nat):Int):=by
 have e1:((x:Int)%2 ^ IntKind.u8.bits).toNat=x:=by
  show ((x:Int)%256).toNat=x;omega
 simp[bits];have e2:x%2 ^ IntKind.u8.bits=x:=Nat.mod_eq_of_lt h;have e3:1%2 ^ IntKind.u8.bits=1:=by rfl
 rw[e2,e3,Nat.and_one_is_mod];show ((x%2:Nat):Int)%256=(x:Int)%2;omega
theorem OJ(a k:Nat)(h:a<256):(bits .and .u8 ((a:Int) / 2 ^ k) 1==1)=(a / 2 ^ k%2==1):=by
 have e:((a:Int) / 2 ^ k)=((a / 2 ^ k:Nat):Int):=by simp
 rw[e,LD _ (Nat.lt_of_le_of_lt (Nat.div_le_self _ _) h)];generalize a / 2 ^ k%2=y;by_cases hy:y=1
 ·subst hy;rfl
 ·have h1:(y==1)=false:=by simpa using hy
  have h2:((y:Int)==1)=false:=by
   have:(y:Int)≠1:=by omega
   simpa using this
  rw[h1,h2]
set_option maxRecDepth 100000 in
theorem Cr(r gP:Nat)(V:Nat->Prop)(c:Nat)(P:List ByteArray)(NL:List (List Chg))(z:Int)(w:World)(H:Wm w r gP V c P NL)(h0:0<P.length)(h1:P.length<=160)(hs:(pg0 P).size=256) :
  Calls prog 22 #[.pointer (some ⟨r,0,none⟩),.int .i64 z] w fun e w'=>e=.returned (.bool (usedB P z))/\w'=w:=by
 obtain⟨cN,c2,_⟩:=H.c2;have d0:=(H.pageAt 0 h0).1;have HU:Hid (usedB P z=(decide (0<=z/\z<(P.length:Int))&&(z.toNat==0||bitOf (pg0 P) z.toNat))):=by show _=_;rfl
 have e0:P.getD 0 ⟨#[]⟩=pg0 P:=rfl;rw[e0]at d0;obtain⟨p,HP⟩:∃p,Hid (pg0 P=p):=⟨_,rfl⟩;rw[HP.out]at d0 hs HU;rw[HU.out];have hl0:(0:Int)<(P.length:Int):=by omega
 obtain⟨ln,HL⟩:∃ln,Hid (P.length=ln):=⟨_,rfl⟩;rw[HL.out]at c2 hl0 h0 h1 |-;clear H;by_cases hz0:z<0
 ·rw[decide_eq_false (fun h=>by omega),Bool.false_and];go_enter func22,ntmps22;go_wp2;go_ret;exact⟨rfl,rfl⟩
 ·by_cases hz1:(ln:Int)<=z
  ·rw[decide_eq_false (fun h=>by omega),Bool.false_and];go_enter func22,ntmps22;go_wp2;go_ret;exact⟨rfl,rfl⟩
  ·rw[decide_eq_true ⟨by omega,by omega⟩,Bool.true_and];obtain⟨n,rfl⟩:∃n:Nat,z=(n:Int):=⟨z.toNat,by omega⟩;rw[Int.toNat_natCast];have hn:n<160:=by omega
   by_cases hn0:n=0
   ·subst hn0;go_enter func22,ntmps22;go_wp2;go_ret;exact⟨rfl,rfl⟩
   ·have hz:((n:Int)==0)=false:=by
     have:(n:Int)≠0:=by omega
     simpa using this
    go_enter func22,ntmps22;go_wp2;go_ret;have hsz:n / 8<p.size:=by omega
    have hb:=OJ p[n / 8].toNat (n%8) (p[n / 8].toNat_lt);have h0':(n==0)=false:=by simpa using hn0
    refine⟨?_,rfl⟩;unfold bitOf;rw[JD hsz,h0',Bool.false_or];exact congrArg (fun b=>Ending.returned (Value.bool b)) hb
set_option maxRecDepth 100000 in
theorem B1(r c:Nat)(w:World)(c0:w.cell? ⟨r,0,none⟩=some (.pointer (some ⟨c,0,none⟩)))(c1:w.cell? ⟨r,1,none⟩=some (.bool false)) :
  Calls prog 21 #[.pointer (some ⟨r,0,none⟩)] w fun e w'=>e=.returned (.int .i64 0)/\w'=w:=by
 go_enter func21,ntmps21;go_wp2;go_ret;exact⟨rfl,rfl⟩
set_option maxRecDepth 100000 in
theorem Bz(r:Nat)(w:World)(c1:w.cell? ⟨r,1,none⟩=some (.bool true)) :
  Calls prog 21 #[.pointer (some ⟨r,0,none⟩)] w fun e w'=>e=.returned (.int .i64 13)/\w'=w:=by
 go_enter func21,ntmps21;go_wp2;go_ret;exact⟨rfl,rfl⟩
def offB(P:List ByteArray)(z:Int):Bool:=z==0||!usedB P z
theorem Dn{P Q:List ByteArray}(h:Agr P Q)(h0:0<Q.length)(z:Int):offB P z=!AW Q z:=by
 unfold offB usedB AW;rw[h.len,h.isU h0];by_cases hz:z=0
 ·subst hz;simp
 ·have:(z==0)=false:=by simpa using hz
  rw[this,Bool.false_or];have e:decide (0<=z/\z<(Q.length:Int))=decide (0<z/\z<(Q.length:Int)):=by
   by_cases hq:0<z/\z<(Q.length:Int)
   ·rw[decide_eq_true hq,decide_eq_true ⟨by omega,hq.2⟩]
   ·rw[decide_eq_false hq,decide_eq_false (fun h=>hq ⟨by omega,h.2⟩)]
  rw[e]
set_option maxRecDepth 100000 in
theorem B6(r gP:Nat)(V:Nat->Prop)(c:Nat)(P:List ByteArray)(NL:List (List Chg))(z:Int)(w:World)(H:Wm w r gP V c P NL)(h0:0<P.length)(h1:P.length<=160)(hs:(pg0 P).size=256) :
  Calls prog 30 #[.pointer (some ⟨r,0,none⟩),.int .i64 z] w fun e w'=>e=.returned (.int .i64 (if offB P z then 7 else 0))/\w'=w:=by
 have hr:=B1 r c w H.c0 H.c1;have hu:=Cr r gP V c P NL z w H h0 h1 hs;unfold offB;by_cases hz:z=0
 ·subst hz;go_enter func30,ntmps30;go_wp2_with (first
   | (go_at_call 21;refine hr.mono ?_;rintro e w' ⟨rfl,rfl⟩)
   | fail)
  go_ret;exact⟨rfl,rfl⟩
 ·have hz':(z==0)=false:=by simpa using hz
  rw[hz',Bool.false_or];cases hU:usedB P z with
  | true =>
   rw[hU]at hu;go_enter func30,ntmps30;go_wp2_with (first
    | (go_at_call 21;refine hr.mono ?_;rintro e w' ⟨rfl,rfl⟩)
    | (go_at_call 22;refine hu.mono ?_;rintro e w' ⟨rfl,rfl⟩)
    | fail)
   go_ret;exact⟨rfl,rfl⟩
  | false =>
   rw[hU]at hu;go_enter func30,ntmps30;go_wp2_with (first
    | (go_at_call 21;refine hr.mono ?_;rintro e w' ⟨rfl,rfl⟩)
    | (go_at_call 22;refine hu.mono ?_;rintro e w' ⟨rfl,rfl⟩)
    | fail)
   go_ret;exact⟨rfl,rfl⟩
set_option maxRecDepth 100000 in
theorem BF(r:Nat)(z:Int)(w:World)(c1:w.cell? ⟨r,1,none⟩=some (.bool true)) :
  Calls prog 30 #[.pointer (some ⟨r,0,none⟩),.int .i64 z] w fun e w'=>e=.returned (.int .i64 13)/\w'=w:=by
 have hr:=Bz r w c1;go_enter func30,ntmps30;go_wp2_with (first
  | (go_at_call 21;refine hr.mono ?_;rintro e w' ⟨rfl,rfl⟩)
  | fail)
 go_ret;exact⟨rfl,rfl⟩
set_option maxRecDepth 100000 in
theorem Km(v:Value)(l:List Chg)(n:Nat)(S:Nat->Prop)(w:World)(h:Chs S w v l)(hl:l.length<=100000)(hi:∀c∈l,0<=c.page/\c.page<100000) :
  Calls prog 46 #[v,.int .i64 (n:Int)] w fun e w'=>e=.returned (.bool (Be l n))/\Kp none' w w':=by
 obtain⟨a,c,rfl,hlc,hcm,hcells⟩:=h;have HCL:=hide hcells;clear hcells;have HNO:Hid (∀k,(l.take k).any (fun c=>c.page==(n:Int))=false->k=l.length->Be l n=false):=fun k h1 h2=>by
  rw[h2,List.take_length]at h1;exact h1
 have HYES:Hid (∀k (hk:k<l.length),l[k].page=(n:Int)->Be l n=true):=fun k hk h1=>by
  unfold Be;exact List.any_eq_true.2 ⟨l[k],List.getElem_mem hk,by rw[h1];exact beq_self_eq_true _⟩
 go_enter func46,ntmps46;go_wp2;go_loopw [9] (fun t wr=>∃k:Nat,k<=l.length/\t=.int .i64 k/\Hid ((l.take k).any (fun c=>c.page==(n:Int))=false)/\Kp none' w wr) (fun t _=>l.length - (intOf t).toNat)
 case atStart=>exact⟨0,Nat.zero_le _,rfl,(by show _=_;simp),Kp.refl _ _⟩
 case round =>
  obtain⟨k,hk,rfl,hno,hK⟩:=hrel;by_cases hlt:k<l.length
  ·have hki:(k:Int)<(l.length:Int):=by omega
   obtain⟨b,off,rfl,_,hbl,q0,q1⟩:=HCL.out k hlt;have e0:=hK.cell q0 (fun h=>h);have e1:=hK.cell q1 (fun h=>h);have hv:=GL wr l[k] 75;have HY:=hide (HYES.out k hlt);have HT:Hid (∀x:Chg,l[k]=x->¬x.page=(n:Int)->(l.take (k+1)).any (fun c=>c.page==(n:Int))=false):=fun x hx hne=>by
    rw[List.take_succ_eq_append_getElem hlt,List.any_append,hno.out,hx];simpa using hne
   obtain⟨x,HX⟩:∃x,Hid (l[k]=x):=⟨_,hide rfl⟩;rw[HX.out]at e0 e1 hv HY;obtain⟨pg,dt⟩:=x;dsimp only at e0 e1 hv HY;have k5:=Kp.alloc none' wr (.cells #[.int .i64 pg,.string dt] 75);obtain⟨v0,v1⟩:=hv;clear q0 q1;by_cases hpg:pg=(n:Int)
   ·subst hpg;have HYY:Hid (Be l n=true):=HY.out rfl;clear HY;go_wp2;go_ret;refine⟨?_,hK.then k5⟩;rw[HYY.out];first|rfl|simp
   ·have hpb:(pg==(n:Int))=false:=by simpa using hpg
    have HT2:=hide (HT.out ⟨pg,dt⟩ HX.out hpg);go_wp2;go_roundw
    case rel=>exact⟨k+1,by omega,by go_num,HT2,hK.then k5⟩
    case measure=>simp[intOf];omega
  ·obtain rfl:k=l.length:=by omega
   have hno':=HNO.out l.length hno.out rfl;go_wp2;go_ret;refine⟨?_,hK⟩;rw[hno'];first|rfl|simp
theorem OK{α:Type}(f:α->Value)(t e ty:TypeId)(z:Value)(by_:Nat)(ht:prog.underlying t=some (.slice e))(hinfo:(prog.info? e).map (fun i=>(i.zero,i.size,i.bytes))=some (some z,1,by_))(hzc:z.cells.size=1)(hby:by_<=64)
  (w:World) (base:Nat) (v:Value) (l:List α) (x:Value) (k:List α) (hO:Ow f e w base v l) (hs:Src prog 1 t x k.length (k.map f) w) (hb:base<=w.heap.size) (hl:l.length+k.length<=1000000) :
  ∃v' w',(Builtin.append_ #[t,t] ty #[v,x]).run prog w=.ok v' w'/\Ow f e w' base v' (l++k)/\w.grownBy w' v.ownBlock/\(v'.ownBlock=v.ownBlock\/v'.ownBlock=some w.heap.size):=by
 obtain⟨i0,hi,hz0,hz1,hz2⟩:=info_parts hinfo;by_cases h0:0<l.length+k.length
 ·obtain⟨v',w',h1,h2,h3,h4⟩:=Ba (P:=prog) w base t t ty e i0 z 1 by_ ht hi hz0 hzc hz1 hz2 v l.length (l.map f) hO x k.length (k.map f) hs h0 (by
   have:(l.length+k.length)*by_<=1000000*64:=Nat.mul_le_mul hl hby
   omega) (by unfold maxLen;omega) hb
  refine⟨v',w',h1,?_,h3,h4⟩;unfold Ow;rw[List.length_append,List.map_append];exact h2
 ·have hl0:l=[]:=List.eq_nil_of_length_eq_zero (by omega);have hk0:k=[]:=List.eq_nil_of_length_eq_zero (by omega);subst hl0 hk0;have hs':Src prog i0.size t x 0 [] w:=by rw[hz1];exact hs
  have hf:=hs'.cells;refine⟨v,w,?_,hO,⟨rfl,rfl,rfl,Nat.le_refl _,fun _ _ _=>rfl⟩,.inl rfl⟩;rcases hO.2 with ⟨rfl,_⟩|⟨g,cap,cur,rfl,_⟩
  ·simp[Builtin.append_,run_underlying ht,sizeOf,typeInfo,hi,hs'.len,hf]
  ·simp[Builtin.append_,run_underlying ht,sizeOf,typeInfo,hi,hs'.len,hf,Addr.add_lit,storeCells]
theorem FH{P:Program}{w:World}{o:Oper}{a:Act}{K:Act->World->Prop}{Q:Exit->Act->World->Prop}(s x:Operand)(t tx:TypeId)
  (ho:o.op=.call { callee:=.builtin .append,args:=#[s,x],argTypes:=#[t,tx] }) (v xv:Value) (hs:a.eval s=v) (hx:a.eval x=xv) {v':Value} {w':World}
  (hr:(Builtin.append_ #[t,tx] o.type #[v,xv]).run P w=.ok v' w') (h:K (a.put o.dst v') w'):o.wp P a w K Q:=by
 unfold Oper.wp execOp;simp only[ho,resolve,invoke,builtin,Sem.run_bind,Sem.run_pure,Result.andThen_ok,List.map_toArray,List.map_cons,List.map_nil,hs,hx,hr];exact h
theorem CQ{P:Program}{w:World}{ops:Array Oper}{rest:List Oper}{o:Oper}{a:Act}{Q:Exit->Act->World->Prop}(hgd:o.guard=none)(s x:Operand)(t tx:TypeId)
  (ho:o.op=.call { callee:=.builtin .append,args:=#[s,x],argTypes:=#[t,tx] }) (v xv:Value) (hs:a.eval s=v) (hx:a.eval x=xv) {v':Value} {w':World}
  (hr:(Builtin.append_ #[t,tx] o.type #[v,xv]).run P w=.ok v' w') (h:wpList P ops Q rest (a.put o.dst v') w'):wpList P ops Q (o::rest) a w :=
 wpList_plain hgd fun _ hK=>FH s x t tx ho v xv hs hx hr (hK _ _ h)
theorem FY{P:Program}{w:World}{ops:Array Oper}{o:Oper}{a:Act}{K:Act->World->Prop}{Q:Exit->Act->World->Prop}{E:Prop}(hgd:o.guard=none)(s x:Operand)(t tx:TypeId)
  (ho:o.op=.call { callee:=.builtin .append,args:=#[s,x],argTypes:=#[t,tx] }) (v xv:Value) (hs:a.eval s=v) (hx:a.eval x=xv) {v':Value} {w':World}
  (hr:(Builtin.append_ #[t,tx] o.type #[v,xv]).run P w=.ok v' w') (h:K (a.put o.dst v') w'):if Region.wanted o (yielded ops a.tmps)=true then Oper.wp P o a w K Q else E:=by
 have hw:Region.wanted o (yielded ops a.tmps)=true:=by simp[Region.wanted,hgd]
 rw[if_pos hw];exact FH s x t tx ho v xv hs hx hr h
def chgK(b l:List ByteArray)(k:Nat):List Int:=((List.range k).filter (fun i=>isU l i&&decide (l.getD i ⟨#[]⟩≠b.getD i ⟨#[]⟩))).map (fun i:Nat=>(i:Int))
theorem IH{x y:ByteArray}(h:x≠y):(x.toList==y.toList)=false:=by
 cases hb:(x.toList==y.toList) with
 | false=>rfl
 | true=>exact absurd (MR (eq_of_beq hb)) h
end Go.Proofs.YtgcgacjhkhjhmaaGreatDoor
namespace Go.Proofs.YtgcgacjhkhjhmaaGreatDoor
def chgC(now:List ByteArray)(l:List Nat):List Chg:=l.map (fun i:Nat=>⟨(i:Int),now.getD i ⟨#[]⟩⟩)
theorem MX(now:List ByteArray)(l:List Nat):(chgC now l).length=l.length:=by simp[chgC]
theorem JI(now:List ByteArray)(l:List Nat):(chgC now l).map Chg.page=l.map (fun i:Nat=>(i:Int)):=by simp[chgC,Function.comp_def]
end Go.Proofs.YtgcgacjhkhjhmaaGreatDoor
