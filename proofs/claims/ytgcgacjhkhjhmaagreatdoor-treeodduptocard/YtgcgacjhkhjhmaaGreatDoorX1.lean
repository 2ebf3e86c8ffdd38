/- Part of the proof: contracts over the turned program. -/
import Derived.Test.YtgcgacjhkhjhmaaGreatDoorX0
set_option linter.unusedVariables false
set_option maxHeartbeats 4000000
open Go.Proofs.Tryz
namespace Go.Proofs.YtgcgacjhkhjhmaaGreatDoor
open Go.RowKit
open Go.ChangeMaps (setBlock)
def saysB(s:ByteArray):Bool:=strN s != 0
set_option maxRecDepth 100000 in
theorem Ka(s:ByteArray)(w:World):Calls prog 72 #[.string s] w fun e w'=>e=.returned (.bool (saysB s))/\w'=w:=by
 by_cases hs:0<s.size
 ·have hN:=Lt s hs;have hi:0<(s.size:Int):=by omega
  have hb:((strN s:Int) != 0)=saysB s:=by
   unfold saysB;rw[Bool.eq_iff_iff];simp
  go_enter func72,ntmps72;go_wp2;go_ret;exact⟨rfl,rfl⟩
 ·have hz:s.size=0:=by omega
  have hd:s.data.toList=[]:=List.eq_nil_of_length_eq_zero (by rw[Array.length_toList];exact hz);have hb:saysB s=false:=by simp[saysB,strN,hd]
  rw[hb];go_enter func72,ntmps72;go_wp2;go_ret;exact⟨rfl,rfl⟩
theorem Md(k j:Int)(w:World):Calls prog 119 #[.int .i64 k,.int .i64 j] w fun e w'=>e=.returned (.int .i64 (wrap64 (126+4*k+j)))/\w'=w:=by
 go_enter func119,ntmps119;go_wp2;go_ret;exact⟨reti (by first|rfl|go_num|(unfold wrap64;omega)),rfl⟩
theorem Fs(k:Int)(w:World):Calls prog 18 #[.int .i64 k] w fun e w'=>e=.returned (.int .i64 (wrap64 (126+4*k)))/\w'=w:=by
 go_enter func18,ntmps18;go_wp2;go_ret;exact⟨reti (by first|rfl|go_num|(unfold wrap64;omega)),rfl⟩
structure Mi (c:Int->Option Value) (es:List MapEntry) (cl:Nat):Prop where
 e1:∀e∈es,∃z:Int,e.key=.int .i64 z/\c z=some e.val
 e2:∀z x,c z=some x->∃e∈es,e.key=.int .i64 z
 e3:es.Pairwise (fun a b=>a.key≠b.key)
 e4:∀e∈es,e.born<cl
 e5:(es.map (·.born)).Nodup
theorem Mi.nil(cl:Nat):Mi (fun _=>none) [] cl:=⟨by simp,by simp,List.Pairwise.nil,by simp,by simp⟩
theorem Mi.keys{c:Int->Option Value}{es:List MapEntry}{cl:Nat}(h:Mi c es cl):∀e∈es,∃z:Int,e.key=.int .i64 z:=fun e he=>by
 obtain⟨z,hk,_⟩:=h.e1 e he
 exact⟨z,hk⟩
theorem Mi.find{c:Int->Option Value}{es:List MapEntry}{cl:Nat}(h:Mi c es cl)(z:Int) :
  (c z=none/\Instr.findNow (.int .i64) (.int .i64 z) es 0=some none/\∀e∈es,e.key≠.int .i64 z) \/
  ∃j e,c z=some e.val/\es[j]?=some e/\e.key=.int .i64 z/\Instr.findNow (.int .i64) (.int .i64 z) es 0=some (some (j,e.val)):=by
 rcases Ee z es 0 h.keys with ⟨h1,h2⟩|⟨j,e,h1,h2,h3⟩
 ·refine .inl ⟨?_,h1,h2⟩;cases hu:c z with
  | none=>rfl
  | some x =>
   obtain⟨e,he,hk⟩:=h.e2 z x hu;exact absurd hk (h2 e he)
 ·obtain⟨z',hk,hv⟩:=h.e1 e (List.mem_of_getElem? h1);have:z'=z:=by
   rw[h2]at hk;exact((Value.int.inj hk).2).symm
  subst this;exact .inr ⟨j,e,hv,h1,h2,by rw[h3];simp⟩
def putI(c:Int->Option Value)(z:Int)(x:Value):Int->Option Value:=fun k=>if k=z then some x else c k
theorem El{w:World}{m:Nat}{es:Array MapEntry}{cl:Nat}{c:Int->Option Value}{t e:TypeId}(ht:prog.underlying t=some (.map 3 e)){zv:Value}(hz:∀W,(zeroValue e).run prog W=.ok zv W)
  (hm:w.heap[m]?=some (.map es cl)) (h:Mi c es.toList cl) (z:Int) (ok:Bool) :
  (Instr.lookup t (.map (some m)) (.int .i64 z) ok).run prog w=.ok (if ok then .tuple #[(c z).getD zv,.bool (c z).isSome] else (c z).getD zv) w:=by
 rcases h.find z with ⟨h1,h2,_⟩|⟨j,e,h1,_,_,h2⟩
 ·simp only[Instr.lookup,Sem.run_bind,run_underlying ht,Result.andThen_ok,MapKept.run_getObj_map hm,Sem.run_pure,Bs,Instr.findKey,run_underlying underlying3,h2,hz,h1,Option.getD_none,Option.isSome_none]
 ·simp only[Instr.lookup,Sem.run_bind,run_underlying ht,Result.andThen_ok,MapKept.run_getObj_map hm,Sem.run_pure,Bs,Instr.findKey,run_underlying underlying3,h2,h1,Option.getD_some,Option.isSome_some]
theorem Om{w:World}{m:Nat}{es:Array MapEntry}{cl:Nat}{c:Int->Option Value}{t e:TypeId}(ht:prog.underlying t=some (.map 3 e))(hm:w.heap[m]?=some (.map es cl))(h:Mi c es.toList cl)(z:Int)(x:Value) :
  ∃es' cl',(Instr.mapUpdate t (.map (some m)) (.int .i64 z) x).run prog w=.ok () (setBlock w m (.map es' cl'))/\Mi (putI c z x) es'.toList cl':=by
 rcases h.find z with ⟨h1,h2,h3⟩|⟨j,e,h1,h3,h4,h2⟩
 ·refine⟨es.push { key:=.int .i64 z,val:=x,born:=cl },cl+1,?_,?_⟩
  ·simp only[Instr.mapUpdate,Sem.run_bind,run_underlying ht,Result.andThen_ok,MapKept.run_getObj_map hm,Sem.run_pure,Bs,Instr.findKey,run_underlying underlying3,h2,MapKept.run_setObj_map _ hm];rfl
  ·have ne:∀k y,c k=some y->k≠z:=fun k y hk e=>by subst e;rw[h1]at hk;cases hk
   rw[Array.toList_push];refine⟨fun e he=>?_,fun k y hk=>?_,?_,fun e he=>?_,?_⟩
   ·rcases List.mem_append.1 he with he|he
    ·obtain⟨k,b,a⟩:=h.e1 e he;exact⟨k,b,by simp[putI,ne k _ a,a]⟩
    ·have:e={ key:=.int .i64 z,val:=x,born:=cl }:=by simpa using he
     subst this;exact⟨z,rfl,by simp[putI]⟩
   ·by_cases e:k=z
    ·subst e;exact⟨{ key:=.int .i64 k,val:=x,born:=cl },List.mem_append.2 (.inr (by simp)),rfl⟩
    ·simp only[putI,e,if_false]at hk;obtain⟨e',he',hk'⟩:=h.e2 k y hk;exact⟨e',List.mem_append.2 (.inl he'),hk'⟩
   ·rw[List.pairwise_append];refine⟨h.e3,List.pairwise_singleton _ _,fun a ha b hb=>?_⟩;have:b={ key:=.int .i64 z,val:=x,born:=cl }:=by simpa using hb
    subst this;exact h3 a ha
   ·rcases List.mem_append.1 he with he|he
    ·have:=h.e4 e he;omega
    ·have:e={ key:=.int .i64 z,val:=x,born:=cl }:=by simpa using he
     subst this;exact Nat.lt_succ_self _
   ·rw[List.map_append,List.nodup_append];refine⟨h.e5,by simp,fun a ha b hb=>?_⟩;obtain⟨e,he,rfl⟩:=List.mem_map.1 ha;have:=h.e4 e he;have:b=cl:=by simpa using hb
    omega
 ·have hj:j<es.size:=by have:=(List.getElem?_eq_some_iff.1 h3).1;simpa using this
  have hej:es[j]?=some e:=by rw[<-Array.getElem?_toList];exact h3
  refine⟨es.modify j fun e=>{ e with key:=.int .i64 z,val:=x },cl,?_,?_⟩
  ·have hs:(Instr.keyThatStays (.int .i64 z) (.int .i64 z)).run prog w=.ok (.int .i64 z) w:=by
    unfold Instr.keyThatStays;rw[if_pos (by simp[Instr.sameBits])];rfl
   simp only[Instr.mapUpdate,Sem.run_bind,run_underlying ht,Result.andThen_ok,MapKept.run_getObj_map hm,Sem.run_pure,Bs,Instr.findKey,run_underlying underlying3,h2,hej,Option.map_some,Option.getD_some,h4,hs,MapKept.run_setObj_map _ hm];rfl
  ·have hl:(es.modify j fun e=>{ e with key:=.int .i64 z,val:=x }).toList=es.toList.modify j fun e=>{ e with key:=.int .i64 z,val:=x }:=by simp
   rw[hl];have hget:∀(k:Nat) (e':MapEntry),(es.toList.modify j fun e=>{ e with key:=.int .i64 z,val:=x })[k]?=some e' ->
     (k=j/\e'={ e with key:=.int .i64 z,val:=x })\/(k≠j/\es.toList[k]?=some e'):=by
    intro k e' hk;rw[List.getElem?_modify]at hk;by_cases ek:j=k
    ·subst ek;rw[h3]at hk;simp at hk;exact .inl ⟨rfl,hk.symm⟩
    ·simp only[ek,if_false]at hk;exact .inr ⟨fun e=>ek e.symm,by simpa using hk⟩
   have hkeys:(es.toList.modify j fun e=>{ e with key:=.int .i64 z,val:=x }).map (·.key)=es.toList.map (·.key):=by
    apply List.ext_getElem?;intro k;rw[List.getElem?_map,List.getElem?_map,List.getElem?_modify];by_cases ek:j=k
    ·subst ek;rw[h3];simp[h4]
    ·simp[ek]
   have hborn:(es.toList.modify j fun e=>{ e with key:=.int .i64 z,val:=x }).map (·.born)=es.toList.map (·.born):=by
    apply List.ext_getElem?;intro k;rw[List.getElem?_map,List.getElem?_map,List.getElem?_modify];by_cases ek:j=k
    ·subst ek;rw[h3];simp
    ·simp[ek]
   have huniq:∀k e',es.toList[k]?=some e'->e'.key=.int .i64 z->k=j:=fun k e' hk hkey=>by
    have hp:=List.pairwise_iff_getElem.1 h.e3;have hk':=(List.getElem?_eq_some_iff.1 hk);have hj':=(List.getElem?_eq_some_iff.1 h3);obtain⟨lk,vk⟩:=hk';obtain⟨lj,vj⟩:=hj';rcases Nat.lt_trichotomy k j with hlt|heq|hgt
    ·exact absurd (by rw[vk,vj,hkey,h4]) (hp k j lk lj hlt)
    ·exact heq
    ·exact absurd (by rw[vk,vj,hkey,h4]) (hp j k lj lk hgt)
   refine⟨fun e' he'=>?_,fun k y' hk=>?_,?_,fun e' he'=>?_,by rw[hborn];exact h.e5⟩
   ·obtain⟨k,hk⟩:=List.getElem?_of_mem he';rcases hget k e' hk with ⟨rfl,rfl⟩|⟨hne,hk'⟩
    ·exact⟨z,rfl,by simp[putI]⟩
    ·obtain⟨k',b,a⟩:=h.e1 e' (List.mem_of_getElem? hk');have:k'≠z:=fun e0=>hne (huniq k e' hk' (by rw[b,e0]));exact⟨k',b,by simp[putI,this,a]⟩
   ·have:∃y0,c k=some y0:=by
     by_cases e0:k=z
     ·subst e0;exact⟨_,h1⟩
     ·simp only[putI,e0,if_false]at hk;exact⟨y',hk⟩
    obtain⟨y0,hy0⟩:=this;obtain⟨e',he',hk'⟩:=h.e2 k y0 hy0;have hmem:(Value.int .i64 k)∈(es.toList.modify j fun e=>{ e with key:=.int .i64 z,val:=x }).map (·.key):=by
     rw[hkeys,<-hk'];exact List.mem_map_of_mem he'
    obtain⟨e2,he2,hk2⟩:=List.mem_map.1 hmem;exact⟨e2,he2,hk2⟩
   ·have:=List.pairwise_map (f:=fun e:MapEntry=>e.key) (R:=(·≠·)) (l:=es.toList.modify j fun e=>{ e with key:=.int .i64 z,val:=x });rw[<-this,hkeys,List.pairwise_map];exact h.e3
   ·have hmem:e'.born∈(es.toList.modify j fun e=>{ e with key:=.int .i64 z,val:=x }).map (·.born):=List.mem_map_of_mem he';rw[hborn]at hmem;obtain⟨e2,he2,hb2⟩:=List.mem_map.1 hmem;rw[<-hb2];exact h.e4 e2 he2
theorem Ow.cellAt{α:Type}{f:α->Value}{e:TypeId}{w:World}{base g n cap:Nat}{l:List α}(h:Ow f e w base (.slice (some ⟨g,0,none⟩) n cap) l)(j:Nat)(hj:j<l.length):w.cell? ⟨g,j,none⟩=some (f l[j])/\w.frozen? ⟨g,j,none⟩=false:=by
 have hn:n=l.length:=by
  rcases h.2 with ⟨h1,_⟩|⟨g',cap',cur,h1,_⟩
  ·cases h1
  ·cases h1;rfl
 subst hn;refine⟨?_,World.ownsRow.frozenAt (g:=g) (cap:=cap) h j⟩;rw[World.ownsRow.cellAt (g:=g) (cap:=cap) h j (by omega)];simp[hj]
theorem Ow.mono{α:Type}{f:α->Value}{e:TypeId}{w:World}{base base':Nat}{v:Value}{l:List α}(h:Ow f e w base v l)(hb:base'<=base):Ow f e w base' v l:=by
 refine⟨h.1,?_⟩;rcases h.2 with hn|⟨g,cap,cur,rfl,hb2,rest⟩
 ·exact .inl hn
 ·exact .inr ⟨g,cap,cur,rfl,by omega,rest⟩
end Go.Proofs.YtgcgacjhkhjhmaaGreatDoor
namespace Go.Proofs.YtgcgacjhkhjhmaaGreatDoor
open Go.RowKit
def cutAt(s:ByteArray)(j:Nat):ByteArray:=s.extract (j*64) ((j+1)*64)
theorem O1:(prog.info? 9).map (fun i=>(i.zero,i.size,i.bytes))=some (some (.string ByteArray.empty),1,16):=by kernel_rfl
theorem Eg(w:World)(n:Nat)(hn:n<=1000000):∃wa,(Instr.makeSlice 32 (.int .i64 n) (.int .i64 n)).run prog w=.ok (.slice (some ⟨w.heap.size,0,none⟩) n n) wa/\Ow Value.string 9 wa w.heap.size (.slice (some ⟨w.heap.size,0,none⟩) n n) (List.replicate n ByteArray.empty)/\Kp none' w wa:=by
 obtain⟨i0,hi,hz0,hz1,hz2⟩:=info_parts O1;obtain⟨wa,hmk,hOa,hga⟩:=run_make_full (P:=prog) w w.heap.size 32 9 i0 _ 1 underlying32 hi hz0 hz1 .i64 .i64 n (by rw[hz2];omega) (by unfold maxLen;omega) (Nat.le_refl _);refine⟨wa,hmk,?_,Kp.ofN hga _⟩;have e:(madeCells (Value.string ByteArray.empty).cells (n*1)).toList=(List.replicate n ByteArray.empty).map Value.string:=by
  show (madeCells #[Value.string ByteArray.empty] (n*1)).toList=_;rw[toList_madeCells_one];simp
 unfold Ow;rw[List.length_replicate,<-e];exact hOa
theorem Ms(pre:List ByteArray)(m:Nat)(x:ByteArray):(pre++List.replicate (m+1) ByteArray.empty).set pre.length x=(pre++[x])++List.replicate m ByteArray.empty:=by
 rw[List.set_append_right _ _ (Nat.le_refl _),Nat.sub_self,List.replicate_succ,Qb,List.append_assoc];rfl
def okJ(l:List ByteArray):Bool:=decide (l.length=4/\∀s∈l,s.size=64)
def catB(l:List ByteArray):List UInt8:=l.flatMap fun s=>s.data.toList
def joinS(l:List ByteArray):ByteArray:=⟨(if okJ l then catB l else []).toArray⟩
def joinE(l:List ByteArray):Int:=if okJ l then 0 else 1
theorem Ik:∀(l:List ByteArray),(∀s∈l,s.size=64)->(catB l).length=64*l.length
 | [],_=>rfl
 | s::l,h=>by
  have h1:=Ik l (fun x hx=>h x (by simp[hx]))
  have h2:=h s (by simp)
  have e:(catB (s::l)).length=s.data.toList.length+(catB l).length:=by simp[catB]
  have e2:s.data.toList.length=s.size:=by rw[Array.length_toList];rfl
  rw[e,h1,e2,h2,List.length_cons]
  omega
theorem Pc{l:List ByteArray}{k:Nat}(hk:k<l.length)(h:l[k].size≠64):okJ l=false:=by
 unfold okJ;rw[decide_eq_false_iff_not];rintro ⟨_,h2⟩;exact h (h2 _ (List.getElem_mem hk))
end Go.Proofs.YtgcgacjhkhjhmaaGreatDoor
namespace Go.Proofs.YtgcgacjhkhjhmaaGreatDoor
open Go Go.RowKit
open Go.ChangeMaps (setBlock)
structure Mp (u:Nat->Option (List UInt8)) (es:List MapEntry) (cl:Nat):Prop where
 e1:∀e∈es,∃(i:Nat) (x:List UInt8),u i=some x/\e.key=.int .i64 (i:Int)/\e.val=secV x
 e2:∀(i:Nat) (x:List UInt8),u i=some x->∃e∈es,e.key=.int .i64 (i:Int)
 e3:es.Pairwise (fun a b=>a.key≠b.key)
 e4:∀e∈es,e.born<cl
 e5:(es.map (·.born)).Nodup
theorem Mp.nil(cl:Nat):Mp (fun _=>none) [] cl:=⟨by simp,by simp,List.Pairwise.nil,by simp,by simp⟩
structure Dp where
 d:Nat
 s:Nat
 m:Nat
structure Dv where
 n:Nat
 s:Nat->List UInt8
 u:Nat->Option (List UInt8)
 c:Int
 st:Bool
 f:Int
def Dp.mem(p:Dp)(k:Nat):Prop:=k=p.d\/k=p.s\/k=p.m
structure Dev (w:World) (p:Dp) (D:Dv):Prop where
 c0:w.cell? ⟨p.d,0,none⟩=some (.slice (some ⟨p.s,0,none⟩) D.n D.n)
 c1:w.cell? ⟨p.d,1,none⟩=some (.map (some p.m))
 c2:w.cell? ⟨p.d,2,none⟩=some (.int .i64 D.c)
 c3:w.cell? ⟨p.d,3,none⟩=some (.bool D.st)
 c4:w.cell? ⟨p.d,4,none⟩=some (.int .i64 D.f)
 fd:∀j,w.frozen? ⟨p.d,j,none⟩=false
 rs:∀i,i<D.n->w.rangeAt p.s (i*64) (bcs (D.s i))
 ts:w.there p.s 0 (D.n*64)
 ls:p.s<w.heap.size
 mp:∃es cl,w.heap[p.m]?=some (.map es cl)/\Mp D.u es.toList cl
 ds:p.d≠p.s
 dm:p.d≠p.m
 sm:p.s≠p.m
 n4:D.n<=4096
 l1:∀i,i<D.n->(D.s i).length=64
 l2:∀i x,D.u i=some x->i<D.n/\x.length=64
theorem Dev.ld{w:World}{p:Dp}{D:Dv}(h:Dev w p D):p.d<w.heap.size:=lt_of_cell h.c0
theorem Dev.lm{w:World}{p:Dp}{D:Dv}(h:Dev w p D):p.m<w.heap.size:=by
 obtain⟨es,cl,hm,_⟩:=h.mp;exact(Array.getElem?_eq_some_iff.1 hm).1
theorem Dev.lt{w:World}{p:Dp}{D:Dv}(h:Dev w p D):∀k,p.mem k->k<w.heap.size:=by
 rintro k (rfl|rfl|rfl)
 ·exact h.ld
 ·exact h.ls
 ·exact h.lm
theorem Dev.kept{w w':World}{p:Dp}{D:Dv}{S:Nat->Prop}(h:Dev w p D)(hk:Kp S w w')(hS:∀k,p.mem k->¬S k):Dev w' p D:=by
 have hd:¬S p.d:=hS _ (.inl rfl);have hs:¬S p.s:=hS _ (.inr (.inl rfl));have hm:¬S p.m:=hS _ (.inr (.inr rfl));obtain⟨es,cl,h1,h2⟩:=h.mp;exact⟨hk.cell h.c0 hd,hk.cell h.c1 hd,hk.cell h.c2 hd,hk.cell h.c3 hd,hk.cell h.c4 hd,fun j=>by rw[hk.frozen h.ld hd];exact h.fd j,
  fun i hi=>hk.rangeAt (h.rs i hi) hs,hk.there h.ts hs,Qd h.ls hk.size,⟨es,cl,by rw[hk.block _ h.lm hm];exact h1,h2⟩,h.ds,h.dm,h.sm,h.n4,h.l1,h.l2⟩
theorem Dev.keptN{w w':World}{p:Dp}{D:Dv}(h:Dev w p D)(hk:Kp none' w w'):Dev w' p D:=h.kept hk (fun _ _ h=>h)
end Go.Proofs.YtgcgacjhkhjhmaaGreatDoor
namespace Go.Proofs.YtgcgacjhkhjhmaaGreatDoor
open Go.RowKit
theorem Jc(p:Dp)(D:Dv)(w:World)(h:Dev w p D):Calls prog 40 #[.pointer (some ⟨p.d,0,none⟩)] w fun e w'=>e=.returned (.int .i64 D.n)/\w'=w:=by
 have h0:=h.c0;go_enter func40,ntmps40;go_wp2;go_ret;exact⟨rfl,rfl⟩
def hasB(n:Nat)(i:Int):Bool:=decide (0<=i/\i<n)
theorem GV(p:Dp)(D:Dv)(i:Int)(w:World)(h:Dev w p D):Calls prog 103 #[.pointer (some ⟨p.d,0,none⟩),.int .i64 i] w fun e w'=>e=.returned (.bool (hasB D.n i))/\w'=w:=by
 by_cases h0:0<=i;all_goals
  go_enter func103,ntmps103;go_wp2_with (go_at_call 40;refine(Jc _ _ _ h).mono ?_;rintro e w' ⟨rfl,rfl⟩);go_ret;exact⟨by simp[hasB,h0]<;>omega,rfl⟩
theorem Dev.drew{w:World}{p:Dp}{D:Dv}(h:Dev w p D):Dev w.drew p D:=h.kept (Kp.drew none' w) (fun _ _ h=>h)
theorem EP:(prog.info? 177).map (·.size)=some 64:=by kernel_rfl
end Go.Proofs.YtgcgacjhkhjhmaaGreatDoor
namespace Go.Proofs.YtgcgacjhkhjhmaaGreatDoor
open Go.RowKit
open Go.ChangeMaps (setBlock)
theorem LA(w:World):(zeroValue 177).run prog w=.ok (.agg (bcs Al).toArray) w:=Tryz.zeroValue177 w
theorem Mp.keys{u:Nat->Option (List UInt8)}{es:List MapEntry}{cl:Nat}(h:Mp u es cl):∀e∈es,∃z:Int,e.key=.int .i64 z:=fun e he=>by
 obtain⟨i,x,_,hk,_⟩:=h.e1 e he
 exact⟨_,hk⟩
theorem Mp.find{u:Nat->Option (List UInt8)}{es:List MapEntry}{cl:Nat}(h:Mp u es cl)(i:Nat) :
  (u i=none/\Instr.findNow (.int .i64) (.int .i64 (i:Int)) es 0=some none/\∀e∈es,e.key≠.int .i64 (i:Int)) \/
  ∃j e x,u i=some x/\es[j]?=some e/\e.key=.int .i64 (i:Int)/\e.val=secV x/\Instr.findNow (.int .i64) (.int .i64 (i:Int)) es 0=some (some (j,secV x)):=by
 rcases Ee (i:Int) es 0 h.keys with ⟨h1,h2⟩|⟨j,e,h1,h2,h3⟩
 ·refine .inl ⟨?_,h1,h2⟩;cases hu:u i with
  | none=>rfl
  | some x =>
   obtain⟨e,he,hk⟩:=h.e2 i x hu;exact absurd hk (h2 e he)
 ·obtain⟨i',x,hu,hk,hv⟩:=h.e1 e (List.mem_of_getElem? h1);have:i'=i:=by
   rw[h2]at hk;have:=(Value.int.inj hk).2;omega
  subst this;exact .inr ⟨j,e,x,hu,h1,h2,hv,by rw[h3,hv];simp⟩
def lookV(u:Nat->Option (List UInt8))(i:Nat):List UInt8:=(u i).getD Al
theorem Ol{w:World}{m:Nat}{es:Array MapEntry}{cl:Nat}{u:Nat->Option (List UInt8)}(hm:w.heap[m]?=some (.map es cl))(h:Mp u es.toList cl)(i:Nat)(ok:Bool) :
  (Instr.lookup 99 (.map (some m)) (.int .i64 (i:Int)) ok).run prog w=.ok (if ok then .tuple #[.agg (bcs (lookV u i)).toArray,.bool (u i).isSome] else .agg (bcs (lookV u i)).toArray) w:=by
 rcases h.find i with ⟨h1,h2,_⟩|⟨j,e,x,h1,_,_,_,h2⟩
 ·simp only[Instr.lookup,Sem.run_bind,run_underlying underlying99,Result.andThen_ok,MapKept.run_getObj_map hm,Sem.run_pure,Bs,Instr.findKey,run_underlying underlying3,h2,LA,lookV,h1,Option.getD_none,Option.isSome_none]
 ·simp only[Instr.lookup,Sem.run_bind,run_underlying underlying99,Result.andThen_ok,MapKept.run_getObj_map hm,Sem.run_pure,Bs,Instr.findKey,run_underlying underlying3,h2,lookV,h1,Option.getD_some,Option.isSome_some,secV]
theorem Cs{w:World}{ops:Array Oper}{rest:List Oper}{o:Oper}{a:Act}{Q:Exit->Act->World->Prop}(hgd:o.guard=none)(ho:o.op=.alloc 177)
  (h:wpList prog ops Q rest (a.put o.dst (.pointer (some ⟨w.heap.size,0,none⟩))) (w.alloc (.cells (bcs Al).toArray 177))):wpList prog ops Q (o::rest) a w :=
 wpList_plain hgd fun _ hK=>by
  unfold Oper.wp execOp
  simp only[ho,Instr.alloc,newVar,newRow,Value.cells,Sem.run_bind,Sem.run_pure,Result.andThen_ok,LA]
  exact hK _ _ h
def Dv.at(D:Dv)(k:Nat):List UInt8:=(D.u k).getD (D.s k)
def rdL(D:Dv)(i:Int):List UInt8:=if hasB D.n i then D.at i.toNat else []
theorem Gy(w:World)(x:List UInt8):(w.alloc (.cells (bcs x).toArray 177)).there w.heap.size 0 x.length:=fun j hj=>by
 rw[Nat.zero_add,cell_of_row _ _ _ _ _ (0,0) (heap_alloc_new w _)]
 refine⟨by simp[bcs,hj],?_⟩
 unfold World.frozen?
 rw[show (w.alloc (.cells (bcs x).toArray 177)).heap[(⟨w.heap.size,j,none⟩:Addr).block]?=_ from heap_alloc_new w _]
 simp
theorem D5{w:World}{g:Nat}{x:List UInt8}(h:w.rangeAt g 0 (bcs x))(hx:x.length=64):(convert 112 9 (.slice (some ⟨g,0,none⟩) 64 64)).run prog w=.ok (.string ⟨x.toArray⟩) w:=by
 have:=run_convert_bytes_back (P:=prog) w 112 9 5 ⟨g,0,none⟩ 64 x underlying112 underlying5 underlying9 (fun j hj=>by
  have e:(⟨g,0,none⟩:Addr).add j=⟨g,0+j,none⟩:=by unfold Addr.add;split<;>simp_all
  rw[e];exact h j _ (JC x j hj))
 rw[hx]at this;exact this
set_option maxRecDepth 100000 in
theorem I7(p:Dp)(D:Dv)(i:Int)(w:World)(hD:Dev w p D) :
  Calls prog 73 #[.pointer (some ⟨p.d,0,none⟩),.int .i64 i] w fun e w'=>e=.returned (.string ⟨(rdL D i).toArray⟩)/\Kp none' w w':=by
 by_cases hh:hasB D.n i=true
 ·obtain⟨k,rfl⟩:∃k:Nat,i=k:=⟨i.toNat,by simp[hasB]at hh;omega⟩;have hk:k<D.n:=by simp[hasB]at hh;omega
  have h4:=hD.n4;have hE:rdL D k=D.at k:=by simp[rdL,hh]
  rw[hE];obtain⟨es,cl,hm,hM⟩:=hD.mp;have hlk:=Ol hm hM k true;simp only[if_true]at hlk;have h0:=hD.c0;have h1:=hD.c1;have hu:prog.underlying 177=_:=underlying177;cases hx:D.u k with
  | some x =>
   have hxl:=(hD.l2 k x hx).2;have hA:D.at k=x:=by simp[Dv.at,hx]
   rw[hA];have e1:lookV D.u k=x:=by simp[lookV,hx]
   rw[e1,hx]at hlk;simp only[Option.isSome_some]at hlk;clear hm hM hE hA e1;go_enter func73,ntmps73;go_upto_region 3 with (go_at_call 103;refine(GV _ _ _ _ hD).mono ?_;rintro e wb ⟨rfl,rfl⟩;rw[hh]);have ht:=Gy wb Al;have hI:(prog.info? 177).map (·.size)=some (bcs x).toArray.size:=by rw[EP,List.size_toArray,Bf,hxl]
   have h1c:((bcs x).toArray).all (·.oneCell')=true:=all_oneCell_toArray (EK x);rw[AM,<-hxl,<-Bf x,<-List.size_toArray]at ht;have hk2:=(Kp.alloc none' wb (.cells (bcs Al).toArray 177));have hl2:((wb.alloc (.cells (bcs Al).toArray 177)).setCells wb.heap.size 0 (bcs x)).rangeAt wb.heap.size 0 (bcs x):=World.rangeAt_setCells_same _ _ _ _ (by rw[<-List.size_toArray];exact ht);have hcv:=D5 hl2 hxl
   have hk3:=hk2.trans (Kp.setCells (S:=only wb.heap.size) wb.heap.size rfl (bcs x) 0 _) (S'':=none') (fun _ _ h=>h) (fun k hk h=>absurd hk (by unfold only at h;omega));obtain⟨w2,H2⟩:∃w2,Hid (wb.alloc (.cells (bcs Al).toArray 177)=w2):=⟨_,rfl⟩;rw[H2.out]at ht hl2 hcv hk3;go_upto_region 4 with (first
    | (refine Cs rfl rfl ?_;rw[H2.out];generalize wb.heap.size=g at *)
    | (refine wpList_store_mid rfl 177 (.tmp 5) (.tmp 18) rfl _ 0 (bcs x).toArray rfl rfl ht hI h1c ?_;rw[List.toList_toArray]))
   generalize w2.setCells g 0 (bcs x)=w3 at *;clear hl2 ht hlk h0 h1;go_wp2;go_ret;exact⟨rfl,hk3⟩
  | none =>
   have hA:D.at k=D.s k:=by simp[Dv.at,hx]
   rw[hA];have e1:lookV D.u k=Al:=by simp[lookV,hx]
   rw[e1,hx]at hlk;simp only[Option.isSome_none]at hlk;have hxl:=hD.l1 k hk;have hrs:=hD.rs k hk;have hls:=hD.ls;have hld:=hD.ld;obtain⟨x,Hx⟩:∃x,Hid (D.s k=x):=⟨_,rfl⟩;rw[Hx.out]at hxl hrs |-;clear hm hM hE hA e1;go_enter func73,ntmps73;go_upto_region 3 with (go_at_call 103;refine(GV _ _ _ _ hD).mono ?_;rintro e wb ⟨rfl,rfl⟩;rw[hh]);have ht:=Gy wb Al
   have hI:(prog.info? 177).map (·.size)=some (bcs Al).toArray.size:=by rw[EP,List.size_toArray,Bf,AM]
   have h1c:((bcs Al).toArray).all (·.oneCell')=true:=all_oneCell_toArray (EK Al);have hI2:(prog.info? 177).map (·.size)=some (bcs x).toArray.size:=by rw[EP,List.size_toArray,Bf,hxl]
   have hI3:(prog.info? 177).map (·.size)=some (bcs x).length:=by rw[EP,Bf,hxl]
   have h1c2:((bcs x).toArray).all (·.oneCell')=true:=all_oneCell_toArray (EK x);have hg1:p.s≠wb.heap.size:=Nat.ne_of_lt hls;have hg2:p.d≠wb.heap.size:=Nat.ne_of_lt hld;rw[<-Bf Al,<-List.size_toArray]at ht;have hk2:=(Kp.alloc none' wb (.cells (bcs Al).toArray 177));have hk3:=hk2.trans (Kp.setCells (S:=only wb.heap.size) wb.heap.size rfl (bcs Al) 0 _) (S'':=none') (fun _ _ h=>h) (fun k hk h=>absurd hk (by unfold only at h;omega))
   have ht3:=World.there_setCells ht wb.heap.size 0 (bcs Al);have hrs3:=hk3.rangeAt hrs (fun h=>h);have h03:=hk3.cell h0 (fun h=>h);have eSz:(bcs Al).toArray.size=(bcs x).toArray.size:=by rw[List.size_toArray,List.size_toArray,Bf,Bf,AM,hxl]
   rw[eSz]at ht3;obtain⟨w2,H2⟩:∃w2,Hid (wb.alloc (.cells (bcs Al).toArray 177)=w2):=⟨_,rfl⟩;rw[H2.out]at ht hk3 ht3 hrs3 h03;obtain⟨w3,H3⟩:∃w3,Hid (w2.setCells wb.heap.size 0 (bcs Al)=w3):=⟨_,rfl⟩;rw[H3.out]at hk3 ht3 hrs3 h03;have hl4:(w3.setCells wb.heap.size 0 (bcs x)).rangeAt wb.heap.size 0 (bcs x):=World.rangeAt_setCells_same _ _ _ _ (by rw[<-List.size_toArray];exact ht3);have hcv:=D5 hl4 hxl
   have hk4:=hk3.trans (Kp.setCells (S:=only wb.heap.size) wb.heap.size rfl (bcs x) 0 _) (S'':=none') (fun _ _ h=>h) (fun k hk h=>absurd hk (by unfold only at h;omega));go_upto_region 4 with (first
    | (refine Cs rfl rfl ?_;rw[H2.out];generalize wb.heap.size=g at *)
    | (refine wpList_store_mid rfl 177 (.tmp 5) (.tmp 18) rfl _ 0 (bcs Al).toArray rfl rfl ht hI h1c ?_;rw[List.toList_toArray,H3.out]))
   clear ht hlk h0 h1 hrs;go_upto_region 6 with (first
    | (refine wpList_load_mid rfl 177 (.tmp 27) rfl p.s (k*64) rfl (bcs x) _ hrs3 hu rfl hI3 ?_)
    | (refine wpList_store_mid rfl 177 (.tmp 5) (.tmp 28) rfl _ 0 (bcs x).toArray rfl rfl ht3 hI2 h1c2 ?_;rw[List.toList_toArray]))
   generalize w3.setCells g 0 (bcs x)=w4 at *;clear hl4 ht3 hrs3 h03;go_wp2;go_ret;exact⟨rfl,hk4⟩
 ·have hh':hasB D.n i=false:=by simpa using hh
  have hE:rdL D i=[]:=by simp[rdL,hh']
  rw[hE];go_enter func73,ntmps73;go_wp2_with (go_at_call 103;refine(GV _ _ _ _ hD).mono ?_;rintro e w' ⟨rfl,rfl⟩;rw[hh']);go_ret;exact⟨rfl,Kp.refl _ _⟩
theorem No:(prog.info? 177).map (fun i=>(i.zero,i.size,i.bytes))=some (some (.agg (bcs Al).toArray),64,64):=by kernel_rfl
theorem K6(N k:Nat)(hk:k<N*64):(madeCells (bcs Al).toArray (N*64))[k]?=some (.int .u8 0):=by
 have hm:k%64<64:=Nat.mod_lt _ (by omega);have hs:(bcs Al).toArray.size=64:=by simp[Bf,AM]
 unfold madeCells;rw[Array.getElem?_map,Array.getElem?_range,if_pos hk,hs];simp only[Option.map_some,Option.some.injEq];rw[getElem!_pos (bcs Al).toArray (k%64) (by omega)];have h1:=JC Al (k%64) (by rw[AM];exact hm);have e0:Al[k%64]'(by rw[AM];exact hm)=0:=by unfold Al;exact List.getElem_replicate _
 rw[e0]at h1;exact(List.getElem?_eq_some_iff.1 h1).2
def fresh(N:Nat):Dv:={ n:=N,s:=fun _=>Al,u:=fun _=>none,c:=0,st:=false,f:=0 }
theorem LR(w:World)(N:Nat)(hN:N<=4096) :
  Dev (((w.alloc (.cells (madeCells (bcs Al).toArray (N*64)) 177)).alloc (.map #[] 0)).alloc (.cells #[.slice (some ⟨w.heap.size,0,none⟩) N N,.map (some (w.heap.size+1)),.int .i64 0,.bool false,.int .i64 0] 101))
   ⟨w.heap.size+2,w.heap.size,w.heap.size+1⟩ (fresh N):=by
 obtain⟨wa,Ha⟩:∃wa,wa=w.alloc (.cells (madeCells (bcs Al).toArray (N*64)) 177):=⟨_,rfl⟩;have sa:wa.heap.size=w.heap.size+1:=by rw[Ha];simp
 obtain⟨wb,Hb⟩:∃wb,wb=wa.alloc (.map #[] 0):=⟨_,rfl⟩;have sb:wb.heap.size=w.heap.size+2:=by rw[Hb];simp[sa]
 rw[<-Ha,<-Hb];have ba:wa.heap[w.heap.size]?=some (.cells (madeCells (bcs Al).toArray (N*64)) 177 (0,0)):=by rw[Ha];exact heap_alloc_new w _
 have bb:wb.heap[w.heap.size+1]?=some (.map #[] 0):=by rw[Hb,<-sa];exact heap_alloc_new wa _
 have hk1:Kp none' wa wb:=by rw[Hb];exact Kp.alloc _ _ _
 generalize ho:Obj.cells #[.slice (some ⟨w.heap.size,0,none⟩) N N,.map (some (w.heap.size+1)),.int .i64 0,.bool false,.int .i64 0] 101=ob;have hk2:Kp none' wb (wb.alloc ob):=Kp.alloc _ _ _;have bc:(wb.alloc ob).heap[w.heap.size+2]?=some (.cells #[.slice (some ⟨w.heap.size,0,none⟩) N N,.map (some (w.heap.size+1)),.int .i64 0,.bool false,.int .i64 0] 101 (0,0)):=by rw[<-sb,ho];exact heap_alloc_new wb _
 have ba2:(wb.alloc ob).heap[w.heap.size]?=some (.cells (madeCells (bcs Al).toArray (N*64)) 177 (0,0)):=by
  rw[hk2.block _ (by omega) (fun h=>h),hk1.block _ (by omega) (fun h=>h)];exact ba
 have bb2:(wb.alloc ob).heap[w.heap.size+1]?=some (.map #[] 0):=by
  rw[hk2.block _ (by omega) (fun h=>h)];exact bb
 refine⟨by rw[cell_of_row _ _ _ _ _ _ bc];rfl,by rw[cell_of_row _ _ _ _ _ _ bc];rfl,by rw[cell_of_row _ _ _ _ _ _ bc];rfl,by rw[cell_of_row _ _ _ _ _ _ bc];rfl,by rw[cell_of_row _ _ _ _ _ _ bc];rfl,fun j=>?_,fun i hi=>?_,fun j hj=>?_,?_,⟨#[],0,bb2,Mp.nil 0⟩,
  by simp,by simp,by simp,hN,fun i _=>AM,fun i x hx=>by cases hx⟩
 ·unfold World.frozen?;rw[show (wb.alloc ob).heap[(⟨w.heap.size+2,j,none⟩:Addr).block]?=_ from bc];simp
 ·intro j v hv;have hj:j<64:=by have:=(List.getElem?_eq_some_iff.1 hv).1;rw[Bf]at this;simpa[fresh,AM]using this
  have hi':i<N:=hi;rw[cell_of_row _ _ _ _ _ _ ba2,K6 N _ (by omega),<-hv];have:=JC Al j (by rw[AM];exact hj);show _=(bcs Al)[j]?;rw[this];have e0:Al[j]'(by rw[AM];exact hj)=0:=by unfold Al;exact List.getElem_replicate _
  rw[e0];rfl
 ·have hj':j<N*64:=hj;rw[Nat.zero_add,cell_of_row _ _ _ _ _ _ ba2,K6 N j hj'];refine⟨rfl,?_⟩;unfold World.frozen?;rw[show (wb.alloc ob).heap[(⟨w.heap.size,j,none⟩:Addr).block]?=_ from ba2];simp
 ·show w.heap.size<_;have:=hk2.size;omega
def newN(n:Int):Nat:=(min (max n 0) 4096).toNat
set_option maxRecDepth 100000 in
theorem Lb(n:Int)(w:World) :
  Calls prog 17 #[.int .i64 n] w fun e w'=>∃p:Dp,e=.returned (.pointer (some ⟨p.d,0,none⟩))/\Dev w' p (fresh (newN n))/\Kp none' w w'/\∀k,p.mem k->w.heap.size<=k:=by
 have hN:newN n<=4096:=by unfold newN;omega
 have hcl:(min (max n 0) 4096:Int)=(newN n:Int):=by unfold newN;omega
 obtain⟨i,hi,hz0,hz1,hz2⟩:=info_parts No;have hmk:=run_make (P:=prog) w 98 177 i _ underlying98 hi hz0 .i64 .i64 (newN n:Int) (newN n:Int) (by omega) (Int.le_refl _) (by rw[hz2];omega) (by omega);rw[hz1]at hmk;simp only[Int.toNat_natCast,Value.cells]at hmk;have hF:=LR w (newN n) hN;have hmm:=@run_makeMap prog;clear hi hz0 hz1 hz2 i;obtain⟨N,HN⟩:∃N,Hid (newN n=N):=⟨_,rfl⟩;rw[HN.out]at hmk hF hN hcl |-
 have hk:=((Kp.alloc none' w (.cells (madeCells (bcs Al).toArray (N*64)) 177)).then (Kp.alloc none' _ (.map #[] 0))).then (Kp.alloc none' _ (.cells #[.slice (some ⟨w.heap.size,0,none⟩) N N,.map (some (w.heap.size+1)),.int .i64 0,.bool false,.int .i64 0] 101));go_enter func17,ntmps17;go_upto_region 2 with fail;have eN:(if 4096<if n<0 then 0 else n then 4096 else if n<0 then 0 else n)=(N:Int):=by
  rw[<-hcl];by_cases h1:n<0
  ·simp only[h1,if_true];omega
  ·simp only[h1,if_false];split<;>omega
 rw[eN];clear hcl eN;generalize (if n<0 then 0 else n)=n1;go_wp2_with (refine By rfl (.tmp 6) (.tmp 6) 98 rfl _ _ rfl rfl hmk ?_);go_ret;exact⟨⟨w.heap.size+2,w.heap.size,w.heap.size+1⟩,rfl,hF,hk,fun k h=>by rcases h with rfl|rfl|rfl<;>simp⟩
end Go.Proofs.YtgcgacjhkhjhmaaGreatDoor
namespace Go.Proofs.YtgcgacjhkhjhmaaGreatDoor
def lessB(a b:ByteArray):Bool:=Op.bytesLess a.data.toList b.data.toList
theorem F7:∀a:List UInt8,Op.bytesLess a a=false
 | []=>rfl
 | x::a=>by simp[Op.bytesLess,F7 a]
theorem Ij:∀a b c:List UInt8,Op.bytesLess a b=true->Op.bytesLess b c=true->Op.bytesLess a c=true
 | _,_,[],_,h=>by simp[Op.bytesLess]at h
 | [],_,_::_,_,_=>rfl
 | _::_,[],_::_,h,_=>by simp[Op.bytesLess]at h
 | x::a,y::b,z::c,h,h'=>by
  simp only[Op.bytesLess,Bool.or_eq_true,decide_eq_true_eq,Bool.and_eq_true,beq_iff_eq]at h h' |-
  rcases h with h|⟨h1,h2⟩
  ·rcases h' with h'|⟨h3,h4⟩
   ·exact .inl (UInt8.lt_trans h h')
   ·subst h3;exact .inl h
  ·subst h1
   rcases h' with h'|⟨h3,h4⟩
   ·exact .inl h'
   ·exact .inr ⟨h3,Ij a b c h2 h4⟩
theorem Ii:∀a b:List UInt8,Op.bytesLess a b=false->Op.bytesLess b a=false->a=b
 | [],[],_,_=>rfl
 | [],_::_,h,_=>by simp[Op.bytesLess]at h
 | _::_,[],_,h=>by simp[Op.bytesLess]at h
 | x::a,y::b,h,h'=>by
  simp only[Op.bytesLess,Bool.or_eq_false_iff,decide_eq_false_iff_not,Bool.and_eq_false_iff,beq_eq_false_iff_ne]at h h'
  have hxy:x=y:=by
   have h1:=h.1;have h2:=h'.1;exact UInt8.le_antisymm (UInt8.not_lt.1 h2) (UInt8.not_lt.1 h1)
  subst hxy;have e1:Op.bytesLess a b=false:=by rcases h.2 with e|e;exact absurd rfl e;exact e
  have e2:Op.bytesLess b a=false:=by rcases h'.2 with e|e;exact absurd rfl e;exact e
  rw[Ii a b e1 e2]
theorem AD(a:ByteArray):lessB a a=false:=F7 _
theorem AY{a b c:ByteArray}(h:lessB a b=true)(h':lessB b c=true):lessB a c=true:=Ij _ _ _ h h'
theorem BB{a b:ByteArray}(h:lessB a b=false)(h':lessB b a=false):a=b:=by
 have e:=Ii _ _ h h';cases a
 cases b
 simp at e;rw[e]
theorem AU{a b:ByteArray}(h:lessB a b=true):lessB b a=false:=by
 cases e:lessB b a with
 | false=>rfl
 | true=>have:=AY h e;rw[AD]at this;cases this
structure Pr where
 k:ByteArray
 v:ByteArray
structure Nd where
 leaf:Bool
 ps:List Pr
 ks:List ByteArray
 kd:List Int
def Pr.size(p:Pr):Nat:=2+p.k.size+p.v.size
def kSize(k:ByteArray):Nat:=3+k.size
def Nd.size(n:Nd):Nat:=if n.leaf then 2+(n.ps.map Pr.size).sum else 4+(n.ks.map kSize).sum
def okKey(k:ByteArray):Bool:=decide (1<=k.size/\k.size<=32)
def chainB:List ByteArray->Bool
 | []=>true
 | [_]=>true
 | a::b::l=>lessB a b&&chainB (b::l)
def ordN(l:List ByteArray):Bool:=l.all okKey&&chainB l
def okD(z:Int):Bool:=decide (1<=z/\z<=65535)
def Nd.right(n:Nd):Bool:=if n.leaf then n.ps.all (fun p=>decide (p.v.size<=40))&&(n.ks.isEmpty&&n.kd.isEmpty&&ordN (n.ps.map Pr.k)) else n.kd.all okD&&(n.ps.isEmpty&&decide (n.kd.length=n.ks.length+1)&&ordN n.ks)
def encPr(p:Pr):List UInt8:=strB p.k.data.toList++strB p.v.data.toList
def encPs(l:List Pr):List UInt8:=l.flatMap encPr
def encKs:List ByteArray->List Int->List UInt8
 | k::l,d::m=>strB k.data.toList++be d.toNat 2++encKs l m
 | _,_=>[]
def Nd.body(n:Nd):List UInt8:=if n.leaf then [1,UInt8.ofNat n.ps.length]++encPs n.ps else [2,UInt8.ofNat n.ks.length]++be (n.kd.headD 0).toNat 2++encKs n.ks n.kd.tail
def Nd.page(n:Nd):List UInt8:=n.body++List.replicate (256 - n.body.length) 0
def Nd.writeE(n:Nd):Int:=if n.right then (if 256<n.size then 3 else 0) else 4
def Nd.write(n:Nd):ByteArray:=if n.writeE=0 then mkB n.page else mkB []
theorem Dw(l:List UInt8)(h:l.length<=255):strB l=UInt8.ofNat l.length::l:=by
 unfold strB;rw[Nat.min_eq_left h,List.take_of_length_le h]
theorem En(l:List UInt8)(h:l.length<=255):(strB l).length=1+l.length:=by
 rw[Dw l h,List.length_cons];omega
theorem Av(s:ByteArray):s.data.toList.length=s.size:=by rw[Array.length_toList];rfl
theorem LP(p:Pr)(hk:p.k.size<=255)(hv:p.v.size<=255):(encPr p).length=p.size:=by
 unfold encPr Pr.size;rw[List.length_append,En _ (by rw[Av];exact hk),En _ (by rw[Av];exact hv),Av,Av];omega
theorem LQ(l:List Pr)(h:∀p∈l,p.k.size<=255/\p.v.size<=255):(encPs l).length=(l.map Pr.size).sum:=by
 induction l with
 | nil=>rfl
 | cons p l ih =>
  have hp:=h p List.mem_cons_self;show (encPr p++encPs l).length=Pr.size p+(l.map Pr.size).sum;rw[List.length_append,LP p hp.1 hp.2,ih (fun q hq=>h q (List.mem_cons_of_mem _ hq))]
theorem Gd:∀(l:List ByteArray) (m:List Int),m.length=l.length->(∀k∈l,k.size<=255)->(encKs l m).length=(l.map kSize).sum
 | [],[],_,_=>rfl
 | k::l,d::m,h,hk=>by
  have h1:=hk k List.mem_cons_self
  show (strB k.data.toList++be d.toNat 2++encKs l m).length=kSize k+(l.map kSize).sum
  rw[List.length_append,List.length_append,En _ (by rw[Av];exact h1),B3,Av,Gd l m (by simpa using h) (fun q hq=>hk q (List.mem_cons_of_mem _ hq))]
  unfold kSize
  omega
theorem AI{n:Nd}(h:n.right=true)(hl:n.leaf=true):(∀p∈n.ps,p.v.size<=40)/\n.ks=[]/\n.kd=[]/\ordN (n.ps.map Pr.k)=true:=by
 unfold Nd.right at h;rw[if_pos hl]at h;simp only[Bool.and_eq_true,List.all_eq_true,decide_eq_true_eq,List.isEmpty_iff]at h;exact⟨h.1,h.2.1.1,h.2.1.2,h.2.2⟩
theorem At{n:Nd}(h:n.right=true)(hl:n.leaf=false):(∀d∈n.kd,1<=d/\d<=65535)/\n.ps=[]/\n.kd.length=n.ks.length+1/\ordN n.ks=true:=by
 unfold Nd.right at h;rw[hl]at h;simp only[Bool.false_eq_true,if_false,Bool.and_eq_true,List.all_eq_true,decide_eq_true_eq,List.isEmpty_iff,okD]at h;exact⟨h.1,h.2.1.1,h.2.1.2,h.2.2⟩
theorem Bj{l:List ByteArray}(h:ordN l=true):∀k∈l,1<=k.size/\k.size<=32:=by
 unfold ordN at h;simp only[Bool.and_eq_true,List.all_eq_true,okKey,decide_eq_true_eq]at h;exact h.1
theorem Fz{l:List ByteArray}(h:ordN l=true):chainB l=true:=by
 unfold ordN at h;simp only[Bool.and_eq_true]at h;exact h.2
theorem BR{n:Nd}(h:n.right=true)(hl:n.leaf=true):∀p∈n.ps,(1<=p.k.size/\p.k.size<=32)/\p.v.size<=40:=fun p hp =>
 ⟨Bj (AI h hl).2.2.2 p.k (List.mem_map_of_mem hp),(AI h hl).1 p hp⟩
theorem Dz{n:Nd}(h:n.right=true):n.body.length=n.size:=by
 unfold Nd.body Nd.size;cases hl:n.leaf with
 | true =>
  rw[if_pos rfl,if_pos rfl,List.length_append,LQ _ (fun p hp=>by have:=BR h hl p hp;omega)];rfl
 | false =>
  obtain⟨h1,h2,h3,h4⟩:=At h hl;simp only[Bool.false_eq_true,if_false];rw[List.length_append,List.length_append,B3,Gd _ _ (by rw[List.length_tail];omega) (fun k hk=>by have:=Bj h4 k hk;omega)];rfl
theorem CO{n:Nd}(h:n.writeE=0):n.page.length=256:=by
 unfold Nd.writeE at h;split at h
 ·rename_i hr;split at h
  ·cases h
  ·unfold Nd.page;have:=Dz hr;rw[List.length_append,List.length_replicate];omega
 ·cases h
theorem FP(l:List Pr)(h:∀p∈l,1<=p.k.size):3*l.length<=(l.map Pr.size).sum:=by
 induction l with
 | nil=>simp
 | cons p l ih =>
  have h1:=h p List.mem_cons_self;have h2:=ih (fun q hq=>h q (List.mem_cons_of_mem _ hq));show 3*(l.length+1)<=Pr.size p+(l.map Pr.size).sum;unfold Pr.size at *;omega
theorem D7(l:List ByteArray)(h:∀k∈l,1<=k.size):4*l.length<=(l.map kSize).sum:=by
 induction l with
 | nil=>simp
 | cons p l ih =>
  have h1:=h p List.mem_cons_self;have h2:=ih (fun q hq=>h q (List.mem_cons_of_mem _ hq));show 4*(l.length+1)<=kSize p+(l.map kSize).sum;unfold kSize at *;omega
def pStr:List UInt8->Option (ByteArray × List UInt8)
 | c::r=>if c.toNat<=r.length then some (mkB (r.take c.toNat),r.drop c.toNat) else none
 | []=>none
def pPrs:Nat->List UInt8->Option (List Pr × List UInt8)
 | 0,l=>some ([],l)
 | n+1,l=>match pStr l with
  | none=>none
  | some (k,l1)=>match pStr l1 with
   | none=>none
   | some (v,l2)=>match pPrs n l2 with
    | none=>none
    | some (ps,l3)=>some (⟨k,v⟩::ps,l3)
def pKs:Nat->List UInt8->Option (List ByteArray × List Int × List UInt8)
 | 0,l=>some ([],[],l)
 | n+1,l=>match pStr l with
  | none=>none
  | some (k,l1)=>if l1.length<2 then none else match pKs n (l1.drop 2) with
   | none=>none
   | some (ks,ds,l3)=>some (k::ks,(val (l1.take 2):Int)::ds,l3)
def pNd:List UInt8->Option Nd
 | a::b::l=>if a=1 then (match pPrs b.toNat l with
   | none=>none
   | some (ps,_)=>some ⟨true,ps,[],[]⟩) else if l.length<2 then none else (match pKs b.toNat (l.drop 2) with
   | none=>none
   | some (ks,ds,_)=>some ⟨false,[],ks,(val (l.take 2):Int)::ds⟩)
 | _=>none
theorem DV(s:ByteArray)(r:List UInt8)(h:s.size<=255):pStr (strB s.data.toList++r)=some (s,r):=by
 have hl:=Av s;rw[Dw _ (by omega),List.cons_append];unfold pStr;have e:(UInt8.ofNat s.data.toList.length).toNat=s.data.toList.length:=by
  rw[UInt8.toNat_ofNat'];exact Nat.mod_eq_of_lt (by omega)
 simp only[e];rw[if_pos (by rw[List.length_append];omega),List.take_left,List.drop_left,DO]
theorem N6(l:List Pr)(r:List UInt8)(h:∀p∈l,p.k.size<=255/\p.v.size<=255):pPrs l.length (encPs l++r)=some (l,r):=by
 induction l with
 | nil=>rfl
 | cons p l ih =>
  have hp:=h p List.mem_cons_self;have e:encPs (p::l)++r=strB p.k.data.toList++(strB p.v.data.toList++(encPs l++r)):=by
   show (encPr p++encPs l)++r=_;unfold encPr;simp only[List.append_assoc]
  rw[e];show pPrs (l.length+1) _=_;unfold pPrs;rw[DV _ _ hp.1];dsimp only;rw[DV _ _ hp.2];dsimp only;rw[ih (fun q hq=>h q (List.mem_cons_of_mem _ hq))]
theorem EU(d:Int)(h:1<=d/\d<=65535):(val (be d.toNat 2):Int)=d:=by
 rw[P3];have:d.toNat%2 ^ (8*2)=d.toNat:=Nat.mod_eq_of_lt (by omega);omega
theorem Lh:∀(l:List ByteArray) (m:List Int) (r:List UInt8),m.length=l.length->(∀k∈l,k.size<=255)->(∀d∈m,1<=d/\d<=65535)->pKs l.length (encKs l m++r)=some (l,m,r)
 | [],[],r,_,_,_=>rfl
 | k::l,d::m,r,h,hk,hd=>by
  have e:encKs (k::l) (d::m)++r=strB k.data.toList++(be d.toNat 2++(encKs l m++r)):=by
   show (strB k.data.toList++be d.toNat 2++encKs l m)++r=_;simp only[List.append_assoc]
  have h2:(be d.toNat 2).length=2:=B3 _ _;rw[e];show pKs (l.length+1) _=_;unfold pKs;rw[DV _ _ (hk k List.mem_cons_self)];dsimp only;rw[if_neg (by rw[List.length_append,h2];omega)];have e1:(be d.toNat 2++(encKs l m++r)).take 2=be d.toNat 2:=by
   have:=List.take_left (l₁:=be d.toNat 2) (l₂:=encKs l m++r);rw[h2]at this;exact this
  have e2:(be d.toNat 2++(encKs l m++r)).drop 2=encKs l m++r:=by
   have:=List.drop_left (l₁:=be d.toNat 2) (l₂:=encKs l m++r);rw[h2]at this;exact this
  rw[e1,e2,Lh l m r (by simpa using h) (fun q hq=>hk q (List.mem_cons_of_mem _ hq)) (fun q hq=>hd q (List.mem_cons_of_mem _ hq)),EU d (hd d List.mem_cons_self)]
theorem N5{n:Nd}(h:n.writeE=0):pNd n.page=some n:=by
 have hr:n.right=true:=by
  unfold Nd.writeE at h;split at h
  ·assumption
  ·cases h
 have hs:n.size<=256:=by
  unfold Nd.writeE at h;rw[if_pos hr]at h;split at h
  ·cases h
  ·omega
 unfold Nd.page;generalize List.replicate (256 - n.body.length) (0:UInt8)=z;unfold Nd.body;cases hl:n.leaf with
 | true =>
  obtain⟨h1,h2,h3,h4⟩:=AI hr hl;have hps:=BR hr hl;have hlen:n.ps.length<=255:=by
   have:=FP n.ps (fun p hp=>(hps p hp).1.1);unfold Nd.size at hs;rw[hl,if_pos rfl]at hs;omega
  have eb:(UInt8.ofNat n.ps.length).toNat=n.ps.length:=by
   rw[UInt8.toNat_ofNat'];exact Nat.mod_eq_of_lt (by omega)
  show pNd (1::UInt8.ofNat n.ps.length::(encPs n.ps++z))=_;unfold pNd;dsimp only;rw[if_pos rfl,eb,N6 _ _ (fun p hp=>by have:=hps p hp;omega)];cases n
  dsimp only at *;subst h2 h3 hl;rfl
 | false =>
  obtain⟨h1,h2,h3,h4⟩:=At hr hl;have hks:=Bj h4;have hlen:n.ks.length<=255:=by
   have:=D7 n.ks (fun k hk=>(hks k hk).1);unfold Nd.size at hs;rw[hl]at hs;simp only[Bool.false_eq_true,if_false]at hs;omega
  have eb:(UInt8.ofNat n.ks.length).toNat=n.ks.length:=by
   rw[UInt8.toNat_ofNat'];exact Nat.mod_eq_of_lt (by omega)
  obtain⟨d,m,hkd⟩:∃d m,n.kd=d::m:=by
   cases hk:n.kd with
   | nil=>rw[hk]at h3;simp at h3
   | cons d m=>exact⟨d,m,rfl⟩
  have h2':(be d.toNat 2).length=2:=B3 _ _;simp only[Bool.false_eq_true,if_false];rw[hkd]at h1 h3 |-;show pNd (([2,UInt8.ofNat n.ks.length]++be d.toNat 2++encKs n.ks m)++z)=_;have e:([2,UInt8.ofNat n.ks.length]++be d.toNat 2++encKs n.ks m)++z=2::UInt8.ofNat n.ks.length::(be d.toNat 2++(encKs n.ks m++z)):=by
   simp only[List.append_assoc,List.cons_append,List.nil_append]
  rw[e];unfold pNd;have e1:(be d.toNat 2++(encKs n.ks m++z)).take 2=be d.toNat 2:=by
   have:=List.take_left (l₁:=be d.toNat 2) (l₂:=encKs n.ks m++z);rw[h2']at this;exact this
  have e2:(be d.toNat 2++(encKs n.ks m++z)).drop 2=encKs n.ks m++z:=by
   have:=List.drop_left (l₁:=be d.toNat 2) (l₂:=encKs n.ks m++z);rw[h2']at this;exact this
  dsimp only;rw[if_neg (by decide),if_neg (by rw[List.length_append,h2'];omega),e1,e2,eb,Lh _ _ _ (by simpa using h3) (fun k hk=>by have:=hks k hk;omega) (fun q hq=>h1 q (List.mem_cons_of_mem _ hq)),EU d (h1 d List.mem_cons_self)];dsimp only;cases n
  dsimp only at *;subst h2 hl hkd;rfl
def readN(s:ByteArray):Option Nd:=match pNd s.data.toList with
 | none=>none
 | some n=>if n.writeE=0/\mkB n.page=s then some n else none
theorem EB{n:Nd}(h:n.writeE=0):readN n.write=some n:=by
 unfold readN Nd.write;rw[if_pos h,Ci,N5 h];dsimp only;rw[if_pos ⟨h,rfl⟩]
theorem Bk{s:ByteArray}{n:Nd}(h:readN s=some n):n.writeE=0/\n.write=s:=by
 unfold readN at h;split at h
 ·cases h
 ·split at h
  ·rename_i hc;cases h
   refine⟨hc.1,?_⟩;unfold Nd.write;rw[if_pos hc.1];exact hc.2
  ·cases h
def findN(ps:List Pr)(k:ByteArray):Nat:=(ps.filter (fun p=>lessB p.k k)).length
def hasN(ps:List Pr)(k:ByteArray):Bool:=match ps[findN ps k]? with
 | some p=>decide (p.k=k)
 | none=>false
def An(ks:List ByteArray)(k:ByteArray):Nat:=(ks.filter (fun x=>!lessB k x)).length
theorem B8(ps:List Pr)(k:ByteArray):findN ps k<=ps.length:=List.length_filter_le _ _
def behind(ps:List Pr)(k:ByteArray):Nat:=if hasN ps k then findN ps k+1 else findN ps k
theorem Ea(ps:List Pr)(k:ByteArray):behind ps k<=ps.length:=by
 unfold behind;split
 ·rename_i h;unfold hasN at h;split at h
  ·rename_i p hp;have:=(List.getElem?_eq_some_iff.1 hp).1;omega
  ·cases h
 ·exact B8 _ _
def Nd.put(n:Nd)(k v:ByteArray):Nd:=⟨true,n.ps.take (findN n.ps k)++[⟨k,v⟩]++n.ps.drop (behind n.ps k),[],[]⟩
def Nd.cut(n:Nd)(k:ByteArray):Nd:=⟨true,n.ps.take (findN n.ps k)++n.ps.drop (behind n.ps k),[],[]⟩
def Asc(ps:List Pr):Prop:=ps.Pairwise (fun a b=>lessB a.k b.k=true)
theorem BM:∀(l:List ByteArray),chainB l=true->l.Pairwise (fun a b=>lessB a b=true)
 | [],_=>List.Pairwise.nil
 | [a],_=>List.pairwise_singleton _ _
 | a::b::l,h=>by
  simp only[chainB,Bool.and_eq_true]at h
  have ih:=BM (b::l) h.2
  refine List.Pairwise.cons (fun c hc=>?_) ih
  rcases List.mem_cons.1 hc with e|e
  ·rw[e];exact h.1
  ·exact AY h.1 ((List.pairwise_cons.1 ih).1 c e)
theorem BP:∀(l:List ByteArray),l.Pairwise (fun a b=>lessB a b=true)->chainB l=true
 | [],_=>rfl
 | [a],_=>rfl
 | a::b::l,h=>by
  obtain⟨h1,h2⟩:=List.pairwise_cons.1 h
  simp only[chainB,Bool.and_eq_true]
  exact⟨h1 b List.mem_cons_self,BP _ h2⟩
theorem Mq{n:Nd}(h:n.right=true):Asc n.ps:=by
 cases hl:n.leaf with
 | true =>
  have:=BM _ (Fz (AI h hl).2.2.2);exact List.pairwise_map.1 this
 | false =>
  rw[(At h hl).2.1];exact List.Pairwise.nil
theorem PP(ps:List Pr)(h:Asc ps)(k:ByteArray):∃A C,ps=A++C/\(∀p∈A,lessB p.k k=true)/\∀p∈C,lessB p.k k=false:=by
 induction ps with
 | nil=>exact⟨[],[],rfl,(fun p h=>by cases h),(fun p h=>by cases h)⟩
 | cons p ps ih =>
  obtain⟨h1,h2⟩:=List.pairwise_cons.1 h;cases hp:lessB p.k k with
  | true =>
   obtain⟨A,C,e,hA,hC⟩:=ih h2;refine⟨p::A,C,by rw[e];rfl,fun q hq=>?_,hC⟩;rcases List.mem_cons.1 hq with e|e
   ·rw[e];exact hp
   ·exact hA q e
  | false =>
   refine⟨[],p::ps,rfl,(fun q h=>by cases h),fun q hq=>?_⟩;rcases List.mem_cons.1 hq with e|e
   ·rw[e];exact hp
   ·cases hq:lessB q.k k with
    | false=>rfl
    | true =>
     have:=AY (h1 q e) hq;rw[hp]at this;cases this
theorem Iy(A C:List Pr)(k:ByteArray)(hA:∀p∈A,lessB p.k k=true)(hC:∀p∈C,lessB p.k k=false):findN (A++C) k=A.length:=by
 unfold findN;rw[List.filter_append,List.filter_eq_self.2 hA,List.filter_eq_nil_iff.2 (fun p hp=>by rw[hC p hp];simp),List.append_nil]
theorem OY(A C:List Pr)(k:ByteArray)(hA:∀p∈A,lessB p.k k=true)(hC:∀p∈C,lessB p.k k=false):hasN (A++C) k=match C with
 | p::_=>decide (p.k=k)
 | []=>false:=by
 unfold hasN;rw[Iy A C k hA hC,List.getElem?_append_right (Nat.le_refl _),Nat.sub_self];cases C<;>rfl
def splG(sz:Nat->Nat)(all lim:Nat):Nat->Nat->Nat->Nat
 | 0,i,_=>i
 | f+1,i,part=>if i<lim/\2*part<all then splG sz all lim f (i+1) (part+sz i) else i
def sumTo(sz:Nat->Nat):Nat->Nat
 | 0=>0
 | i+1=>sumTo sz i+sz i
theorem Em(sz:Nat->Nat)(all lim:Nat):∀f i part,part=sumTo sz i->1<=i->lim<=i+f->(i=1\/2*sumTo sz (i - 1)<all) ->
  ∃j,splG sz all lim f i part=j/\i<=j/\(j<=lim\/j=i)/\(lim<=j\/all<=2*sumTo sz j)/\(j=1\/2*sumTo sz (j - 1)<all)
 | 0,i,part,hp,h1,hl,hi=>⟨i,rfl,Nat.le_refl _,.inr rfl,.inl (by omega),hi⟩
 | f+1,i,part,hp,h1,hl,hi=>by
  unfold splG
  by_cases h:i<lim/\2*part<all
  ·rw[if_pos h]
   obtain⟨j,e,h2,h3,h4,h5⟩:=Em sz all lim f (i+1) (part+sz i) (by rw[hp];rfl) (by omega) (by omega) (.inr (by rw[Nat.add_sub_cancel,<-hp];exact h.2))
   exact⟨j,e,by omega,by omega,h4,h5⟩
  ·rw[if_neg h]
   refine⟨i,rfl,Nat.le_refl _,.inr rfl,?_,hi⟩
   by_cases hlim:i<lim
   ·right
    rw[<-hp]
    omega
   ·left
    omega
theorem CD{α:Type}(f:α->Nat)(d:α):∀(l:List α) (i:Nat),i<=l.length->sumTo (fun j=>f (l.getD j d)) i=((l.take i).map f).sum:=by
 intro l i;induction i with
 | zero=>intro _;simp[sumTo]
 | succ i ih =>
  intro h;have hi:i<l.length:=by omega
  show sumTo _ i+f (l.getD i d)=_;rw[ih (by omega),List.take_succ_eq_append_getElem hi,List.map_append,List.sum_append,List.getD_eq_getElem?_getD,List.getElem?_eq_getElem hi];simp
def Nd.at_(n:Nd):Nat:=if n.leaf then splG (fun j=>(n.ps.getD j ⟨⟨#[]⟩,⟨#[]⟩⟩).size) (n.size - 2) (n.ps.length - 1) n.ps.length 1 (n.ps.getD 0 ⟨⟨#[]⟩,⟨#[]⟩⟩).size
 else splG (fun j=>kSize (n.ks.getD j ⟨#[]⟩)) (n.size - 4) (n.ks.length - 2) n.ks.length 1 (kSize (n.ks.getD 0 ⟨#[]⟩))
def Nd.parts(n:Nd):Bool:=if n.leaf then decide (2<=n.ps.length) else decide (3<=n.ks.length/\n.kd.length=n.ks.length+1)
def Nd.fst(n:Nd):Nd:=if n.parts then (if n.leaf then ⟨true,n.ps.take n.at_,[],[]⟩ else ⟨false,[],n.ks.take n.at_,n.kd.take (n.at_+1)⟩) else n
def Nd.snd(n:Nd):Nd:=if n.parts then (if n.leaf then ⟨true,n.ps.drop n.at_,[],[]⟩ else ⟨false,[],n.ks.drop (n.at_+1),n.kd.drop (n.at_+1)⟩) else ⟨false,[],[],[]⟩
def Nd.mid(n:Nd):ByteArray:=if n.parts then (if n.leaf then (n.ps.getD n.at_ ⟨⟨#[]⟩,⟨#[]⟩⟩).k else n.ks.getD n.at_ ⟨#[]⟩) else ⟨#[]⟩
def Nd.join(a b:Nd)(k:ByteArray):Nd:=if a.leaf then ⟨true,a.ps++b.ps,[],[]⟩ else ⟨false,[],a.ks++[k]++b.ks,a.kd++b.kd⟩
def nd0:Nd:=⟨false,[],[],[]⟩
def ndE(S:Sw)(z:Int):Int:=if (S.read z).2=0 then (if (readN (S.read z).1).isSome then 0 else 10) else (S.read z).2
def ndOf(S:Sw)(z:Int):Nd:=if (S.read z).2=0 then (readN (S.read z).1).getD nd0 else nd0
def trE(S:Sw)(k:Nat)(z lv:Int):Int:=if ndE S z=0 then (if 40<lv\/1000<=k then 10 else 0) else ndE S z
def trK(S:Sw)(k:Nat)(z:Int):Nat:=if ndE S z=0 then k+1 else k
def trN(S:Sw)(k:Nat)(z lv:Int):Nd:=if trE S k z lv=0 then ndOf S z else nd0
theorem Dx{S:Sw}{k:Nat}{z lv:Int}(h:trE S k z lv=0):lv<=40/\k<1000/\ndE S z=0/\trK S k z=k+1/\trN S k z lv=ndOf S z:=by
 have h':=h;unfold trE at h;by_cases h1:ndE S z=0
 ·rw[if_pos h1]at h;by_cases h2:40<lv\/1000<=k
  ·rw[if_pos h2]at h;cases h
  ·refine⟨by omega,by omega,h1,by unfold trK;rw[if_pos h1],by unfold trN;rw[if_pos h']⟩
 ·rw[if_neg h1]at h;exact absurd h h1
theorem Ky(S:Sw)(k:Nat)(z:Int):trK S k z<=k+1:=by unfold trK;split<;>omega
def inB(key fr up:ByteArray):Bool:=!lessB key fr&&(up.size==0||lessB key up)
structure Sp where
 page:Int
 nd:Nd
 kid:Nat
 was:Nat
def wayG (S : Sw) (key : ByteArray) : Nat → List Sp → Int → Nat → List Sp × Int × Nat
  | 0, acc, z, k => ([], 10, k)
  | f + 1, acc, z, k => if trE S k z (acc.length + 1) = 0 then
      (if (ndOf S z).leaf then (acc ++ [⟨z, ndOf S z, An (ndOf S z).ks key, (ndOf S z).size⟩], 0, k + 1)
       else wayG S key f (acc ++ [⟨z, ndOf S z, An (ndOf S z).ks key, (ndOf S z).size⟩]) ((ndOf S z).kd.getD (An (ndOf S z).ks key) 0) (k + 1))
    else ([], trE S k z (acc.length + 1), trK S k z)
structure Lo where
 k:Nat
 pages:List Int
 pairs:List Pr
 depth:Int
def Lo.meet(L:Lo)(z:Int):Lo:=if L.pages.contains z then L else { L with pages:=L.pages++[z] }
def overK(rec:Int->Lo->Int × Lo)(ks:List ByteArray)(up:ByteArray):List Int->Nat->Lo->Int × Lo
 | [],_,L=>(0,L)
 | d::r,i,L=>if 0<i/\inB (ks.getD (i - 1) ⟨#[]⟩) ⟨#[]⟩ up=false then (0,L) else
   if (rec d L).1=0 then overK rec ks up r (i+1) (rec d L).2 else rec d L
def overG(S:Sw)(fr up:ByteArray):Nat->Int->Int->Lo->Int × Lo
 | 0,z,lv,L=>(10,L)
 | f+1,z,lv,L=>if trE S L.k z lv=0 then
   overK (fun d M=>overG S fr up f d (lv+1) M) (ndOf S z).ks up ((ndOf S z).kd.drop (An (ndOf S z).ks fr)) (An (ndOf S z).ks fr)
    { ({ L with k:=L.k+1 }.meet z)with pairs:=L.pairs++(ndOf S z).ps.filter (fun p=>inB p.k fr up) }
  else (trE S L.k z lv,{ L with k:=trK S L.k z })
def over(S:Sw)(root:Int)(fr up:ByteArray):Int × Lo:=if root=0 then (0,⟨0,[],[],0⟩) else overG S fr up 41 root 1 ⟨0,[],[],0⟩
def leafB(ps:List Pr)(dep lv:Int)(fr up:ByteArray):Bool:=decide (lv=dep)&&(match ps.head?,ps.getLast? with
 | some p,some q=>inB p.k fr up&&inB q.k fr up
 | _,_=>false)
def AF(rec:Int->ByteArray->ByteArray->Lo->Bool × Lo)(ks:List ByteArray)(fr up:ByteArray):List Int->Nat->Lo->Bool × Lo
 | [],_,L=>(true,L)
 | d::r,i,L=>if (rec d (if 0<i then ks.getD (i - 1) ⟨#[]⟩ else fr) (if i<ks.length then ks.getD i ⟨#[]⟩ else up) L).1
   then AF rec ks fr up r (i+1) (rec d (if 0<i then ks.getD (i - 1) ⟨#[]⟩ else fr) (if i<ks.length then ks.getD i ⟨#[]⟩ else up) L).2
   else rec d (if 0<i then ks.getD (i - 1) ⟨#[]⟩ else fr) (if i<ks.length then ks.getD i ⟨#[]⟩ else up) L
def Aq(S:Sw):Nat->Int->Int->ByteArray->ByteArray->Lo->Bool × Lo
 | 0,z,lv,fr,up,L=>(false,L)
 | f+1,z,lv,fr,up,L=>if trE S L.k z lv=0 then
   (if L.pages.contains z then (false,{ L with k:=L.k+1 }) else
    if (ndOf S z).leaf then
     (leafB (ndOf S z).ps (if L.depth=0 then lv else L.depth) lv fr up,{ L with k:=L.k+1,pages:=L.pages++[z],depth:=if L.depth=0 then lv else L.depth })
    else if (ndOf S z).ks.length=0 then (false,{ L with k:=L.k+1,pages:=L.pages++[z] })
    else AF (fun d a b M=>Aq S f d (lv+1) a b M) (ndOf S z).ks fr up (ndOf S z).kd 0 { L with k:=L.k+1,pages:=L.pages++[z] })
  else (false,{ L with k:=trK S L.k z })
def sound(S:Sw)(root:Int):Bool × Lo:=if root=0 then (true,⟨0,[],[],0⟩) else Aq S 41 root 1 ⟨#[]⟩ ⟨#[]⟩ ⟨0,[],[],0⟩
def AP(S:Sw)(root:Int):Int × Int × Bool:=if (sound S root).1 then ((sound S root).2.pages.length,(sound S root).2.depth,true) else (0,0,false)
def scanE(S:Sw)(root:Int)(fr up:ByteArray):Int:=(over S root fr up).1
def scanL(S:Sw)(root:Int)(fr up:ByteArray):List Pr:=if scanE S root fr up=0 then (over S root fr up).2.pairs else []
theorem DR{l m:List ByteArray}(h:ordN l=true)(hs:m.Sublist l):ordN m=true:=by
 unfold ordN;rw[Bool.and_eq_true];refine⟨List.all_eq_true.2 (fun k hk=>?_),BP _ ((BM _ (Fz h)).sublist hs)⟩;have:=Bj h k (hs.subset hk);exact decide_eq_true this
theorem B5{l:List Pr}(h1:∀p∈l,p.v.size<=40)(h2:ordN (l.map Pr.k)=true):(⟨true,l,[],[]⟩:Nd).right=true:=by
 unfold Nd.right;rw[if_pos rfl];simp only[Bool.and_eq_true,List.all_eq_true,decide_eq_true_eq];exact⟨h1,⟨rfl,rfl⟩,h2⟩
theorem BQ{l:List ByteArray}{d:List Int}(h1:∀z∈d,1<=z/\z<=65535)(h2:d.length=l.length+1)(h3:ordN l=true):(⟨false,[],l,d⟩:Nd).right=true:=by
 unfold Nd.right;simp only[Bool.false_eq_true,if_false,Bool.and_eq_true,List.all_eq_true,decide_eq_true_eq,okD];exact⟨h1,⟨rfl,h2⟩,h3⟩
theorem GK{n:Nd}(hl:n.leaf=true)(h2:2<=n.ps.length):1<=n.at_/\n.at_<n.ps.length/\(n.at_+1=n.ps.length\/n.size - 2<=2*((n.ps.take n.at_).map Pr.size).sum)/\(n.at_=1\/2*((n.ps.take (n.at_ - 1)).map Pr.size).sum<n.size - 2):=by
 obtain⟨j,e,h3,h4,h5,h6⟩:=Em (fun j=>(n.ps.getD j ⟨⟨#[]⟩,⟨#[]⟩⟩).size) (n.size - 2) (n.ps.length - 1) n.ps.length 1 (n.ps.getD 0 ⟨⟨#[]⟩,⟨#[]⟩⟩).size (by simp[sumTo]) (Nat.le_refl _) (by omega) (.inl rfl);have ha:n.at_=j:=by unfold Nd.at_;rw[if_pos hl];exact e
 rw[ha];rw[CD Pr.size _ n.ps j (by omega)]at h5;rw[CD Pr.size _ n.ps (j - 1) (by omega)]at h6;exact⟨by omega,by omega,by omega,h6⟩
theorem EY{n:Nd}(hl:n.leaf=false)(h3:3<=n.ks.length):1<=n.at_/\n.at_+1<n.ks.length/\(n.at_+2=n.ks.length\/n.size - 4<=2*((n.ks.take n.at_).map kSize).sum)/\(n.at_=1\/2*((n.ks.take (n.at_ - 1)).map kSize).sum<n.size - 4):=by
 obtain⟨j,e,h3',h4,h5,h6⟩:=Em (fun j=>kSize (n.ks.getD j ⟨#[]⟩)) (n.size - 4) (n.ks.length - 2) n.ks.length 1 (kSize (n.ks.getD 0 ⟨#[]⟩)) (by simp[sumTo]) (Nat.le_refl _) (by omega) (.inl rfl);have ha:n.at_=j:=by unfold Nd.at_;rw[hl];exact e
 rw[ha];rw[CD kSize _ n.ks j (by omega)]at h5;rw[CD kSize _ n.ks (j - 1) (by omega)]at h6;exact⟨by omega,by omega,by omega,h6⟩
theorem Dg{α:Type}(f:α->Nat)(l:List α)(i M:Nat)(hi:i<l.length)(hM:∀x∈l,f x<=M):((l.take (i+1)).map f).sum<=((l.take i).map f).sum+M:=by
 rw[List.take_succ_eq_append_getElem hi,List.map_append,List.sum_append];have:=hM _ (List.getElem_mem hi);simp;exact this
theorem Au{α:Type}(f:α->Nat)(l:List α)(i:Nat):((l.take i).map f).sum+((l.drop i).map f).sum=(l.map f).sum:=by
 rw[<-List.sum_append,<-List.map_append,List.take_append_drop]
theorem ET{α:Type}(f:α->Nat)(l:List α)(M:Nat)(h:l.length<=1)(hM:∀x∈l,f x<=M):(l.map f).sum<=M:=by
 match l,h with
 | [],_=>exact Nat.zero_le _
 | [x],_=>simp;exact hM x List.mem_cons_self
theorem Ko{n:Nd}(hr:n.right=true)(hl:n.leaf=true)(h2:2<=n.ps.length):n.fst.join n.snd n.mid=n/\n.fst.right=true/\n.snd.right=true/\1<=n.mid.size/\(∀p∈n.fst.ps,lessB p.k n.mid=true)/\(∀p∈n.snd.ps,lessB p.k n.mid=false)/\(n.size<=330->n.fst.size<=256/\n.snd.size<=256):=by
 obtain⟨a1,a2,a3,a4⟩:=GK hl h2;obtain⟨r1,r2,r3,r4⟩:=AI hr hl;have hps:=BR hr hl;have hasc:=Mq hr;have hp:n.parts=true:=by unfold Nd.parts;rw[if_pos hl];exact decide_eq_true h2
 have ef:n.fst=⟨true,n.ps.take n.at_,[],[]⟩:=by unfold Nd.fst;rw[if_pos hp,if_pos hl]
 have es:n.snd=⟨true,n.ps.drop n.at_,[],[]⟩:=by unfold Nd.snd;rw[if_pos hp,if_pos hl]
 have em:n.mid=n.ps[n.at_].k:=by
  unfold Nd.mid;rw[if_pos hp,if_pos hl,List.getD_eq_getElem?_getD,List.getElem?_eq_getElem a2];rfl
 have hd:n.ps.drop n.at_=n.ps[n.at_]::n.ps.drop (n.at_+1):=List.drop_eq_getElem_cons a2;have hap:=hasc;unfold Asc at hap;rw[<-List.take_append_drop n.at_ n.ps]at hap;obtain⟨b1,b2,b3⟩:=List.pairwise_append.1 hap;refine⟨?_,?_,?_,?_,?_,?_,fun hs=>?_⟩
 ·rw[ef,es];unfold Nd.join;rw[if_pos rfl];show (⟨true,n.ps.take n.at_++n.ps.drop n.at_,[],[]⟩:Nd)=n;rw[List.take_append_drop];cases n
  dsimp only at *;subst r2 r3 hl;rfl
 ·rw[ef];exact B5 (fun p hp=>r1 p (List.mem_of_mem_take hp)) (DR r4 ((List.take_sublist _ _).map _))
 ·rw[es];exact B5 (fun p hp=>r1 p (List.mem_of_mem_drop hp)) (DR r4 ((List.drop_sublist _ _).map _))
 ·rw[em];exact(hps _ (List.getElem_mem a2)).1.1
 ·rw[ef,em];intro p hp;exact b3 p hp _ (by rw[hd];exact List.mem_cons_self)
 ·rw[es,em];intro p hp;rw[hd]at b2;have hp':p∈n.ps.drop n.at_:=hp;rw[hd]at hp';rcases List.mem_cons.1 hp' with e|e
  ·rw[e];exact AD _
  ·exact AU ((List.pairwise_cons.1 b2).1 p e)
 ·have hn:n.size=2+(n.ps.map Pr.size).sum:=by unfold Nd.size;rw[if_pos hl]
  have hM:∀p∈n.ps,p.size<=74:=fun p hp=>by have:=hps p hp;unfold Pr.size;omega
  have hsum:=Au Pr.size n.ps n.at_;have e1:n.fst.size=2+((n.ps.take n.at_).map Pr.size).sum:=by rw[ef];rfl
  have e2:n.snd.size=2+((n.ps.drop n.at_).map Pr.size).sum:=by rw[es];rfl
  rw[e1,e2];constructor
  ·have hst:=Dg Pr.size n.ps (n.at_ - 1) 74 (by omega) hM;rw[Nat.sub_add_cancel a1]at hst;rcases a4 with e|e
   ·have:=ET Pr.size (n.ps.take n.at_) 74 (by rw[List.length_take];omega) (fun p hp=>hM p (List.mem_of_mem_take hp));omega
   ·omega
  ·rcases a3 with e|e
   ·have:=ET Pr.size (n.ps.drop n.at_) 74 (by rw[List.length_drop];omega) (fun p hp=>hM p (List.mem_of_mem_drop hp));omega
   ·omega
theorem Jf{n:Nd}(hr:n.right=true)(hl:n.leaf=false)(h3:3<=n.ks.length):n.fst.join n.snd n.mid=n/\n.fst.right=true/\n.snd.right=true/\1<=n.mid.size/\n.fst.ps=[]/\n.snd.ps=[]/\(n.size<=330->n.fst.size<=256/\n.snd.size<=256):=by
 obtain⟨a1,a2,a3,a4⟩:=EY hl h3;obtain⟨r1,r2,r3,r4⟩:=At hr hl;have hks:=Bj r4;have ai:n.at_<n.ks.length:=by omega
 have hp:n.parts=true:=by unfold Nd.parts;rw[hl];exact decide_eq_true ⟨h3,r3⟩
 have ef:n.fst=⟨false,[],n.ks.take n.at_,n.kd.take (n.at_+1)⟩:=by unfold Nd.fst;rw[if_pos hp,hl];rfl
 have es:n.snd=⟨false,[],n.ks.drop (n.at_+1),n.kd.drop (n.at_+1)⟩:=by unfold Nd.snd;rw[if_pos hp,hl];rfl
 have em:n.mid=n.ks[n.at_]:=by
  unfold Nd.mid;rw[if_pos hp,hl];show n.ks.getD n.at_ ⟨#[]⟩=_;rw[List.getD_eq_getElem?_getD,List.getElem?_eq_getElem ai];rfl
 have hd:n.ks.drop n.at_=n.ks[n.at_]::n.ks.drop (n.at_+1):=List.drop_eq_getElem_cons ai;refine⟨?_,?_,?_,?_,by rw[ef],by rw[es],fun hs=>?_⟩
 ·rw[ef,es,em];unfold Nd.join;show (⟨false,[],n.ks.take n.at_++[n.ks[n.at_]]++n.ks.drop (n.at_+1),n.kd.take (n.at_+1)++n.kd.drop (n.at_+1)⟩:Nd)=n;rw[List.take_append_drop,List.append_assoc];show (⟨false,[],n.ks.take n.at_++(n.ks[n.at_]::n.ks.drop (n.at_+1)),n.kd⟩:Nd)=n;rw[<-hd,List.take_append_drop];cases n
  dsimp only at *;subst r2 hl;rfl
 ·rw[ef];exact BQ (fun z hz=>r1 z (List.mem_of_mem_take hz)) (by rw[List.length_take,List.length_take];omega) (DR r4 (List.take_sublist _ _))
 ·rw[es];exact BQ (fun z hz=>r1 z (List.mem_of_mem_drop hz)) (by rw[List.length_drop,List.length_drop];omega) (DR r4 (List.drop_sublist _ _))
 ·rw[em];exact(hks _ (List.getElem_mem ai)).1
 ·have hn:n.size=4+(n.ks.map kSize).sum:=by unfold Nd.size;rw[hl];rfl
  have hM:∀k∈n.ks,kSize k<=35:=fun k hk=>by have:=hks k hk;unfold kSize;omega
  have hsum:=Au kSize n.ks n.at_;have e1:n.fst.size=4+((n.ks.take n.at_).map kSize).sum:=by rw[ef];rfl
  have e2:n.snd.size=4+((n.ks.drop (n.at_+1)).map kSize).sum:=by rw[es];rfl
  have e3:((n.ks.drop n.at_).map kSize).sum=kSize n.ks[n.at_]+((n.ks.drop (n.at_+1)).map kSize).sum:=by rw[hd,List.map_cons,List.sum_cons]
  rw[e1,e2];constructor
  ·have hst:=Dg kSize n.ks (n.at_ - 1) 35 (by omega) hM;rw[Nat.sub_add_cancel a1]at hst;rcases a4 with e|e
   ·have:=ET kSize (n.ks.take n.at_) 35 (by rw[List.length_take];omega) (fun p hp=>hM p (List.mem_of_mem_take hp));omega
   ·omega
  ·rcases a3 with e|e
   ·have:=ET kSize (n.ks.drop (n.at_+1)) 35 (by rw[List.length_drop];omega) (fun p hp=>hM p (List.mem_of_mem_drop hp));omega
   ·omega
theorem Du{n:Nd}(h:n.parts=false):n.fst=n/\n.snd=⟨false,[],[],[]⟩/\n.mid=⟨#[]⟩:=by
 unfold Nd.fst Nd.snd Nd.mid;rw[h];exact⟨rfl,rfl,rfl⟩
end Go.Proofs.YtgcgacjhkhjhmaaGreatDoor
namespace Go.Proofs.YtgcgacjhkhjhmaaGreatDoor
open Go Go.RowKit
def Prs(B:Nat)(w:World)(v:Value)(l:List Pr):Prop :=
 ∃a c,v=.slice a l.length c/\l.length<=c/\c<=maxLen/\∀i (h:i<l.length),∃b off,a=some ⟨b,off,none⟩/\b<B /\
  w.cell? ⟨b,off+i*2,none⟩=some (.string l[i].k)/\w.cell? ⟨b,off+i*2+1,none⟩=some (.string l[i].v)
theorem Prs.nil(B:Nat)(w:World):Prs B w (.slice none 0 0) []:=⟨none,0,rfl,Nat.le_refl _,Nat.zero_le _,fun i h=>absurd h (by simp)⟩
theorem Prs.kept{B:Nat}{S:Nat->Prop}{w w':World}{v:Value}{l:List Pr}(h:Prs B w v l)(hk:Kp S w w')(hS:∀k,k<B->¬S k):Prs B w' v l:=by
 obtain⟨a,c,rfl,h1,h2,h3⟩:=h;refine⟨a,c,rfl,h1,h2,fun i hi=>?_⟩;obtain⟨b,off,rfl,hb,c0,c1⟩:=h3 i hi;exact⟨b,off,rfl,hb,hk.cell c0 (hS b hb),hk.cell c1 (hS b hb)⟩
theorem Prs.keptN{B:Nat}{w w':World}{v:Value}{l:List Pr}(h:Prs B w v l)(hk:Kp none' w w'):Prs B w' v l:=h.kept hk (fun _ _ h=>h)
theorem Prs.mono{B B':Nat}{w:World}{v:Value}{l:List Pr}(h:Prs B w v l)(hB:B<=B'):Prs B' w v l:=by
 obtain⟨a,c,rfl,h1,h2,h3⟩:=h;refine⟨a,c,rfl,h1,h2,fun i hi=>?_⟩;obtain⟨b,off,rfl,hb,c0⟩:=h3 i hi;exact⟨b,off,rfl,Qd hb hB,c0⟩
theorem Sl.more{α:Type}{f:α->Value}{B B':Nat}{w:World}{v:Value}{l:List α}(h:Sl f B w v l)(hB:B<=B'):Sl f B' w v l:=by
 obtain⟨a,c,rfl,h1,h2,h3⟩:=h;refine⟨a,c,rfl,h1,h2,fun i hi=>?_⟩;obtain⟨b,off,rfl,hb,c0⟩:=h3 i hi;exact⟨b,off,rfl,Qd hb hB,c0⟩
structure Nd.wf (n:Nd):Prop where
 p:∀x∈n.ps,x.k.size<=maxLen/\x.v.size<=maxLen
 k:∀x∈n.ks,x.size<=maxLen
 d:∀z∈n.kd,-9223372036854775808<=z/\z<9223372036854775808
structure Nv (B:Nat) (w:World) (x:Value) (n:Nd):Prop where
 is:∃pv kv dv,x=.agg #[.bool n.leaf,pv,kv,dv]/\Prs B w pv n.ps/\Sl Value.string B w kv n.ks/\Sl (Value.int .i64) B w dv n.kd
 wf:n.wf
theorem Nv.kept{B:Nat}{S:Nat->Prop}{w w':World}{x:Value}{n:Nd}(h:Nv B w x n)(hk:Kp S w w')(hS:∀k,k<B->¬S k):Nv B w' x n:=by
 obtain⟨pv,kv,dv,e,h1,h2,h3⟩:=h.is;exact⟨⟨pv,kv,dv,e,h1.kept hk hS,h2.kept hk hS,h3.kept hk hS⟩,h.wf⟩
theorem Nv.keptN{B:Nat}{w w':World}{x:Value}{n:Nd}(h:Nv B w x n)(hk:Kp none' w w'):Nv B w' x n:=h.kept hk (fun _ _ h=>h)
theorem Nv.more{B B':Nat}{w:World}{x:Value}{n:Nd}(h:Nv B w x n)(hB:B<=B'):Nv B' w x n:=by
 obtain⟨pv,kv,dv,e,h1,h2,h3⟩:=h.is;exact⟨⟨pv,kv,dv,e,h1.mono hB,h2.more hB,h3.more hB⟩,h.wf⟩
def Nb(w:World)(b:Nat)(l:Bool)(pv kv dv:Value):Prop:=w.heap[b]?=some (.cells #[.bool l,pv,kv,dv] 35 (0,0))
theorem Nb.c0{w:World}{b:Nat}{l:Bool}{pv kv dv:Value}(h:Nb w b l pv kv dv):w.cell? ⟨b,0,none⟩=some (.bool l):=by rw[cell_of_row w b 0 _ 35 (0,0) h];rfl
theorem Nb.c1{w:World}{b:Nat}{l:Bool}{pv kv dv:Value}(h:Nb w b l pv kv dv):w.cell? ⟨b,1,none⟩=some pv:=by rw[cell_of_row w b 1 _ 35 (0,0) h];rfl
theorem Nb.c2{w:World}{b:Nat}{l:Bool}{pv kv dv:Value}(h:Nb w b l pv kv dv):w.cell? ⟨b,2,none⟩=some kv:=by rw[cell_of_row w b 2 _ 35 (0,0) h];rfl
theorem Nb.c3{w:World}{b:Nat}{l:Bool}{pv kv dv:Value}(h:Nb w b l pv kv dv):w.cell? ⟨b,3,none⟩=some dv:=by rw[cell_of_row w b 3 _ 35 (0,0) h];rfl
theorem Nb.lt{w:World}{b:Nat}{l:Bool}{pv kv dv:Value}(h:Nb w b l pv kv dv):b<w.heap.size:=(Array.getElem?_eq_some_iff.1 h).1
theorem Nb.kept{w w':World}{b:Nat}{l:Bool}{pv kv dv:Value}{S:Nat->Prop}(h:Nb w b l pv kv dv)(hk:Kp S w w')(hS:¬S b):Nb w' b l pv kv dv:=by
 unfold Nb;rw[hk.block b h.lt hS];exact h
theorem Nb.new(w:World)(l:Bool)(pv kv dv:Value):Nb (w.alloc (.cells #[.bool l,pv,kv,dv] 35)) w.heap.size l pv kv dv:=heap_alloc_new w _
theorem Kv(a b:ByteArray):(a.toList==b.toList)=decide (a=b):=by
 by_cases h:a=b
 ·subst h;simp
 ·have h':¬a.toList=b.toList:=by
   intro e;rw[ByteArray.toList_eq,ByteArray.toList_eq]at e;exact h (ByteArray.ext (Array.toList_inj.1 e))
  simp[h,h']
theorem wrap_add(a b:Int):wrap64 (wrap64 a+wrap64 b)=wrap64 (a+b):=by unfold wrap64;omega
theorem OA(f:Pr->Nat)(l:List Pr)(j:Nat)(h:j<l.length):((l.take (j+1)).map f).sum=((l.take j).map f).sum+f l[j]:=by
 rw[List.take_succ_eq_append_getElem h,List.map_append,List.sum_append];simp
theorem MB(f:ByteArray->Nat)(l:List ByteArray)(j:Nat)(h:j<l.length):((l.take (j+1)).map f).sum=((l.take j).map f).sum+f l[j]:=by
 rw[List.take_succ_eq_append_getElem h,List.map_append,List.sum_append];simp
theorem E3:∀l:List ByteArray,chainB l=true↔∀i (h:i+1<l.length),lessB l[i] l[i+1]=true
 | []=>by simp[chainB]
 | [a]=>by simp[chainB]
 | a::b::l=>by
  simp only[chainB,Bool.and_eq_true,E3 (b::l)]
  constructor
  ·rintro ⟨h1,h2⟩ i h
   rcases i with _|i
   ·exact h1
   ·exact h2 i (by simpa using h)
  ·intro h
   exact⟨h 0 (by simp),fun i hi=>h (i+1) (by simpa using hi)⟩
def okAt(l:List ByteArray)(i:Nat)(h:i<l.length):Prop:=okKey l[i]=true/\∀k (e:i=k+1),lessB (l[k]'(by omega)) l[i]=true
theorem FA(l:List ByteArray):ordN l=true↔∀i (h:i<l.length),okAt l i h:=by
 unfold ordN;rw[Bool.and_eq_true,List.all_eq_true,E3];constructor
 ·rintro ⟨h1,h2⟩ i h;refine⟨h1 _ (List.getElem_mem h),fun k e=>?_⟩;subst e;exact h2 k h
 ·intro h;refine⟨fun x hx=>?_,fun i hi=>(h (i+1) hi).2 i rfl⟩;obtain⟨i,hi,rfl⟩:=List.getElem_of_mem hx;exact(h i hi).1
end Go.Proofs.YtgcgacjhkhjhmaaGreatDoor
