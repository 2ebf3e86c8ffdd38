/- The walk of TreeOdd, over nodes that came in, a number and a text. Condition: each node has at most 1048576 pairs and keys. -/
import Derived.Test.YtgcgacjhkhjhmaaGreatDoorX37
import Derived.Test.YtgcgacjhkhjhmaaGreatDoorX6
set_option linter.unusedVariables false
set_option maxHeartbeats 4000000
open Go.Proofs.Tryz
namespace Go.Proofs.YtgcgacjhkhjhmaaGreatDoor.treeOdd
open Go.RowKit
theorem Odd.more{w0 w:World}{r n u u':Nat}{S:Sw}(h:Odd w0 w r n u S)(hu:u<=u'):Odd w0 w r n u' S:=by
 obtain⟨V,F,q,D,Q,s,h⟩:=h;exact⟨V,F,q,D,Q,s,⟨h.wk,h.cs,h.vl,h.fl,h.vf,h.qn,h.hb,Nat.le_trans h.sb hu,h.kp,h.nt,h.ln⟩⟩
set_option maxRecDepth 100000 in
theorem walk(v:Value)(l:List Nd)(root:Int)(key:ByteArray)(W:World)(hN:Nds W.heap.size W v l)(hbn:∀n∈l,n.ps.length<=1048576/\n.ks.length<=1048576)(hr:okZ root)(hkm:key.size<=maxLen) :
  Calls prog 3 #[v,.int .i64 root,.string key] W fun e W'=>e=.returned (.bool true)/\W.grownBy W' none:=by
 have hlm:l.length<=maxLen:=by obtain⟨a,c,_,h1,h2,_⟩:=hN;omega
 unfold maxLen at hlm;have hvm:(⟨#[118]⟩:ByteArray).size<=maxLen:=by show 1<=maxLen;unfold maxLen;omega
 obtain⟨va,vc,rfl,hlc,hvc,_⟩:=hN;have hN:Nds W.heap.size W (.slice va l.length vc) l:=⟨va,vc,rfl,hlc,hvc,by assumption⟩;have HV:=hide hvm;have HKM:=hide hkm;have HRT:=hide hr;clear hvm hkm hr;go_enter func3,ntmps3;go_wp2_with fail;refine(Kx _).mono ?_;rintro e w1 ⟨rfl,hk1⟩;have hN1:=hN.keptN hk1;have hB1:=hk1.size;go_wp2_with fail;have hfr:=OB 20 w1 (by omega) (by omega);rw[show (((20:Nat):Int))=20 from rfl]at hfr;refine hfr.mono ?_;rintro e w2 ⟨r,rfl,hO2⟩;clear hfr hN
 have HN1:=hide hN1;have HBN:=hide hbn;clear hN1 hbn;go_wp2_with fail;go_loopw [8] (fun i wr=>∃(j:Nat) (S:Sw),j<=15/\j<=l.length/\i=.int .i64 j/\Odd w1 wr r 20 160 S/\Tk S 20 (Up j)) (fun i _=>15 - (intOf i).toNat)
 case atStart=>exact⟨0,sw0 20,by omega,Nat.zero_le _,rfl,hO2,PA 20 (by omega) (by omega)⟩
 case round =>
  clear hO2;obtain⟨j,S,hj15,hjl,rfl,hO,hT⟩:=hrel;by_cases hgo:j<l.length/\j<15
  ·obtain⟨hlt,h15⟩:=hgo;have hi1:(j:Int)<(l.length:Int):=by omega
   have hi2:(j:Int)<15:=by omega
   obtain⟨ht1,ht2⟩:=Pz hT (by omega);have HT1:Hid (S.takeE.1=((j+1:Nat):Int)):=by show _=_;rw[ht1]
   have HT2:Hid (S.takeE.2=0):=by show _=_;rw[ht1]
   clear ht1;obtain⟨n0,Hn0⟩:∃n0,Hid (l[j]=n0):=⟨l[j],hide rfl⟩;have Hsz:=hide (IX n0);have Hbn:Hid (n0.ps.length<=1048576/\n0.ks.length<=1048576):=by rw[<-Hn0.out];exact HBN.out _ (List.getElem_mem hlt)
   obtain⟨X,HX⟩:∃X,Hid (n0.write=X):=⟨_,rfl⟩;obtain⟨E,HE⟩:∃E,Hid (n0.writeE=E):=⟨_,rfl⟩;rw[HX.out,HE.out]at Hsz;go_wp2_with fail;refine(N0 hO).mono ?_;rintro e w3 ⟨rfl,hO3⟩;rw[HT1.out,HT2.out];obtain⟨_,_,ea,_,_,hcs⟩:=HN1.out.keptN hO3.kp;cases ea
   obtain⟨b,off,pv,kv,dv,rfl,hb,c0,c1,c2,c3,ho,hNv⟩:=hcs j hlt;rw[Hn0.out]at c0 hNv;have hB3:=hO3.kp.size;clear hcs hO hT;go_wp2_with fail;refine(Dm _ n0 W.heap.size _ hNv (by omega) (by have:=Hbn.out;omega) (by have:=Hbn.out;omega)).mono ?_;rintro e w4 ⟨rfl,hk4⟩;rw[HX.out,HE.out];have hO4:=hO3.keptN hk4;clear hO3 hk4 c0 c1 c2 c3 hNv ho;by_cases hE:E=0
   ·obtain⟨hw1,hw2⟩:=OG ht2 (by omega) X (Hsz.out.2 hE);rw[show ((j+1:Nat):Int)=(j:Int)+1 by omega]at hw1 hw2;have HW1:=hide hw1;subst hE;clear hw1;go_wp2_with (go_at_call 8;refine(L9 hO4 _ X Hsz.out.1).mono ?_;rintro e w5 ⟨rfl,hO5⟩;rw[HW1.out]);go_roundw
    case rel=>exact⟨j+1,_,by omega,by omega,by go_num,hO5,hw2⟩
    case measure=>simp[intOf];omega
   ·have hE':(E==0)=false:=by simp[hE]
    clear hE;go_wp2_with fail;go_roundw
    case rel=>exact⟨j+1,_,by omega,by omega,by go_num,hO4,ht2⟩
    case measure=>simp[intOf];omega
  ·have hstop:¬((j:Int)<(l.length:Int))\/((j:Int)<(l.length:Int)/\¬(j:Int)<15):=by omega
   have hTx:Tx S 20:=⟨_,hT⟩;clear hgo hT HN1 HBN;rcases hstop with hs1|⟨hs1,hs2⟩
   ·go_upto_region 12 with (first|(go_at_call 9;refine(Bc hO).mono ?_;rintro e wu ⟨rfl,hwu⟩;obtain rfl:=hwu.symm;clear hwu)|(go_at_call 10;refine(AA hO (by omega)).mono ?_;rintro e w5 ⟨v5,rfl,⟨a5,c5,rfl⟩,hO5⟩));obtain⟨U0,HU0⟩:∃U,Hid (S.usedN=U):=⟨_,rfl⟩;obtain⟨C0,HC0⟩:∃C,Hid (S.changed.length=C):=⟨_,rfl⟩;rw[HU0.out,HC0.out];obtain⟨PZ,HPZ⟩:∃z,Hid (putTZ S root key ⟨#[118]⟩=z):=⟨_,rfl⟩;obtain⟨PE,HPE⟩:∃z,Hid (putTE S root key ⟨#[118]⟩=z):=⟨_,rfl⟩
    obtain⟨PS,HPS⟩:∃z,Hid (putTS S root key ⟨#[118]⟩=z):=⟨_,rfl⟩;have hTx2:Tx PS 20:=by rw[<-HPS.out];exact OE S root key _ hTx
    have HPR:Hid (okZ PZ):=by show okZ _;rw[<-HPZ.out];exact Ld (by rw[hTx.choose_spec.len];omega) root key _ HRT.out
    go_upto_region 13 with (go_at_call 11;refine(Lc hO5 (by omega) root key _ HRT.out HKM.out HV.out).mono ?_;rintro e w6 ⟨rfl,hO6⟩;rw[HPZ.out,HPE.out];rw[HPS.out]at hO6);clear hO hO5;by_cases hPE:PE=0
    ·have p1:(PE != 0)=false:=by simp[hPE]
     clear hPE;have hO7:=Odd.more hO6 (by omega:320<=480);clear hO6;go_upto_region 15 with fail;go_upto_region 16 with (first|(go_at_call 9;refine(Bc hO7).mono ?_;rintro e wu ⟨rfl,hwu⟩;obtain rfl:=hwu.symm;clear hwu)|(go_at_call 10;refine(AA hO7 (by omega)).mono ?_;rintro e w8 ⟨v8,rfl,⟨a8,c8,rfl⟩,hO8⟩));obtain⟨U1,HU1⟩:∃U,Hid (PS.usedN=U):=⟨_,rfl⟩;obtain⟨C1,HC1⟩:∃C,Hid (PS.changed.length=C):=⟨_,rfl⟩;rw[HU1.out,HC1.out];obtain⟨DZ,HDZ⟩:∃z,Hid (delTZ PS PZ key=z):=⟨_,rfl⟩
     obtain⟨DB,HDB⟩:∃z,Hid (delTB PS PZ key=z):=⟨_,rfl⟩;obtain⟨DE,HDE⟩:∃z,Hid (delTE PS PZ key=z):=⟨_,rfl⟩;obtain⟨DS,HDS⟩:∃z,Hid (delTS PS PZ key=z):=⟨_,rfl⟩;go_upto_region 17 with (go_at_call 12;refine(CB hO8 (by omega) PZ key HPR.out HKM.out).mono ?_;rintro e w9 ⟨rfl,hO9⟩;rw[HDZ.out,HDB.out,HDE.out];rw[HDS.out]at hO9);clear hO7 hO8;by_cases hDE:DE=0
     ·have d1:(DE != 0)=false:=by simp[hDE]
      clear hDE;have hO10:=Odd.more hO9 (by omega:640<=800);clear hO9;go_upto_region 19 with fail;obtain⟨GT,HGT⟩:∃z,Hid (getT DS DZ key=z):=⟨_,rfl⟩;obtain⟨SE,HSE⟩:∃z,Hid (scanE DS DZ ⟨#[]⟩ ⟨#[]⟩=z):=⟨_,rfl⟩;obtain⟨SL,HSL⟩:∃z,Hid ((scanL DS DZ ⟨#[]⟩ ⟨#[]⟩).length=z):=⟨_,rfl⟩;obtain⟨ST,HST⟩:∃z,Hid (AP DS DZ=z):=⟨_,rfl⟩;obtain⟨gs,gb,ge⟩:=GT;obtain⟨sa,sb,sc⟩:=ST;have HG:Hid (sc=true->ge=0):=by intro h;have:=Bu (S:=DS) (z:=DZ) (by rw[HST.out];exact h) key;rw[HGT.out]at this;exact this
      have HS:Hid (sc=true->SE=0):=by intro h;have:=Bl (S:=DS) (z:=DZ) (by rw[HST.out];exact h) ⟨#[]⟩ ⟨#[]⟩;rw[HSE.out]at this;exact this
      have HZ:Hid (SE≠0->SL=0):=by intro h;rw[<-HSL.out,Bt (by rw[HSE.out];exact h)];rfl
      go_upto_region 22 with (first|(go_at_call 13;refine(BX hO10 key DZ).mono ?_;rintro e w11 ⟨rfl,hO11⟩;rw[HGT.out])|(go_at_call 14;refine(BC hO11 _ _ DZ).mono ?_;rintro e w12 ⟨v12,rfl,⟨a12,c12,rfl⟩,hO12⟩;rw[HSE.out,HSL.out])|(go_at_call 15;refine(Bq hO12 DZ).mono ?_;rintro e w13 ⟨rfl,hO13⟩;rw[HST.out]));have hend:=(hk1.then hO13.kp).grown;clear hO10 hO11 hO12 hO13;cases sc with
      | true =>
       obtain rfl:ge=0:=HG.out rfl;obtain rfl:SE=0:=HS.out rfl;go_wp2;go_ret;exact⟨rfl,hend⟩
      | false =>
       by_cases hge:ge=0
       ·subst hge;by_cases hse:SE=0
        ·subst hse;go_wp2;go_ret;exact⟨rfl,hend⟩
        ·have hs:(SE==0)=false:=by simp[hse]
         obtain rfl:SL=0:=HZ.out hse;clear hse;go_wp2;go_ret;exact⟨rfl,hend⟩
       ·have hg:(ge==0)=false:=by simp[hge]
        clear hge;by_cases hse:SE=0
        ·subst hse;go_wp2;go_ret;exact⟨rfl,hend⟩
        ·have hs:(SE==0)=false:=by simp[hse]
         obtain rfl:SL=0:=HZ.out hse;clear hse;go_wp2;go_ret;exact⟨rfl,hend⟩
     ·have hback:=DD hTx2.choose_spec PZ key (by rw[HDE.out];exact hDE);rw[HDB.out,HDZ.out,HDS.out,HU1.out]at hback;obtain⟨hb0,hb1,hb2,hb3⟩:=hback;have d1:(DE != 0)=true:=by simp[hDE]
      have d2:(DZ != PZ)=false:=by simp[hb1]
      have d3:(DZ==PZ)=true:=by simp[hb1]
      have Hb2:=hide hb2;have Hb3:Hid (DS.changed.length=C1):=by show _=_;rw[hb3,HC1.out]
      have q3:((U1:Int) != (U1:Int))=false:=by simp
      have q4:((C1:Int) != (C1:Int))=false:=by simp
      subst hb0;clear hDE hb1 hb2 hb3;go_upto_region 19 with (first|(go_at_call 9;refine(Bc hO9).mono ?_;rintro e wu ⟨rfl,hwu⟩;obtain rfl:=hwu.symm;clear hwu;rw[Hb2.out])|(go_at_call 10;refine(AA hO9 (by omega)).mono ?_;rintro e w10 ⟨v10,rfl,⟨a10,c10,rfl⟩,hO10⟩;rw[Hb3.out]));clear hO9;obtain⟨GT,HGT⟩:∃z,Hid (getT DS DZ key=z):=⟨_,rfl⟩;obtain⟨SE,HSE⟩:∃z,Hid (scanE DS DZ ⟨#[]⟩ ⟨#[]⟩=z):=⟨_,rfl⟩;obtain⟨SL,HSL⟩:∃z,Hid ((scanL DS DZ ⟨#[]⟩ ⟨#[]⟩).length=z):=⟨_,rfl⟩
      obtain⟨ST,HST⟩:∃z,Hid (AP DS DZ=z):=⟨_,rfl⟩;obtain⟨gs,gb,ge⟩:=GT;obtain⟨sa,sb,sc⟩:=ST;have HG:Hid (sc=true->ge=0):=by intro h;have:=Bu (S:=DS) (z:=DZ) (by rw[HST.out];exact h) key;rw[HGT.out]at this;exact this
      have HS:Hid (sc=true->SE=0):=by intro h;have:=Bl (S:=DS) (z:=DZ) (by rw[HST.out];exact h) ⟨#[]⟩ ⟨#[]⟩;rw[HSE.out]at this;exact this
      have HZ:Hid (SE≠0->SL=0):=by intro h;rw[<-HSL.out,Bt (by rw[HSE.out];exact h)];rfl
      go_upto_region 22 with (first|(go_at_call 13;refine(BX hO10 key DZ).mono ?_;rintro e w11 ⟨rfl,hO11⟩;rw[HGT.out])|(go_at_call 14;refine(BC hO11 _ _ DZ).mono ?_;rintro e w12 ⟨v12,rfl,⟨a12,c12,rfl⟩,hO12⟩;rw[HSE.out,HSL.out])|(go_at_call 15;refine(Bq hO12 DZ).mono ?_;rintro e w13 ⟨rfl,hO13⟩;rw[HST.out]));have hend:=(hk1.then hO13.kp).grown;clear hO10 hO11 hO12 hO13;cases sc with
      | true =>
       obtain rfl:ge=0:=HG.out rfl;obtain rfl:SE=0:=HS.out rfl;go_wp2;go_ret;exact⟨rfl,hend⟩
      | false =>
       by_cases hge:ge=0
       ·subst hge;by_cases hse:SE=0
        ·subst hse;go_wp2;go_ret;exact⟨rfl,hend⟩
        ·have hs:(SE==0)=false:=by simp[hse]
         obtain rfl:SL=0:=HZ.out hse;clear hse;go_wp2;go_ret;exact⟨rfl,hend⟩
       ·have hg:(ge==0)=false:=by simp[hge]
        clear hge;by_cases hse:SE=0
        ·subst hse;go_wp2;go_ret;exact⟨rfl,hend⟩
        ·have hs:(SE==0)=false:=by simp[hse]
         obtain rfl:SL=0:=HZ.out hse;clear hse;go_wp2;go_ret;exact⟨rfl,hend⟩
    ·have hback:=I5 hTx.choose_spec root key ⟨#[118]⟩ (by rw[HPE.out];exact hPE);rw[HPZ.out,HPS.out,HU0.out]at hback;obtain⟨hb1,hb2,hb3⟩:=hback;have p1:(PE != 0)=true:=by simp[hPE]
     have p2:(PZ != root)=false:=by simp[hb1]
     have p3:(PZ==root)=true:=by simp[hb1]
     have Hb2:=hide hb2;have Hb3:Hid (PS.changed.length=C0):=by show _=_;rw[hb3,HC0.out]
     have q1:((U0:Int) != (U0:Int))=false:=by simp
     have q2:((C0:Int) != (C0:Int))=false:=by simp
     clear hPE hb1 hb2 hb3;go_upto_region 15 with (first|(go_at_call 9;refine(Bc hO6).mono ?_;rintro e wu ⟨rfl,hwu⟩;obtain rfl:=hwu.symm;clear hwu;rw[Hb2.out])|(go_at_call 10;refine(AA hO6 (by omega)).mono ?_;rintro e w7 ⟨v7,rfl,⟨a7,c7,rfl⟩,hO7⟩;rw[Hb3.out]));clear hO6
     go_upto_region 16 with (first|(go_at_call 9;refine(Bc hO7).mono ?_;rintro e wu ⟨rfl,hwu⟩;obtain rfl:=hwu.symm;clear hwu)|(go_at_call 10;refine(AA hO7 (by omega)).mono ?_;rintro e w8 ⟨v8,rfl,⟨a8,c8,rfl⟩,hO8⟩));obtain⟨U1,HU1⟩:∃U,Hid (PS.usedN=U):=⟨_,rfl⟩;obtain⟨C1,HC1⟩:∃C,Hid (PS.changed.length=C):=⟨_,rfl⟩;rw[HU1.out,HC1.out];obtain⟨DZ,HDZ⟩:∃z,Hid (delTZ PS PZ key=z):=⟨_,rfl⟩;obtain⟨DB,HDB⟩:∃z,Hid (delTB PS PZ key=z):=⟨_,rfl⟩;obtain⟨DE,HDE⟩:∃z,Hid (delTE PS PZ key=z):=⟨_,rfl⟩
     obtain⟨DS,HDS⟩:∃z,Hid (delTS PS PZ key=z):=⟨_,rfl⟩;go_upto_region 17 with (go_at_call 12;refine(CB hO8 (by omega) PZ key HPR.out HKM.out).mono ?_;rintro e w9 ⟨rfl,hO9⟩;rw[HDZ.out,HDB.out,HDE.out];rw[HDS.out]at hO9);clear hO7 hO8;by_cases hDE:DE=0
     ·have d1:(DE != 0)=false:=by simp[hDE]
      clear hDE;have hO10:=Odd.more hO9 (by omega:640<=800);clear hO9;go_upto_region 19 with fail;obtain⟨GT,HGT⟩:∃z,Hid (getT DS DZ key=z):=⟨_,rfl⟩;obtain⟨SE,HSE⟩:∃z,Hid (scanE DS DZ ⟨#[]⟩ ⟨#[]⟩=z):=⟨_,rfl⟩;obtain⟨SL,HSL⟩:∃z,Hid ((scanL DS DZ ⟨#[]⟩ ⟨#[]⟩).length=z):=⟨_,rfl⟩;obtain⟨ST,HST⟩:∃z,Hid (AP DS DZ=z):=⟨_,rfl⟩;obtain⟨gs,gb,ge⟩:=GT;obtain⟨sa,sb,sc⟩:=ST;have HG:Hid (sc=true->ge=0):=by intro h;have:=Bu (S:=DS) (z:=DZ) (by rw[HST.out];exact h) key;rw[HGT.out]at this;exact this
      have HS:Hid (sc=true->SE=0):=by intro h;have:=Bl (S:=DS) (z:=DZ) (by rw[HST.out];exact h) ⟨#[]⟩ ⟨#[]⟩;rw[HSE.out]at this;exact this
      have HZ:Hid (SE≠0->SL=0):=by intro h;rw[<-HSL.out,Bt (by rw[HSE.out];exact h)];rfl
      go_upto_region 22 with (first|(go_at_call 13;refine(BX hO10 key DZ).mono ?_;rintro e w11 ⟨rfl,hO11⟩;rw[HGT.out])|(go_at_call 14;refine(BC hO11 _ _ DZ).mono ?_;rintro e w12 ⟨v12,rfl,⟨a12,c12,rfl⟩,hO12⟩;rw[HSE.out,HSL.out])|(go_at_call 15;refine(Bq hO12 DZ).mono ?_;rintro e w13 ⟨rfl,hO13⟩;rw[HST.out]));have hend:=(hk1.then hO13.kp).grown;clear hO10 hO11 hO12 hO13;cases sc with
      | true =>
       obtain rfl:ge=0:=HG.out rfl;obtain rfl:SE=0:=HS.out rfl;go_wp2;go_ret;exact⟨rfl,hend⟩
      | false =>
       by_cases hge:ge=0
       ·subst hge;by_cases hse:SE=0
        ·subst hse;go_wp2;go_ret;exact⟨rfl,hend⟩
        ·have hs:(SE==0)=false:=by simp[hse]
         obtain rfl:SL=0:=HZ.out hse;clear hse;go_wp2;go_ret;exact⟨rfl,hend⟩
       ·have hg:(ge==0)=false:=by simp[hge]
        clear hge;by_cases hse:SE=0
        ·subst hse;go_wp2;go_ret;exact⟨rfl,hend⟩
        ·have hs:(SE==0)=false:=by simp[hse]
         obtain rfl:SL=0:=HZ.out hse;clear hse;go_wp2;go_ret;exact⟨rfl,hend⟩
     ·have hback:=DD hTx2.choose_spec PZ key (by rw[HDE.out];exact hDE);rw[HDB.out,HDZ.out,HDS.out,HU1.out]at hback;obtain⟨hb0,hb1,hb2,hb3⟩:=hback;have d1:(DE != 0)=true:=by simp[hDE]
      have d2:(DZ != PZ)=false:=by simp[hb1]
      have d3:(DZ==PZ)=true:=by simp[hb1]
      have Hb2:=hide hb2;have Hb3:Hid (DS.changed.length=C1):=by show _=_;rw[hb3,HC1.out]
      have q3:((U1:Int) != (U1:Int))=false:=by simp
      have q4:((C1:Int) != (C1:Int))=false:=by simp
      subst hb0;clear hDE hb1 hb2 hb3;go_upto_region 19 with (first|(go_at_call 9;refine(Bc hO9).mono ?_;rintro e wu ⟨rfl,hwu⟩;obtain rfl:=hwu.symm;clear hwu;rw[Hb2.out])|(go_at_call 10;refine(AA hO9 (by omega)).mono ?_;rintro e w10 ⟨v10,rfl,⟨a10,c10,rfl⟩,hO10⟩;rw[Hb3.out]));clear hO9;obtain⟨GT,HGT⟩:∃z,Hid (getT DS DZ key=z):=⟨_,rfl⟩;obtain⟨SE,HSE⟩:∃z,Hid (scanE DS DZ ⟨#[]⟩ ⟨#[]⟩=z):=⟨_,rfl⟩;obtain⟨SL,HSL⟩:∃z,Hid ((scanL DS DZ ⟨#[]⟩ ⟨#[]⟩).length=z):=⟨_,rfl⟩
      obtain⟨ST,HST⟩:∃z,Hid (AP DS DZ=z):=⟨_,rfl⟩;obtain⟨gs,gb,ge⟩:=GT;obtain⟨sa,sb,sc⟩:=ST;have HG:Hid (sc=true->ge=0):=by intro h;have:=Bu (S:=DS) (z:=DZ) (by rw[HST.out];exact h) key;rw[HGT.out]at this;exact this
      have HS:Hid (sc=true->SE=0):=by intro h;have:=Bl (S:=DS) (z:=DZ) (by rw[HST.out];exact h) ⟨#[]⟩ ⟨#[]⟩;rw[HSE.out]at this;exact this
      have HZ:Hid (SE≠0->SL=0):=by intro h;rw[<-HSL.out,Bt (by rw[HSE.out];exact h)];rfl
      go_upto_region 22 with (first|(go_at_call 13;refine(BX hO10 key DZ).mono ?_;rintro e w11 ⟨rfl,hO11⟩;rw[HGT.out])|(go_at_call 14;refine(BC hO11 _ _ DZ).mono ?_;rintro e w12 ⟨v12,rfl,⟨a12,c12,rfl⟩,hO12⟩;rw[HSE.out,HSL.out])|(go_at_call 15;refine(Bq hO12 DZ).mono ?_;rintro e w13 ⟨rfl,hO13⟩;rw[HST.out]));have hend:=(hk1.then hO13.kp).grown;clear hO10 hO11 hO12 hO13;cases sc with
      | true =>
       obtain rfl:ge=0:=HG.out rfl;obtain rfl:SE=0:=HS.out rfl;go_wp2;go_ret;exact⟨rfl,hend⟩
      | false =>
       by_cases hge:ge=0
       ·subst hge;by_cases hse:SE=0
        ·subst hse;go_wp2;go_ret;exact⟨rfl,hend⟩
        ·have hs:(SE==0)=false:=by simp[hse]
         obtain rfl:SL=0:=HZ.out hse;clear hse;go_wp2;go_ret;exact⟨rfl,hend⟩
       ·have hg:(ge==0)=false:=by simp[hge]
        clear hge;by_cases hse:SE=0
        ·subst hse;go_wp2;go_ret;exact⟨rfl,hend⟩
        ·have hs:(SE==0)=false:=by simp[hse]
         obtain rfl:SL=0:=HZ.out hse;clear hse;go_wp2;go_ret;exact⟨rfl,hend⟩
   ·go_upto_region 12 with (first|(go_at_call 9;refine(Bc hO).mono ?_;rintro e wu ⟨rfl,hwu⟩;obtain rfl:=hwu.symm;clear hwu)|(go_at_call 10;refine(AA hO (by omega)).mono ?_;rintro e w5 ⟨v5,rfl,⟨a5,c5,rfl⟩,hO5⟩));obtain⟨U0,HU0⟩:∃U,Hid (S.usedN=U):=⟨_,rfl⟩;obtain⟨C0,HC0⟩:∃C,Hid (S.changed.length=C):=⟨_,rfl⟩;rw[HU0.out,HC0.out];obtain⟨PZ,HPZ⟩:∃z,Hid (putTZ S root key ⟨#[118]⟩=z):=⟨_,rfl⟩;obtain⟨PE,HPE⟩:∃z,Hid (putTE S root key ⟨#[118]⟩=z):=⟨_,rfl⟩
    obtain⟨PS,HPS⟩:∃z,Hid (putTS S root key ⟨#[118]⟩=z):=⟨_,rfl⟩;have hTx2:Tx PS 20:=by rw[<-HPS.out];exact OE S root key _ hTx
    have HPR:Hid (okZ PZ):=by show okZ _;rw[<-HPZ.out];exact Ld (by rw[hTx.choose_spec.len];omega) root key _ HRT.out
    go_upto_region 13 with (go_at_call 11;refine(Lc hO5 (by omega) root key _ HRT.out HKM.out HV.out).mono ?_;rintro e w6 ⟨rfl,hO6⟩;rw[HPZ.out,HPE.out];rw[HPS.out]at hO6);clear hO hO5;by_cases hPE:PE=0
    ·have p1:(PE != 0)=false:=by simp[hPE]
     clear hPE;have hO7:=Odd.more hO6 (by omega:320<=480);clear hO6;go_upto_region 15 with fail;go_upto_region 16 with (first|(go_at_call 9;refine(Bc hO7).mono ?_;rintro e wu ⟨rfl,hwu⟩;obtain rfl:=hwu.symm;clear hwu)|(go_at_call 10;refine(AA hO7 (by omega)).mono ?_;rintro e w8 ⟨v8,rfl,⟨a8,c8,rfl⟩,hO8⟩));obtain⟨U1,HU1⟩:∃U,Hid (PS.usedN=U):=⟨_,rfl⟩;obtain⟨C1,HC1⟩:∃C,Hid (PS.changed.length=C):=⟨_,rfl⟩;rw[HU1.out,HC1.out];obtain⟨DZ,HDZ⟩:∃z,Hid (delTZ PS PZ key=z):=⟨_,rfl⟩
     obtain⟨DB,HDB⟩:∃z,Hid (delTB PS PZ key=z):=⟨_,rfl⟩;obtain⟨DE,HDE⟩:∃z,Hid (delTE PS PZ key=z):=⟨_,rfl⟩;obtain⟨DS,HDS⟩:∃z,Hid (delTS PS PZ key=z):=⟨_,rfl⟩;go_upto_region 17 with (go_at_call 12;refine(CB hO8 (by omega) PZ key HPR.out HKM.out).mono ?_;rintro e w9 ⟨rfl,hO9⟩;rw[HDZ.out,HDB.out,HDE.out];rw[HDS.out]at hO9);clear hO7 hO8;by_cases hDE:DE=0
     ·have d1:(DE != 0)=false:=by simp[hDE]
      clear hDE;have hO10:=Odd.more hO9 (by omega:640<=800);clear hO9;go_upto_region 19 with fail;obtain⟨GT,HGT⟩:∃z,Hid (getT DS DZ key=z):=⟨_,rfl⟩;obtain⟨SE,HSE⟩:∃z,Hid (scanE DS DZ ⟨#[]⟩ ⟨#[]⟩=z):=⟨_,rfl⟩;obtain⟨SL,HSL⟩:∃z,Hid ((scanL DS DZ ⟨#[]⟩ ⟨#[]⟩).length=z):=⟨_,rfl⟩;obtain⟨ST,HST⟩:∃z,Hid (AP DS DZ=z):=⟨_,rfl⟩;obtain⟨gs,gb,ge⟩:=GT;obtain⟨sa,sb,sc⟩:=ST;have HG:Hid (sc=true->ge=0):=by intro h;have:=Bu (S:=DS) (z:=DZ) (by rw[HST.out];exact h) key;rw[HGT.out]at this;exact this
      have HS:Hid (sc=true->SE=0):=by intro h;have:=Bl (S:=DS) (z:=DZ) (by rw[HST.out];exact h) ⟨#[]⟩ ⟨#[]⟩;rw[HSE.out]at this;exact this
      have HZ:Hid (SE≠0->SL=0):=by intro h;rw[<-HSL.out,Bt (by rw[HSE.out];exact h)];rfl
      go_upto_region 22 with (first|(go_at_call 13;refine(BX hO10 key DZ).mono ?_;rintro e w11 ⟨rfl,hO11⟩;rw[HGT.out])|(go_at_call 14;refine(BC hO11 _ _ DZ).mono ?_;rintro e w12 ⟨v12,rfl,⟨a12,c12,rfl⟩,hO12⟩;rw[HSE.out,HSL.out])|(go_at_call 15;refine(Bq hO12 DZ).mono ?_;rintro e w13 ⟨rfl,hO13⟩;rw[HST.out]));have hend:=(hk1.then hO13.kp).grown;clear hO10 hO11 hO12 hO13;cases sc with
      | true =>
       obtain rfl:ge=0:=HG.out rfl;obtain rfl:SE=0:=HS.out rfl;go_wp2;go_ret;exact⟨rfl,hend⟩
      | false =>
       by_cases hge:ge=0
       ·subst hge;by_cases hse:SE=0
        ·subst hse;go_wp2;go_ret;exact⟨rfl,hend⟩
        ·have hs:(SE==0)=false:=by simp[hse]
         obtain rfl:SL=0:=HZ.out hse;clear hse;go_wp2;go_ret;exact⟨rfl,hend⟩
       ·have hg:(ge==0)=false:=by simp[hge]
        clear hge;by_cases hse:SE=0
        ·subst hse;go_wp2;go_ret;exact⟨rfl,hend⟩
        ·have hs:(SE==0)=false:=by simp[hse]
         obtain rfl:SL=0:=HZ.out hse;clear hse;go_wp2;go_ret;exact⟨rfl,hend⟩
     ·have hback:=DD hTx2.choose_spec PZ key (by rw[HDE.out];exact hDE);rw[HDB.out,HDZ.out,HDS.out,HU1.out]at hback;obtain⟨hb0,hb1,hb2,hb3⟩:=hback;have d1:(DE != 0)=true:=by simp[hDE]
      have d2:(DZ != PZ)=false:=by simp[hb1]
      have d3:(DZ==PZ)=true:=by simp[hb1]
      have Hb2:=hide hb2;have Hb3:Hid (DS.changed.length=C1):=by show _=_;rw[hb3,HC1.out]
      have q3:((U1:Int) != (U1:Int))=false:=by simp
      have q4:((C1:Int) != (C1:Int))=false:=by simp
      subst hb0;clear hDE hb1 hb2 hb3;go_upto_region 19 with (first|(go_at_call 9;refine(Bc hO9).mono ?_;rintro e wu ⟨rfl,hwu⟩;obtain rfl:=hwu.symm;clear hwu;rw[Hb2.out])|(go_at_call 10;refine(AA hO9 (by omega)).mono ?_;rintro e w10 ⟨v10,rfl,⟨a10,c10,rfl⟩,hO10⟩;rw[Hb3.out]));clear hO9;obtain⟨GT,HGT⟩:∃z,Hid (getT DS DZ key=z):=⟨_,rfl⟩;obtain⟨SE,HSE⟩:∃z,Hid (scanE DS DZ ⟨#[]⟩ ⟨#[]⟩=z):=⟨_,rfl⟩;obtain⟨SL,HSL⟩:∃z,Hid ((scanL DS DZ ⟨#[]⟩ ⟨#[]⟩).length=z):=⟨_,rfl⟩
      obtain⟨ST,HST⟩:∃z,Hid (AP DS DZ=z):=⟨_,rfl⟩;obtain⟨gs,gb,ge⟩:=GT;obtain⟨sa,sb,sc⟩:=ST;have HG:Hid (sc=true->ge=0):=by intro h;have:=Bu (S:=DS) (z:=DZ) (by rw[HST.out];exact h) key;rw[HGT.out]at this;exact this
      have HS:Hid (sc=true->SE=0):=by intro h;have:=Bl (S:=DS) (z:=DZ) (by rw[HST.out];exact h) ⟨#[]⟩ ⟨#[]⟩;rw[HSE.out]at this;exact this
      have HZ:Hid (SE≠0->SL=0):=by intro h;rw[<-HSL.out,Bt (by rw[HSE.out];exact h)];rfl
      go_upto_region 22 with (first|(go_at_call 13;refine(BX hO10 key DZ).mono ?_;rintro e w11 ⟨rfl,hO11⟩;rw[HGT.out])|(go_at_call 14;refine(BC hO11 _ _ DZ).mono ?_;rintro e w12 ⟨v12,rfl,⟨a12,c12,rfl⟩,hO12⟩;rw[HSE.out,HSL.out])|(go_at_call 15;refine(Bq hO12 DZ).mono ?_;rintro e w13 ⟨rfl,hO13⟩;rw[HST.out]));have hend:=(hk1.then hO13.kp).grown;clear hO10 hO11 hO12 hO13;cases sc with
      | true =>
       obtain rfl:ge=0:=HG.out rfl;obtain rfl:SE=0:=HS.out rfl;go_wp2;go_ret;exact⟨rfl,hend⟩
      | false =>
       by_cases hge:ge=0
       ·subst hge;by_cases hse:SE=0
        ·subst hse;go_wp2;go_ret;exact⟨rfl,hend⟩
        ·have hs:(SE==0)=false:=by simp[hse]
         obtain rfl:SL=0:=HZ.out hse;clear hse;go_wp2;go_ret;exact⟨rfl,hend⟩
       ·have hg:(ge==0)=false:=by simp[hge]
        clear hge;by_cases hse:SE=0
        ·subst hse;go_wp2;go_ret;exact⟨rfl,hend⟩
        ·have hs:(SE==0)=false:=by simp[hse]
         obtain rfl:SL=0:=HZ.out hse;clear hse;go_wp2;go_ret;exact⟨rfl,hend⟩
    ·have hback:=I5 hTx.choose_spec root key ⟨#[118]⟩ (by rw[HPE.out];exact hPE);rw[HPZ.out,HPS.out,HU0.out]at hback;obtain⟨hb1,hb2,hb3⟩:=hback;have p1:(PE != 0)=true:=by simp[hPE]
     have p2:(PZ != root)=false:=by simp[hb1]
     have p3:(PZ==root)=true:=by simp[hb1]
     have Hb2:=hide hb2;have Hb3:Hid (PS.changed.length=C0):=by show _=_;rw[hb3,HC0.out]
     have q1:((U0:Int) != (U0:Int))=false:=by simp
     have q2:((C0:Int) != (C0:Int))=false:=by simp
     clear hPE hb1 hb2 hb3;go_upto_region 15 with (first|(go_at_call 9;refine(Bc hO6).mono ?_;rintro e wu ⟨rfl,hwu⟩;obtain rfl:=hwu.symm;clear hwu;rw[Hb2.out])|(go_at_call 10;refine(AA hO6 (by omega)).mono ?_;rintro e w7 ⟨v7,rfl,⟨a7,c7,rfl⟩,hO7⟩;rw[Hb3.out]));clear hO6
     go_upto_region 16 with (first|(go_at_call 9;refine(Bc hO7).mono ?_;rintro e wu ⟨rfl,hwu⟩;obtain rfl:=hwu.symm;clear hwu)|(go_at_call 10;refine(AA hO7 (by omega)).mono ?_;rintro e w8 ⟨v8,rfl,⟨a8,c8,rfl⟩,hO8⟩));obtain⟨U1,HU1⟩:∃U,Hid (PS.usedN=U):=⟨_,rfl⟩;obtain⟨C1,HC1⟩:∃C,Hid (PS.changed.length=C):=⟨_,rfl⟩;rw[HU1.out,HC1.out];obtain⟨DZ,HDZ⟩:∃z,Hid (delTZ PS PZ key=z):=⟨_,rfl⟩;obtain⟨DB,HDB⟩:∃z,Hid (delTB PS PZ key=z):=⟨_,rfl⟩;obtain⟨DE,HDE⟩:∃z,Hid (delTE PS PZ key=z):=⟨_,rfl⟩
     obtain⟨DS,HDS⟩:∃z,Hid (delTS PS PZ key=z):=⟨_,rfl⟩;go_upto_region 17 with (go_at_call 12;refine(CB hO8 (by omega) PZ key HPR.out HKM.out).mono ?_;rintro e w9 ⟨rfl,hO9⟩;rw[HDZ.out,HDB.out,HDE.out];rw[HDS.out]at hO9);clear hO7 hO8;by_cases hDE:DE=0
     ·have d1:(DE != 0)=false:=by simp[hDE]
      clear hDE;have hO10:=Odd.more hO9 (by omega:640<=800);clear hO9;go_upto_region 19 with fail;obtain⟨GT,HGT⟩:∃z,Hid (getT DS DZ key=z):=⟨_,rfl⟩;obtain⟨SE,HSE⟩:∃z,Hid (scanE DS DZ ⟨#[]⟩ ⟨#[]⟩=z):=⟨_,rfl⟩;obtain⟨SL,HSL⟩:∃z,Hid ((scanL DS DZ ⟨#[]⟩ ⟨#[]⟩).length=z):=⟨_,rfl⟩;obtain⟨ST,HST⟩:∃z,Hid (AP DS DZ=z):=⟨_,rfl⟩;obtain⟨gs,gb,ge⟩:=GT;obtain⟨sa,sb,sc⟩:=ST;have HG:Hid (sc=true->ge=0):=by intro h;have:=Bu (S:=DS) (z:=DZ) (by rw[HST.out];exact h) key;rw[HGT.out]at this;exact this
      have HS:Hid (sc=true->SE=0):=by intro h;have:=Bl (S:=DS) (z:=DZ) (by rw[HST.out];exact h) ⟨#[]⟩ ⟨#[]⟩;rw[HSE.out]at this;exact this
      have HZ:Hid (SE≠0->SL=0):=by intro h;rw[<-HSL.out,Bt (by rw[HSE.out];exact h)];rfl
      go_upto_region 22 with (first|(go_at_call 13;refine(BX hO10 key DZ).mono ?_;rintro e w11 ⟨rfl,hO11⟩;rw[HGT.out])|(go_at_call 14;refine(BC hO11 _ _ DZ).mono ?_;rintro e w12 ⟨v12,rfl,⟨a12,c12,rfl⟩,hO12⟩;rw[HSE.out,HSL.out])|(go_at_call 15;refine(Bq hO12 DZ).mono ?_;rintro e w13 ⟨rfl,hO13⟩;rw[HST.out]));have hend:=(hk1.then hO13.kp).grown;clear hO10 hO11 hO12 hO13;cases sc with
      | true =>
       obtain rfl:ge=0:=HG.out rfl;obtain rfl:SE=0:=HS.out rfl;go_wp2;go_ret;exact⟨rfl,hend⟩
      | false =>
       by_cases hge:ge=0
       ·subst hge;by_cases hse:SE=0
        ·subst hse;go_wp2;go_ret;exact⟨rfl,hend⟩
        ·have hs:(SE==0)=false:=by simp[hse]
         obtain rfl:SL=0:=HZ.out hse;clear hse;go_wp2;go_ret;exact⟨rfl,hend⟩
       ·have hg:(ge==0)=false:=by simp[hge]
        clear hge;by_cases hse:SE=0
        ·subst hse;go_wp2;go_ret;exact⟨rfl,hend⟩
        ·have hs:(SE==0)=false:=by simp[hse]
         obtain rfl:SL=0:=HZ.out hse;clear hse;go_wp2;go_ret;exact⟨rfl,hend⟩
     ·have hback:=DD hTx2.choose_spec PZ key (by rw[HDE.out];exact hDE);rw[HDB.out,HDZ.out,HDS.out,HU1.out]at hback;obtain⟨hb0,hb1,hb2,hb3⟩:=hback;have d1:(DE != 0)=true:=by simp[hDE]
      have d2:(DZ != PZ)=false:=by simp[hb1]
      have d3:(DZ==PZ)=true:=by simp[hb1]
      have Hb2:=hide hb2;have Hb3:Hid (DS.changed.length=C1):=by show _=_;rw[hb3,HC1.out]
      have q3:((U1:Int) != (U1:Int))=false:=by simp
      have q4:((C1:Int) != (C1:Int))=false:=by simp
      subst hb0;clear hDE hb1 hb2 hb3;go_upto_region 19 with (first|(go_at_call 9;refine(Bc hO9).mono ?_;rintro e wu ⟨rfl,hwu⟩;obtain rfl:=hwu.symm;clear hwu;rw[Hb2.out])|(go_at_call 10;refine(AA hO9 (by omega)).mono ?_;rintro e w10 ⟨v10,rfl,⟨a10,c10,rfl⟩,hO10⟩;rw[Hb3.out]));clear hO9;obtain⟨GT,HGT⟩:∃z,Hid (getT DS DZ key=z):=⟨_,rfl⟩;obtain⟨SE,HSE⟩:∃z,Hid (scanE DS DZ ⟨#[]⟩ ⟨#[]⟩=z):=⟨_,rfl⟩;obtain⟨SL,HSL⟩:∃z,Hid ((scanL DS DZ ⟨#[]⟩ ⟨#[]⟩).length=z):=⟨_,rfl⟩
      obtain⟨ST,HST⟩:∃z,Hid (AP DS DZ=z):=⟨_,rfl⟩;obtain⟨gs,gb,ge⟩:=GT;obtain⟨sa,sb,sc⟩:=ST;have HG:Hid (sc=true->ge=0):=by intro h;have:=Bu (S:=DS) (z:=DZ) (by rw[HST.out];exact h) key;rw[HGT.out]at this;exact this
      have HS:Hid (sc=true->SE=0):=by intro h;have:=Bl (S:=DS) (z:=DZ) (by rw[HST.out];exact h) ⟨#[]⟩ ⟨#[]⟩;rw[HSE.out]at this;exact this
      have HZ:Hid (SE≠0->SL=0):=by intro h;rw[<-HSL.out,Bt (by rw[HSE.out];exact h)];rfl
      go_upto_region 22 with (first|(go_at_call 13;refine(BX hO10 key DZ).mono ?_;rintro e w11 ⟨rfl,hO11⟩;rw[HGT.out])|(go_at_call 14;refine(BC hO11 _ _ DZ).mono ?_;rintro e w12 ⟨v12,rfl,⟨a12,c12,rfl⟩,hO12⟩;rw[HSE.out,HSL.out])|(go_at_call 15;refine(Bq hO12 DZ).mono ?_;rintro e w13 ⟨rfl,hO13⟩;rw[HST.out]));have hend:=(hk1.then hO13.kp).grown;clear hO10 hO11 hO12 hO13;cases sc with
      | true =>
       obtain rfl:ge=0:=HG.out rfl;obtain rfl:SE=0:=HS.out rfl;go_wp2;go_ret;exact⟨rfl,hend⟩
      | false =>
       by_cases hge:ge=0
       ·subst hge;by_cases hse:SE=0
        ·subst hse;go_wp2;go_ret;exact⟨rfl,hend⟩
        ·have hs:(SE==0)=false:=by simp[hse]
         obtain rfl:SL=0:=HZ.out hse;clear hse;go_wp2;go_ret;exact⟨rfl,hend⟩
       ·have hg:(ge==0)=false:=by simp[hge]
        clear hge;by_cases hse:SE=0
        ·subst hse;go_wp2;go_ret;exact⟨rfl,hend⟩
        ·have hs:(SE==0)=false:=by simp[hse]
         obtain rfl:SL=0:=HZ.out hse;clear hse;go_wp2;go_ret;exact⟨rfl,hend⟩
end Go.Proofs.YtgcgacjhkhjhmaaGreatDoor.treeOdd
