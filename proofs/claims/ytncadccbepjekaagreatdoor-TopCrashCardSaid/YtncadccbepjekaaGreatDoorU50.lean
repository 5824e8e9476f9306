/- Texts of mine, joined. -/
import Derived.Test.YtncadccbepjekaaGreatDoorU47
import Derived.Test.YtncadccbepjekaaGreatDoorU49
set_option maxRecDepth 100000
set_option maxHeartbeats 4000000
namespace Go.Proofs.YtncadccbepjekaaGreatDoor
open Go.RowKit
def aa5 (l:List Cl) (most:Nat):Bool:=decide (l.length<=most)&&l.all fun x=>decide (x.b.length<=2000)
theorem adp (w:World) (A:Option Addr) (k:Nat) (l:List Cl) (hL:ClRd w w.heap.size A l) (hm:l.length<=9223372036854775807) (most:Nat) (h1:most<=1000):
 Calls Tryz.prog 14 #[.slice A l.length k, .int .i64 (most:Int)] w fun e w'=>e= .returned (.int .i64 (if aa5 l most=true then 1 else 0))/\w=w':=by
 by_cases hl:most<l.length
 · have e:aa5 l most=false:=by unfold aa5;rw[decide_eq_false (by omega)];rfl
   rw[e];have g1:decide (most<l.length)=true:=decide_eq_true hl;clear e hL;go_enter Tryz.func14,Tryz.ntmps14
   go_wp2
   go_ret
   exact⟨rfl,rfl⟩
 · have g1:decide (most<l.length)=false:=decide_eq_false hl;have HE:Hid (∀j,(∀i x,i<j->l[i]?=some x->x.b.length<=2000)->(j=l.length->aa5 l most=true)/\∀x,l[j]?=some x->2000<x.b.length->aa5 l most=false):=fun j hj=>by
    refine⟨fun e=> ?_,fun x hx hb=> ?_⟩
    · unfold aa5;rw[decide_eq_true (by omega),Bool.true_and,List.all_eq_true];intro x hx;obtain⟨i,hi⟩:=List.mem_iff_getElem?.1 hx;exact decide_eq_true (hj i x (by have:=abi hi;omega) hi)
    · unfold aa5;have:(l.all fun x=>decide (x.b.length<=2000))=false:=by
       rw[List.all_eq_false];exact⟨x,List.mem_of_getElem? hx,by simp;omega⟩
      rw[this,Bool.and_false]
   obtain⟨n,hn⟩:=nmE l.length;rw[hn]at g1 hl hm ⊢;have HN:=hE0 hn;obtain⟨v,hv⟩:∃v:Int,(if aa5 l most=true then (1:Int) else 0)=v:=⟨_,rfl⟩;have HV:=hE0 hv;rw[hv];have HL:=hE0 hL;clear hL hn hv;go_enter Tryz.func14,Tryz.ntmps14
   go_wp2
   go_loopw [5] (fun i wr=>∃j:Nat,i= .int .i64 (j:Int)/\j<=n/\(∀i x,i<j->l[i]?=some x->x.b.length<=2000)/\w=wr) (fun i _=>n-(intOf i).toNat)
   case atStart=>exact⟨0,rfl,Nat.zero_le _,fun i x hi=>absurd hi (Nat.not_lt_zero _),rfl⟩
   case round=>
    obtain⟨j,rfl,hj,hs,rfl⟩:=hrel;obtain⟨hE1,hE2⟩:=HE.out j hs;by_cases hlt:j<n
    · obtain⟨x,hx⟩:∃x,l[j]?=some x:=⟨l[j]'(by rw[HN.out];exact hlt),List.getElem?_eq_getElem _⟩;obtain⟨b,o,rfl,_,hc⟩:=HL.out (by rw[HN.out];omega);obtain⟨⟨c0,c1,c2,c3,c4,c5,c6⟩,_⟩:=hc j x hx;have hE3:=hE2 x hx;obtain⟨bl,hbl⟩:=nmE x.b.length;rw[hbl]at c6 hE3;have HX:=hE0 hx;have HBL:=hE0 hbl;have HS:=hE0 hs;by_cases hb:2000<bl
      · have g3:decide ((2000:Int)<(bl:Int))=true:=decide_eq_true (by omega);have e:=hE3 hb;have HV0:Hid (v=0):=(show v=0 by rw[<-HV.out,e];rfl);clear hE1 hE2 hE3 hc hx hbl hs e;go_wp2
        go_ret
        rw[HV0.out];exact⟨rfl,rfl⟩
      · have g3:decide ((2000:Int)<(bl:Int))=false:=decide_eq_false (by omega);have HS2:Hid (∀i z,i<j+1->l[i]?=some z->z.b.length<=2000):=fun i z hi hz=>by
         by_cases e:i<j
         · exact HS.out i z e hz
         · obtain rfl:i=j:=by omega
           rw[HX.out]at hz;injection hz with hz;rw[<-hz,HBL.out];omega
        clear hE1 hE2 hE3 hc hx hbl hs;go_wp2
        go_roundw
        case rel=>exact⟨j+1,by go_num,by omega,HS2.out,trivial⟩
        case measure=>simp only[intOf];omega
    · have e:=hE1 (by rw[HN.out];omega);have HV1:Hid (v=1):=(show v=1 by rw[<-HV.out,e];rfl);clear hE1 hE2 hs e;go_wp2
      go_ret
      rw[HV1.out];exact⟨rfl,rfl⟩
theorem asB (w:World) (r:Rp) (A1 A2:Option Addr) (c1 c2:Nat) (h1:Rd w w.heap.size A1 r.b.length r.b) (h2:Rd w w.heap.size A2 r.b.length r.b):
 Calls Tryz.prog 21 #[rpV r A1 c1,rpV r A2 c2] w fun e w'=>e= .returned (.bool true)/\Below w.heap.size w w':=by
 obtain⟨rk,rh,rn,rb,⟨s0,s1,s2,s3,s4⟩⟩:=r;unfold rpV ahu;dsimp only at h1 h2 ⊢;obtain⟨bl,hbl⟩:=nmE rb.length;rw[hbl]at h1 h2 ⊢;obtain⟨w1,hw1⟩:=nmE (w.alloc (.cells #[.int .i64 rk, .int .u64 (rh:Int), .int .u64 (rn:Int), .slice A1 bl c1, .int .i64 (s0:Int), .int .i64 (s1:Int), .int .i64 (s2:Int), .int .i64 (s3:Int), .int .i64 (s4:Int)] 50));obtain⟨w2,hw2⟩:=nmE (w1.alloc (.cells #[.int .i64 rk, .int .u64 (rh:Int), .int .u64 (rn:Int), .slice A2 bl c2, .int .i64 (s0:Int), .int .i64 (s1:Int), .int .i64 (s2:Int), .int .i64 (s3:Int), .int .i64 (s4:Int)] 50));have b1:=abE hw1;have b2:=abE hw2;have n1:=anE hw1;have n2:=anE hw2;have m2:=(b2.block _ (aae n1)).trans n1;have b12:=b1.trans (b2.mono b1.size);obtain⟨⟨y0,y1,y2,y3,y4,y5,y6,y7,y8⟩,_⟩:=abo m2;obtain⟨⟨z0,z1,z2,z3,z4,z5,z6,z7,z8⟩,_⟩:=abo n2;have hy:=aac m2;have hz:=aac n2;have q1:=acg (c:=c1) ((h1.below b12).more b12.size);have q2:=acg (c:=c2) ((h2.below b12).more b12.size);have HB:=hE0 b12;have HW1:=hE0 hw1;have HW2:=hE0 hw2;clear h1 h2 hw1 hw2 b1 b2 n1 n2 m2 b12 hbl;go_enter Tryz.func21,Tryz.ntmps21
 go_wp2_with (first | (rw[HW1.out]) | (rw[HW2.out]) | fail)
 go_ret
 exact⟨rfl,HB.out⟩
theorem aup:(Tryz.prog.info? 25).map (fun i=>(i.zero,i.size,i.bytes))=some (some (.int .u64 0),1,8):=by kernel_rfl
theorem Tl.own{w:World}{B:Nat}{A:Option Addr}{c:Nat}{told:List Nat}(h:w.ownsRow B 25 1 (.slice A told.length c) told.length (told.map uV)):Tl w B A told:=fun hn=>by
 rcases h.2 with⟨h',_⟩ | ⟨g,_,_,h',_⟩
 · injection h' with _ e _;omega
 · injection h' with e;subst e;refine⟨g,rfl,(h.lt g rfl).1,(h.lt g rfl).2,fun j v hv=> ?_⟩;have:=h.cellAt j (by have:=abi hv;omega);rw[this,List.getElem?_map,hv];rfl
section
variable {B:Nat} {w w' w1 wB:World} {q g base cap c p:Nat} {A:Option Addr} {bs out:List UInt8} {H H1 H2 H':Hp} {F G:Nat->Prop}
theorem af2 (H:Hp):H.rebuild.blks=H.blks/\H.rebuild.ds=H.ds/\H.rebuild.cap=H.cap:=acr H _
end
theorem ac6{ops:Array Oper}{rest:List Oper}{o:Oper}{a:Act}{w:World}{Q:Exit->Act->World->Prop}(hgd:o.guard=none) (s x:Operand) (ho:o.op= .call {callee:= .builtin .append,args:= #[s,x],argTypes:= #[41,41]})
 (base:Nat) (v:Value) (n:Nat) (bs:List Nat) (hs:a.eval s=v) (hown:w.ownsRow base 25 1 v n (bs.map uV))
 (ad:Addr) (c:Nat) (u:Nat) (hx:a.eval x= .slice (some ad) 1 c) (hr:w.cell? ad=some (uV u))
 (hb:n+1<=1000000) (hbase:base<=w.heap.size)
 (h:∀v' w',w'.ownsRow base 25 1 v' (n+1) ((bs++ [u]).map uV)->w.grownBy w' v.ownBlock->(v'.ownBlock=v.ownBlock\/v'.ownBlock=some w.heap.size)->wpList Tryz.prog ops Q rest (a.put o.dst v') w'):wpList Tryz.prog ops Q (o::rest) a w:=by
 obtain⟨i0,hi,hz0,hz1,hz2⟩:=info_parts aup;refine wpList_append_own_at w hgd s x 41 ho base 25 i0 (.int .u64 0) 1 8 Tryz.underlying41 hi hz0 hz1 hz2 rfl (by decide) v n _ hs hown ad 1 c ([u].map uV) hx (by simp) (fun j y hy=> ?_) (fun y hy=> ?_) (by unfold maxLen;omega) (by omega) hbase ?_
 · cases j with
   | zero=>
    simp at hy;subst hy;have e:ad.add 0=ad:=by unfold Addr.add;split<;>simp_all
    rw[e];exact hr
   | succ j=>simp at hy
 · simp at hy;subst hy;rfl
 · intro v' w' h1 h2 _ h4;exact h v' w' (by simpa using h1) h2 h4
section
variable {B:Nat} {w w':World} {q g base cap c p:Nat} {A:Option Addr} {bs:List UInt8} {H1 H2:Hp} {F G:Nat->Prop}
end
def av7 (_B base cap n:Nat) (w:World) (e:Ending) (w':World):Prop:=
 Below w.heap.size w w'/\∃q g A c bs H told At ct,e= .returned (.tuple #[.pointer (some ⟨q,0,none⟩), .slice At told.length ct])/\Hv w.heap.size w' q g base cap A c bs H/\w'.ownsRow w.heap.size 25 1 (.slice At told.length ct) told.length (told.map uV)/\told.length<=n/\(∀v∈told,v<18446744073709551616)/\(n=0->H=aef cap/\told= [])
theorem adN{w W:World}{A:Option Addr}{l:List Cl}(hL:ClRd w w.heap.size A l) (hb:Below w.heap.size w W):ClRd W W.heap.size A l:=fun hn=>by
 obtain⟨b,o,e,hB,hc⟩:=(hL.below hb) hn;exact⟨b,o,e,Nat.lt_of_lt_of_le hB hb.size,fun j x hx=>by
  obtain⟨y1,y2,y3⟩:=hc j x hx;exact⟨y1,y2.more hb.size,y3⟩⟩
theorem aq4 (w:World) (base:Nat) (hb:base<18446744073709551616) (cap:Int) (hc: -9223372036854775808<=cap/\cap<=9223372036854775807) (hbad:base%16≠0\/4611686018427387904<base\/cap<1024\/16384<cap) (A:Option Addr) (n k:Nat) (most:Int):
 Calls Tryz.prog 47 #[.int .u64 (base:Int), .int .i64 cap, .slice A n k, .int .i64 most] w fun e w'=>e= .returned (.tuple #[.pointer none, .slice none 0 0])/\w=w':=by
 have HN:=hE0 (ajq w base hb cap hc hbad);clear hbad;go_enter Tryz.func47,Tryz.ntmps47
 go_wp2_with fail
 refine HN.out.mono ?_;rintro e w2 ⟨rfl,rfl⟩;rw[asX];go_wp2_with fail
 go_ret2
 exact⟨rfl,rfl⟩
theorem aoA (w:World) (base cap:Nat) (h1b:base%16=0) (h2b:base<=4611686018427387904) (h1:1024<=cap) (h2:cap<=16384) (A:Option Addr) (k:Nat) (l:List Cl) (hL:ClRd w w.heap.size A l) (hm:l.length<=maxLen) (most:Nat) (hmo:most<=100) (hs:aa5 l most=false):
 Calls Tryz.prog 47 #[.int .u64 (base:Int), .int .i64 (cap:Int), .slice A l.length k, .int .i64 (most:Int)] w fun e w'=>e= .returned (.tuple #[.pointer none, .slice none 0 0])/\Below w.heap.size w w':=by
 unfold maxLen at hm;have HN:=hE0 (adl w base cap h1b h2b h1 h2);have hsm:=fun W (hb:Below w.heap.size w W)=>adp W A k l (adN hL hb) (by omega) most (by omega);rw[hs]at hsm;have HSM:=hE0 hsm;obtain⟨n,hn⟩:=nmE l.length;rw[hn]at HSM hm ⊢;clear hsm hs hL hn;go_enter Tryz.func47,Tryz.ntmps47
 go_wp2_with fail
 refine HN.out.mono ?_;intro e w2 hm2;obtain⟨q1,g1,A1,c1,b1,rfl,hv1,hb2⟩:=hm2.hv;have HB2:=hE0 hb2;clear hm2 hv1 hb2;go_wp2_with fail
 refine(HSM.out w2 HB2.out).mono ?_;rintro e w4 ⟨rfl,rfl⟩;go_wp2
 go_ret2
 exact⟨rfl,HB2.out⟩
theorem akW (w:World) (hE:ET w) (base cap:Nat) (h1b:base%16=0) (h2b:base<=4611686018427387904) (h1:1024<=cap) (h2:cap<=16384) (A:Option Addr) (k:Nat) (l:List Cl) (hL:ClRd w w.heap.size A l) (most:Nat) (hmo:most<=100) (hs:aa5 l most=true):
 Calls Tryz.prog 47 #[.int .u64 (base:Int), .int .i64 (cap:Int), .slice A l.length k, .int .i64 (most:Int)] w fun e w'=>av7 w.heap.size base cap l.length w e w':=by
 have hs':=hs;unfold aa5 at hs';rw[Bool.and_eq_true,List.all_eq_true]at hs';have hl80:l.length<=most:=of_decide_eq_true hs'.1;have HSB:Hid (∀x∈l,x.b.length<=2000):=fun x hx=>of_decide_eq_true (hs'.2 x hx);have HN:=hE0 (adl w base cap h1b h2b h1 h2);have hsm:=fun W (hb:Below w.heap.size w W)=>adp W A k l (adN hL hb) (by omega) most (by omega);rw[hs]at hsm;have HSM:=hE0 hsm;obtain⟨n,hn⟩:=nmE l.length;rw[hn]at HSM hl80 ⊢;have HNL:=hE0 hn;have HL:=hE0 hL;have HE:=hE0 hE;clear hsm hs hs' hL hn hE;go_enter Tryz.func47,Tryz.ntmps47
 go_wp2_with fail
 refine HN.out.mono ?_;intro e w2 hm2;obtain⟨q,g,A1,c1,b1,rfl,hv1,hb2⟩:=hm2.hv;have HB2:=hE0 hb2;have HV1:=hE0 hv1;clear hm2 hv1 hb2 HN;go_wp2_with fail
 refine(HSM.out w2 HB2.out).mono ?_;rintro e w3 ⟨rfl,rfl⟩;clear HSM;go_wp2_with fail
 go_loopw [12,13] (fun t i wr=>∃(j:Nat) (told:List Nat) (At:Option Addr) (ct:Nat) (H:Hp) (A1:Option Addr) (c1:Nat) (b1:List UInt8),t= .slice At told.length ct/\i= .int .i64 (j:Int)/\j<=n/\told.length<=j/\(∀v∈told,v<18446744073709551616)/\wr.ownsRow w.heap.size 25 1 (.slice At told.length ct) told.length (told.map uV)/\Hv w.heap.size wr q g base cap A1 c1 b1 H/\Below w.heap.size w wr/\(j=0->H=aef cap/\told= [])) (fun _ i _=>n-(intOf i).toNat)
 case atStart=>exact⟨0,[],none,0,aef cap,A1,c1,b1,rfl,rfl,Nat.zero_le _,Nat.le_refl _,(fun v hv=>by cases hv),World.ownsRow_nil _ _ _ _,HV1.out,HB2.out,fun _=>⟨rfl,rfl⟩⟩
 case round=>
  clear HV1 HB2;obtain⟨j,told,At,ct,H,A1,c1,b1,rfl,rfl,hj,htl,h64,hown,hv,hb,hz⟩:=hrel;by_cases hlt:j<n
  · clear hz;obtain⟨x,hx⟩:∃x,l[j]?=some x:=⟨l[j]'(by rw[HNL.out];exact hlt),List.getElem?_eq_getElem _⟩;obtain⟨b,o,hA,hbB,hcx⟩:=(HL.out.below hb) (by rw[HNL.out];omega);subst hA;obtain⟨⟨i0,i1,i2,i3,i4,i5,i6⟩,hxr,hok⟩:=hcx j x hx;have hxr0:=((HL.out (by rw[HNL.out];omega)));obtain⟨b',o',hA',_,hcx0⟩:=hxr0;have HXB:=hE0 (hcx0 j x hx).2.1;clear hcx hcx0 hA' hxr;have hbl2:=HSB.out x (List.mem_of_getElem? hx);obtain⟨o9,ho9⟩:=nmE (af1 x);obtain⟨p9,hp⟩:=nmE (af0 x told);have hp64:p9<18446744073709551616:=by rw[<-hp];exact ahy x told hok.2.2.1
    have ho9l:o9<9:=by rw[<-ho9];exact afl x
    have hM:=ahz wr x hok At ct told w.heap.size (Tl.own hown) (by omega) h64;rw[ho9,hp]at hM;obtain⟨_,_,hh,hn,hm,ha,_⟩:=hok;obtain⟨wh,xo,xh,xn,xm,xa,xA,xc,xb⟩:=x;dsimp only at i0 i1 i2 i3 i4 i5 i6 hM hbl2 hh hn hm ha HXB;obtain⟨bl,hbl⟩:=nmE xb.length;rw[hbl]at i6 hM hbl2;have HBLN:=hE0 hbl;have HV:=hE0 hv;have HOW:=hE0 hown;have H64:=hE0 h64;have HBB:=hE0 hb;unfold abB at hM;clear hx hb hv hown h64 hbl ho9 hp hh;have HM:=hE0 hM;clear hM;go_wp2_with fail
    refine HM.out.mono ?_;rintro e w3 ⟨rfl,hb3⟩;have hv3:=HV.out.below hb3;have hb03:=HBB.out.trans (hb3.mono HBB.out.size);have hE3:=HE.out.below hb03;have ho3:=aav HOW.out hb3;have hr3:=((HXB.out.below hb03).more hb03.size);have hch:=aq3 hv3.ph.rd (by rw[hv3.ph.cp];exact hv3.ph.c16) ho9l p9 xn xm xa xb;obtain⟨dc,hdc⟩:=nmE (H.doC (o9:Int) p9 xn xm xa xb);rw[hdc]at hch;have hd:=hv3.do_ hb03.size hE3 HE.out.lt o9 ho9l p9 xn xm xa bl xc xA xb hp64 hn hm ha HBLN.out hr3 (by omega) dc hdc;obtain⟨⟨ck,ch,cn,cb,⟨s0,s1,s2,s3,s4⟩⟩,H1⟩:=dc;unfold abB at hd;dsimp only at hd hch;obtain⟨cbl,hcbl⟩:=nmE cb.length;have HDO:=hE0 hd;have HCH:=hE0 hch;have HB03:=hE0 hb03;have HV3:=hE0 hv3;have HO3:=hE0 ho3;have HCBL:=hE0 hcbl;clear hb3 hv3 hb03 hE3 ho3 hr3 hd hch hdc hcbl HM i0 i1 i2 i3 i4 i5 i6;go_wp2_with fail
    refine HDO.out.mono ?_;rintro e w4 ⟨hdt,A1',c1',b1',hv4,t4,bb4⟩;obtain⟨A',c',rfl,hob⟩:=hdt;unfold rpV ahu;dsimp only at hob hv4 ⊢;rw[HCBL.out];have ho4:=HV3.out.ph.ownO t4 HO3.out (by decide) (by decide) (by decide);have hb04:=HB03.out.trans bb4;obtain⟨w5,hw5,n5,b5⟩:=ag3 w4 50 (.int .i64 ck) (.int .u64 (ch:Int)) (.int .u64 (cn:Int)) (.slice A' cbl c') (.int .i64 (s0:Int)) (.int .i64 (s1:Int)) (.int .i64 (s2:Int)) (.int .i64 (s3:Int)) (.int .i64 (s4:Int));obtain⟨⟨z0,z1,z2,z3,z4,z5,z6,z7,z8⟩,_,hz8⟩:=aeB n5.out;have HV5:=hE0 (hv4.below b5.out);have HO5:=hE0 (aav ho4 b5.out);have HB5:=hE0 (hb04.trans (b5.out.mono hb04.size));clear hob hv4 t4 bb4 ho4 hb04 HDO HV3 HO3 HB03;by_cases hch0:ch=0
    · have gz:((ch:Int) !=0)=false:=by rw[bne_eq_false_iff_eq];omega
      clear hch0;go_wp2_with (first | (rw[hw5.out]) | fail)
      go_roundw
      case rel=>exact⟨j+1,told,At,ct,H1,A1',c1',b1',rfl,by go_num,by omega,by omega,H64.out,HO5.out,HV5.out,HB5.out,fun e=>by omega⟩
      case measure=>simp only[intOf];omega
    · have gz:((ch:Int) !=0)=true:=by rw[bne_iff_ne];omega
      obtain⟨w9,hw9⟩:=nmE (w5.alloc (.cells #[.int .u64 (ch:Int)] 25));have b9:=abE hw9;have n9:=anE hw9;have c9:w9.cell? ⟨w5.heap.size,0,none⟩=some (uV ch):=by rw[cell_of_row w9 _ 0 _ _ (0,0) n9];rfl
      have HO9:=hE0 (aav HO5.out b9);have HV9:=hE0 (HV5.out.below b9);have HB9:=hE0 (HB5.out.trans (b9.mono HB5.out.size));have HC9:=hE0 c9;have HW9:=hE0 hw9;have H641:Hid (∀v∈told++ [ch],v<18446744073709551616):=fun v hv=>by
       rcases List.mem_append.1 hv with h | h
       · exact H64.out v h
       · simp at h;rw[h];exact HCH.out
      clear hch0 hw9 b9 n9 c9;go_wp2_with (first
       | (rw[hw5.out])
       | (rw[HW9.out])
       | (at_builtin;go_must (refine ac6 rfl _ _ rfl w.heap.size _ told.length told rfl HO9.out ⟨w5.heap.size,0,none⟩ 1 ch rfl HC9.out (by omega) HB9.out.size ?_);intro x12 w12 own12 gr12 lie12
          have HX12:Hid (w12.ownsRow w.heap.size 25 1 x12 (told.length+1) ((told++ [ch]).map uV)/\w9.grownBy w12 (Value.slice At told.length ct).ownBlock):=⟨own12,gr12⟩;clear own12 gr12 lie12)
       | fail)
      go_roundw
      case rel=>
       obtain⟨own12,gr12⟩:=HX12.out;obtain⟨A12,c12,rfl⟩:=ahY own12;have tg:Tch (fun k=>(Value.slice At told.length ct).ownBlock=some k) w9 w12:=Tch.grown gr12 (fun k e=>e);refine⟨j+1,told++ [ch],A12,c12,H1,A1',c1',b1',by rw[List.length_append,List.length_singleton],by go_num,by omega,by rw[List.length_append,List.length_singleton];omega,H641.out,by rw[List.length_append,List.length_singleton];exact own12,HV9.out.keepO tg (fun k hk hf=>HV9.out.ph.oth (ajt HO9.out hf) hk),HB9.out.trans (tg.below (fun k hk=>(HO9.out.lt k hk).1) HB9.out.size),fun e=>by omega⟩
      case measure=>simp only[intOf];omega
  · have HB:=hE0 hb;have HV:=hE0 hv;have HO:=hE0 hown;have H64:=hE0 h64;have HZ:=hE0 hz;clear hb hv hown h64 hz;go_wp2_with fail
    go_ret2
    exact⟨HB.out,q,g,A1,c1,b1,H,told,At,ct,rfl,HV.out,HO.out,by omega,H64.out,fun e=>HZ.out (by omega)⟩
end Go.Proofs.YtncadccbepjekaaGreatDoor
