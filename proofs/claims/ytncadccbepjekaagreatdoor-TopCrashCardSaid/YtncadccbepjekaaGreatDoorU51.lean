/- Texts of mine, joined. -/
import Derived.Deep.CutRange
import Derived.Test.YtncadccbepjekaaGreatDoorU48
import Derived.Test.YtncadccbepjekaaGreatDoorU50
set_option maxRecDepth 100000
set_option maxHeartbeats 8000000
namespace Go.Proofs.YtncadccbepjekaaGreatDoor
open Go.RowKit
theorem aq5 (w:World) (k:Nat) (hk:k<=10):Calls Tryz.prog 23 #[ahA k] w fun e w'=>e= .returned (.int .i64 (k:Int))/\w=w':=by
 unfold ahA;split
 · rename_i h;subst h;exact arq w
 · exact amw w k (by omega) hk
theorem Ps.mono{half cap m m':Nat}{torn saved:Bool}{s:Dst}{lb:List UInt8}(h:Ps half cap m torn saved s lb) (hm:m<=m'):Ps half cap m' torn saved s lb:=by
 obtain⟨V,h1,h2,h3,h4,h5⟩:=h;exact⟨V,h1,h2,h3,h4,fun e=>by obtain⟨a,b,c⟩:=h5 e;exact⟨a,b,by omega⟩⟩
def Cst (w0:World) (N half cap q ga gd m tl:Nat) (x17 x18 x19 x20 x21:Value) (W:World):Prop:=
 ∃(told:List Nat) (At:Option Addr) (ct:Nat) (Al:Option Addr) (cl:Nat) (lb:List UInt8) (Ah:Option Addr) (nh ch:Nat) (saved torn:Bool) (H:Hp) (A1:Option Addr) (c1:Nat) (b1:List UInt8) (S:Nat->Prop) (s:Dst),x17= .slice At told.length ct/\x18= .slice Al lb.length cl/\x19= .slice Ah nh ch/\x20= .bool saved/\x21= .bool torn/\told.length<=tl/\(∀v∈told,v<18446744073709551616)/\Cs w0.heap.size N W q ga cap A1 c1 b1 H S gd s At ct told Al cl lb/\Ps half cap m torn saved s lb/\Below w0.heap.size w0 W
theorem avo (w:World) (hE:ET w) (N:Int) (hN:N<2\/128<N) (cap:Int) (hc: -9223372036854775808<=cap/\cap<=9223372036854775807) (A:Option Addr) (n k:Nat) (B:Option Addr) (m j:Nat) (cut:Int) (K:Option Addr) (kn kc:Nat):
 Calls Tryz.prog 8 #[.int .i64 N, .int .i64 cap, .slice A n k, .slice B m j, .int .i64 cut, .slice K kn kc] w fun e w'=>e= .returned (.bool true)/\Below w.heap.size w w':=by
 have HUP:=hE0 (adM w hE);have HDN:=hE0 (fun W=>atn W N hN);have HHN:Hid (∀W,Calls Tryz.prog 13 #[.int .u64 0, .int .i64 cap] W fun e w'=>(∃v r,e= .returned (.tuple #[v,r]))/\Below W.heap.size W w'):=fun W=>by
  by_cases hb:cap<1024\/16384<cap
  · refine(ajq W 0 (by omega) cap hc (.inr (.inr hb))).mono ?_;rintro e w' ⟨rfl,rfl⟩;exact⟨⟨_,_,rfl⟩,Below.refl _ _⟩
  · obtain⟨c,rfl⟩:∃c:Nat,cap=(c:Int):=⟨cap.toNat,by omega⟩;refine(adl W 0 c (by omega) (by omega) (by omega) (by omega)).mono ?_;intro e w' hm;obtain⟨q,g,A1,c1,b1,rfl,_,hb⟩:=hm.hv;exact⟨⟨_,_,rfl⟩,hb⟩
 clear hE hN hc;go_enter Tryz.func8,Tryz.ntmps8
 go_wp2_with fail
 refine HUP.out.mono ?_;rintro e w1 ⟨rfl,hb1⟩;have HB1:=hE0 hb1;clear hb1 HUP;go_wp2_with fail
 refine(HDN.out w1).mono ?_;rintro e w2 ⟨rfl,rfl⟩;go_wp2_with fail
 refine(HHN.out w1).mono ?_;rintro e w2 ⟨⟨v,r,rfl⟩,hb2⟩;have HB2:=hE0 (HB1.out.trans (hb2.mono HB1.out.size));clear hb2;go_wp2_with fail
 go_ret
 exact⟨rfl,HB2.out⟩
theorem avp (w:World) (hE:ET w) (N:Nat) (h1:2<=N) (h2:N<=128) (cap:Int) (hc: -9223372036854775808<=cap/\cap<=9223372036854775807) (hbad:cap<1024\/16384<cap) (A:Option Addr) (n k:Nat) (B:Option Addr) (m j:Nat) (cut:Int) (K:Option Addr) (kn kc:Nat):
 Calls Tryz.prog 8 #[.int .i64 (N:Int), .int .i64 cap, .slice A n k, .slice B m j, .int .i64 cut, .slice K kn kc] w fun e w'=>e= .returned (.bool true)/\Below w.heap.size w w':=by
 have HUP:=hE0 (adM w hE);have HDN:=hE0 (fun W=>adA W N h1 h2);have HHN:=hE0 (fun W=>ajq W 0 (by omega) cap hc (.inr (.inr hbad)));clear hE hbad;go_enter Tryz.func8,Tryz.ntmps8
 go_wp2_with fail
 refine HUP.out.mono ?_;rintro e w1 ⟨rfl,hb1⟩;have HB1:=hE0 hb1;clear hb1 HUP;go_wp2_with fail
 refine(HDN.out w1).mono ?_;rintro e w2 ⟨rfl,_,hb2⟩;have HB2:=hE0 (HB1.out.trans (hb2.mono HB1.out.size));clear hb2;go_wp2_with fail
 refine(HHN.out w2).mono ?_;rintro e w3 ⟨rfl,rfl⟩;rw[asX];go_wp2_with fail
 go_ret
 exact⟨rfl,HB2.out⟩
theorem auq (w:World) (hE:ET w) (N cap:Nat) (h1:2<=N) (h2:N<=128) (hc1:1024<=cap) (hc2:cap<=16384) (A:Option Addr) (k:Nat) (l:List Cl) (hL:ClRd w w.heap.size A l) (hm:l.length<=maxLen) (B:Option Addr) (m j:Nat) (hbad:aa5 l 40=false\/6<m) (cut:Int) (K:Option Addr) (kn kc:Nat):
 Calls Tryz.prog 8 #[.int .i64 (N:Int), .int .i64 (cap:Int), .slice A l.length k, .slice B m j, .int .i64 cut, .slice K kn kc] w fun e w'=>e= .returned (.bool true)/\Below w.heap.size w w':=by
 unfold maxLen at hm;have HUP:=hE0 (adM w hE);have HDN:=hE0 (fun W=>adA W N h1 h2);have HHN:=hE0 (fun W=>adl W 0 cap (by omega) (by omega) hc1 hc2);have HSM:=hE0 (fun W (hb:Below w.heap.size w W)=>adp W A k l (adN hL hb) (by omega) 40 (by omega));obtain⟨n,hn⟩:=nmE l.length;rw[hn]at HSM hm ⊢;clear hE hL hn;go_enter Tryz.func8,Tryz.ntmps8
 go_wp2_with fail
 refine HUP.out.mono ?_;rintro e w1 ⟨rfl,hb1⟩;have HB1:=hE0 hb1;clear hb1 HUP;go_wp2_with fail
 refine(HDN.out w1).mono ?_;rintro e w2 ⟨rfl,_,hb2⟩;have HB2:=hE0 (HB1.out.trans (hb2.mono HB1.out.size));clear hb2;go_wp2_with fail
 refine(HHN.out w2).mono ?_;intro e w3 hm3;obtain⟨q,ga,A1,c1,b1,rfl,_,hb3⟩:=hm3.hv;have HB3:=hE0 (HB2.out.trans (hb3.mono HB2.out.size));clear hb3 hm3;go_wp2_with fail
 refine(HSM.out w3 HB3.out).mono ?_;rintro e w4 ⟨rfl,rfl⟩
 cases hs:aa5 l 40 with
 | false=>
  simp only[Bool.false_eq_true,if_false];clear hs;go_wp2_with fail
  go_ret
  exact⟨rfl,HB3.out⟩
 | true=>
  simp only[if_true];have h6:6<m:=by
   rcases hbad with e | e
   · rw[hs]at e;cases e
   · exact e
  have g1:decide ((6:Int)<(m:Int))=true:=decide_eq_true (by omega);have g1n:decide (6<m)=true:=decide_eq_true (by omega);clear hs hbad;go_wp2_with fail
  go_ret
  exact⟨rfl,HB3.out⟩
theorem aur (w:World) (hE:ET w) (N cap:Nat) (h1:2<=N) (h2:N<=128) (hc1:1024<=cap) (hc2:cap<=16384) (A:Option Addr) (k:Nat) (l:List Cl) (hL:ClRd w w.heap.size A l) (hs:aa5 l 40=true) (As:Option Addr) (ks:Nat) (sv:List Int) (hSV:IRd w w.heap.size As sv) (hsn:sv.length<=6) (cut:Int) (hcut: -9223372036854775808<=cut/\cut<=9223372036854775807) (Ak:Option Addr) (kk:Nat) (kb:List Bool) (hK:Boo w Ak kb) (hkm:kb.length<=9223372036854775807):
 Calls Tryz.prog 8 #[.int .i64 (N:Int), .int .i64 (cap:Int), .slice A l.length k, .slice As sv.length ks, .int .i64 cut, .slice Ak kb.length kk] w fun e w'=>e= .returned (.bool true)/\Below w.heap.size w w':=by
 have hs':=hs;unfold aa5 at hs';rw[Bool.and_eq_true,List.all_eq_true]at hs';have hl40:l.length<=40:=of_decide_eq_true hs'.1;have HSB:Hid (∀x∈l,x.b.length<=2000):=fun x hx=>of_decide_eq_true (hs'.2 x hx);have HUP:=hE0 (adM w hE);have HDN:=hE0 (fun W=>adA W N h1 h2);have HHN:=hE0 (fun W=>adl W 0 cap (by omega) (by omega) hc1 hc2);have hsm:=fun W (hb:Below w.heap.size w W)=>adp W A k l (adN hL hb) (by omega) 40 (by omega);rw[hs]at hsm;have HSM:=hE0 hsm;obtain⟨n,hn⟩:=nmE l.length;rw[hn]at HSM hl40 ⊢;have HNL:=hE0 hn;have HL:=hE0 hL;have HE:=hE0 hE;obtain⟨ns,hns⟩:=nmE sv.length;rw[hns]at hsn ⊢;have HNS:=hE0 hns;have HSV:=hE0 hSV;obtain⟨nk,hnk⟩:=nmE kb.length;rw[hnk];have HKM:Hid (kb.length<=9223372036854775807):=hkm;have HNK:=hE0 hnk;have HK:=hE0 hK;have HCUT:Hid (cut<=9223372036854775807):=hcut.2;obtain⟨half,hh⟩:=nmE (N/2);have h1h:1<=half:=by omega
 have h64:half<=64:=by omega
 have h2h:2*half<=N:=by omega
 have HHALF:=hE0 hh;clear hsm hs hs' hL hn hE hns hSV hnk hK hkm hcut hh;go_enter Tryz.func8,Tryz.ntmps8
 go_wp2_with fail
 refine HUP.out.mono ?_;rintro e w1 ⟨rfl,hb1⟩;have HB1:=hE0 hb1;clear hb1 HUP;go_wp2_with fail
 refine(HDN.out w1).mono ?_;rintro e w2 ⟨rfl,hdk,hb2⟩;have hds:=DS.made (N:=N) hdk (by rw[List.length_replicate];omega);obtain⟨gd,hgd⟩:=nmE (w1.heap.size+1);obtain⟨S,hS⟩:=nmE (adz (fun _=>False) w1 w2);rw[hgd,hS]at hds;rw[hgd];have HSG:Hid (∀j,S j->w1.heap.size<=j/\j<w2.heap.size):=fun j hj=>by
  rw[<-hS]at hj;exact hj.elim False.elim id
 have HDS:=hE0 hds;have HB2:=hE0 (HB1.out.trans (hb2.mono HB1.out.size));clear hdk hb2 hds hgd hS HDN;go_wp2_with fail
 refine(HHN.out w2).mono ?_;intro e w3 hm3;obtain⟨q,ga,A1,c1,b1,rfl,hv,hb3⟩:=hm3.hv;have HB3:=hE0 (HB2.out.trans (hb3.mono HB2.out.size));have HCS:Hid (Cs w.heap.size N w3 q ga cap A1 c1 b1 (aef cap) S gd ⟨List.replicate (N*512) 0,[],-1,false⟩ none 0 [] none 0 []):=
  ⟨hv.less HB2.out.size,HDS.out.below hb3,fun j hj=>Nat.le_trans HB1.out.size (HSG.out j hj).1,fun j hj hf=>by
   have h1:=(HSG.out j hj).2;rcases hf with rfl | hf
   · have:=hv.qB;omega
   · have:=hv.fB hf;omega,World.ownsRow_nil _ _ _ _,fun j e=>(by cases e),World.ownsRow_nil _ _ _ _,fun j e=>(by cases e),HB3.out.size⟩
 clear hm3 hv hb3 HHN HDS HSG;go_wp2_with fail
 refine(HSM.out w3 HB3.out).mono ?_;rintro e w4 ⟨rfl,rfl⟩;have g6:decide ((6:Int)<(ns:Int))=false:=decide_eq_false (by omega);have g6n:decide (6<ns)=false:=decide_eq_false (by omega);obtain⟨left,hlf⟩:∃left:Int,(if cut<0 then-1 else cut)=left:=⟨_,rfl⟩;have HLF:Hid (left<=9223372036854775807):=(show _<=_ by rw[<-hlf];have:=HCUT.out;split<;>omega);have HCT:=hE0 (HCS.out.ds.cut cut left hlf);clear hlf HSM;go_wp2_with fail
 clear g6 g6n;refine HCT.out.mono ?_;rintro e w4 ⟨rfl,hd4,t4⟩;have HST:Hid (Cst w N half cap q ga gd 0 0 (.slice none 0 0) (.slice none 0 0) (.slice none 0 0) (.bool false) (.bool false) w4):=
  ⟨[],none,0,none,0,[],none,0,0,false,false,_,_,_,_,_,_,rfl,rfl,rfl,rfl,rfl,Nat.le_refl _,(fun v hv=>by cases hv),HCS.out.save (hd4.grown t4) t4,Ps.start N h2h h1h left HLF.out cap,HB3.out.trans (t4.below HCS.out.sB HB3.out.size)⟩
 clear hd4 t4 HCT HCS HLF HB3 HB2 HB1;go_wp2_with fail
 go_loopw [17,18,19,20,21,22] (fun x17 x18 x19 x20 x21 i wr=>∃j:Nat,i= .int .i64 (j:Int)/\j<=n/\Cst w N half cap q ga gd (6*j) j x17 x18 x19 x20 x21 wr) (fun _ _ _ _ _ i _=>n-(intOf i).toNat)
 case atStart=>exact⟨0,rfl,Nat.zero_le _,HST.out⟩
 case round=>
  clear HST;obtain⟨j,rfl,hj,told,At,ct,Al,cl,lb,Ah,nh,ch,saved,torn,H,A1,c1,b1,S,s,rfl,rfl,rfl,rfl,rfl,htl,h64v,hcs,hps,hb⟩:=hrel;by_cases hgo:j<n/\torn=false
  · obtain⟨hlt,rfl⟩:=hgo;obtain⟨x,hx⟩:∃x,l[j]?=some x:=⟨l[j]'(by rw[HNL.out];exact hlt),List.getElem?_eq_getElem _⟩;obtain⟨b,o,hA,hbB,hcx⟩:=(HL.out.below hb) (by rw[HNL.out];omega);subst hA;obtain⟨⟨i0,i1,i2,i3,i4,i5,i6⟩,hxr,hok⟩:=hcx j x hx;have hxr0:=((HL.out (by rw[HNL.out];omega)));obtain⟨b',o',hA',_,hcx0⟩:=hxr0;have HXB:=hE0 (hcx0 j x hx).2.1;clear hcx hcx0 hA' hxr;have hbl2:=HSB.out x (List.mem_of_getElem? hx);obtain⟨o9,ho9⟩:=nmE (af1 x);obtain⟨p9,hp⟩:=nmE (af0 x told);have hp64:p9<18446744073709551616:=by rw[<-hp];exact ahy x told hok.2.2.1
    have ho9l:o9<9:=by rw[<-ho9];exact afl x
    have hM:=ahz wr x hok At ct told w.heap.size (Tl.own hcs.ot) (by omega) h64v;rw[ho9,hp]at hM;obtain⟨_,_,hhx,hnx,hmx,hax,_⟩:=hok;obtain⟨wh,xo,xh,xn,xm,xa,xA,xc,xb⟩:=x;dsimp only at i0 i1 i2 i3 i4 i5 i6 hM hbl2 hhx hnx hmx hax HXB;obtain⟨bl,hbl⟩:=nmE xb.length;rw[hbl]at i6 hM hbl2;have HBLN:=hE0 hbl;have HCS:=hE0 hcs;have H64:=hE0 h64v;have HPS:=hE0 hps;have HBB:=hE0 hb;unfold abB at hM;have HM:=hE0 hM;clear hx hb hcs h64v hps hbl ho9 hp hhx hM;go_wp2_with fail
    refine HM.out.mono ?_;rintro e w3 ⟨rfl,hb3⟩;have hc3:=HCS.out.below hb3;have hb03:=HBB.out.trans (hb3.mono HBB.out.size);have hE3:=HE.out.below hb03;have hr3:=((HXB.out.below hb03).more hb03.size);have hch:=aq3 hc3.hv.ph.rd (by rw[hc3.hv.ph.cp];exact hc3.hv.ph.c16) ho9l p9 xn xm xa xb;obtain⟨dc,hdc⟩:=nmE (H.doC (o9:Int) p9 xn xm xa xb);rw[hdc]at hch;have hd:=hc3.hv.do4_ hb03.size hE3 HE.out.lt o9 ho9l p9 xn xm xa bl xc xA xb hp64 hnx hmx hax HBLN.out hr3 (by omega) dc hdc;obtain⟨⟨ck,chh,cn,cb,⟨s0,s1,s2,s3,s4⟩⟩,H1⟩:=dc;unfold abB at hd;dsimp only at hd hch;obtain⟨cbl,hcbl⟩:=nmE cb.length;have HDO:=hE0 hd;have HCH:=hE0 hch;have HB03:=hE0 hb03;have HC3:=hE0 hc3;have HCBL:=hE0 hcbl;clear hb3 hc3 hb03 hE3 hr3 hd hch hdc hcbl HM HCS i0 i1 i2 i3 i4 i5 i6;go_wp2_with fail
    refine HDO.out.mono ?_;rintro e w4 ⟨hdt,A1',c1',b1',hv4,t4,bb4,hA4⟩;obtain⟨A',c',rfl,hob⟩:=hdt;unfold rpV ahu;dsimp only at hob hv4 ⊢;rw[HCBL.out];have hc4:=HC3.out.do_ hv4 t4 hA4;have hb04:=HB03.out.trans bb4;obtain⟨w5,hw5,n5,b5⟩:=ag3 w4 50 (.int .i64 ck) (.int .u64 (chh:Int)) (.int .u64 (cn:Int)) (.slice A' cbl c') (.int .i64 (s0:Int)) (.int .i64 (s1:Int)) (.int .i64 (s2:Int)) (.int .i64 (s3:Int)) (.int .i64 (s4:Int));obtain⟨⟨z0,z1,z2,z3,z4,z5,z6,z7,z8⟩,_,hz8⟩:=aeB n5.out;have HC5:=hE0 (hc4.below b5.out);have HB5:=hE0 (hb04.trans (b5.out.mono hb04.size));clear hob hv4 t4 bb4 hA4 hc4 hb04 HDO HC3 HB03;go_upto_if 87 with(first | (rw[hw5.out]) | fail)
    go_cut [17] from 67 to 144 (fun v wx=>∃(told:List Nat) (At:Option Addr) (ct:Nat),v= .slice At told.length ct/\told.length<=j+1/\(∀v∈told,v<18446744073709551616)/\Cs w.heap.size N wx q ga cap A1' c1' b1' H1 S gd s At ct told Al cl lb/\Below w.heap.size w wx)
    case first=>
     by_cases hch0:chh=0
     · have gz:((chh:Int) !=0)=false:=by rw[bne_eq_false_iff_eq];omega
       clear hch0;go_wp2_with fail
       go_meet
       case rel=>exact⟨told,At,ct,rfl,by omega,H64.out,HC5.out,HB5.out⟩
     · have gz:((chh:Int) !=0)=true:=by rw[bne_iff_ne];omega
       obtain⟨w9,hw9⟩:=nmE (w5.alloc (.cells #[.int .u64 (chh:Int)] 25));have b9:=abE hw9;have n9:=anE hw9;have c9:w9.cell? ⟨w5.heap.size,0,none⟩=some (uV chh):=by rw[cell_of_row w9 _ 0 _ _ (0,0) n9];rfl
       have HC9:=hE0 (HC5.out.below b9);have HB9:=hE0 (HB5.out.trans (b9.mono HB5.out.size));have HL9:=hE0 c9;have HW9:=hE0 hw9;have H641:Hid (∀v∈told++ [chh],v<18446744073709551616):=fun v hv=>by
        rcases List.mem_append.1 hv with h | h
        · exact H64.out v h
        · simp at h;rw[h];exact HCH.out
       clear hch0 hw9 b9 n9 c9;go_wp2_with (first
        | (rw[HW9.out])
        | (at_builtin;go_must (refine ac6 rfl _ _ rfl w.heap.size _ told.length told rfl HC9.out.ot ⟨w5.heap.size,0,none⟩ 1 chh rfl HL9.out (by omega) HB9.out.size ?_);intro x12 w12 own12 gr12 lie12
           have HX12:Hid (w12.ownsRow w.heap.size 25 1 x12 (told.length+1) ((told++ [chh]).map uV)/\w9.grownBy w12 (Value.slice At told.length ct).ownBlock/\(x12.ownBlock=(Value.slice At told.length ct).ownBlock\/x12.ownBlock=some w9.heap.size)):=⟨own12,gr12,lie12⟩;clear own12 gr12 lie12)
        | fail)
       go_meet
       case rel=>
        obtain⟨own12,gr12,lie12⟩:=HX12.out;obtain⟨A12,c12,rfl⟩:=ahY own12;have hbl:Below w.heap.size w9 w12:=(Tch.grown gr12 (fun k e=>e):Tch (fun k=>(Value.slice At told.length ct).ownBlock=some k) w9 w12).below (fun k hk=>afb HC9.out.ot k hk) HB9.out.size;have ell:told.length+1=(told++ [chh]).length:=by rw[List.length_append,List.length_singleton]
        rw[ell]at own12 lie12 ⊢;exact⟨told++ [chh],A12,c12,rfl,by omega,H641.out,HC9.out.telled own12 gr12 lie12,HB9.out.trans hbl⟩
    case rest=>
    clear z0 z1 z2 z3 z4 z5 z6 z7 z8 hz8 HC5 HB5 H64 hw5 n5 b5;obtain⟨told',At',ct',rfl,htl',h64',hcs',hb'⟩:=hcut;have HST:Hid (Cst w N half cap q ga gd (6*j) (j+1) (.slice At' told'.length ct') (.slice Al lb.length cl) (.slice Ah nh ch) (.bool saved) (.bool false) wc):=
     ⟨told',At',ct',Al,cl,lb,Ah,nh,ch,saved,false,H1,A1',c1',b1',S,s,rfl,rfl,rfl,rfl,rfl,htl',h64',hcs',HPS.out,hb'⟩
    clear htl' h64' hcs' hb' HPS htl;go_wp2_with fail
    obtain⟨xt,hxt⟩:=nmE (Value.slice At' told'.length ct');rw[hxt]at HST ⊢;clear hxt;go_loopw [18,19,20,21,24] (fun x18 x19 x20 x21 i wr=>∃k:Nat,i= .int .i64 (k:Int)/\k<=ns/\Cst w N half cap q ga gd (6*j+k) (j+1) xt x18 x19 x20 x21 wr) (fun _ _ _ _ i _=>ns-(intOf i).toNat)
    case atStart=>exact⟨0,rfl,Nat.zero_le _,HST.out⟩
    case round=>
     clear HST;obtain⟨kq,rfl,hk,told,At,ct,Al,cl,lb,Ah,nh,ch,saved,torn,H,A1,c1,b1,S,s,hx17,rfl,rfl,rfl,rfl,htl,h64v,hcs,hps,hb⟩:=hrel;by_cases hgo:kq<ns/\torn=false
     · obtain⟨hlt2,rfl⟩:=hgo;obtain⟨z,hz⟩:∃z,sv[kq]?=some z:=⟨sv[kq]'(by rw[HNS.out];exact hlt2),List.getElem?_eq_getElem _⟩;obtain⟨b3,o3,hA3,hB3,hc3⟩:=HSV.out (by rw[HNS.out];omega);have q3:=(hb.cell (p:=⟨b3,o3+kq,none⟩) hB3).trans (hc3 kq z hz);subst hA3;by_cases hzj:z=(j:Int)
       · subst hzj;have gz:((j:Int) !=(j:Int))=false:=bne_self_eq_false _;have hlen:=hcs.hv.ph.len;have hm:=aeg hcs.hv.ph.rd.rt.walk hlen hcs.hv.ph.rd.rt.nfree.2.1;obtain⟨hl,hdl,_⟩:=ahs hm;have hfl:=(agr hm).1;have hnc:b1.length<=cap:=by rw[<-hcs.hv.ph.cp];exact hcs.hv.ph.rd.rt.len
         have hbs:=hcs.ds.blen;have HAR:=hE0 (adm hcs.hv.ph);have HOF:=hE0 (fun W g' c' A' (ha:Ar W 195 g' 0 cap A' c' b1)=>amf W g' 0 cap c' A' b1 H.blks ha hcs.hv.ph.b62 hlen hcs.hv.ph.rd.rt.chk hcs.hv.ph.rd.rt.walk);have HPUT:=hE0 (fun W I1 I2 k1 k2 (hr:RkRd W W.heap.size I1 (H.blks.map toR)) (hd:DtRd W W.heap.size I2 (ofD b1 H.blks))=>aiZ W b1.length (by omega) I1 I2 k1 k2 (H.blks.map toR) (ofD b1 H.blks) hr hd hl hdl (by omega) hm);unfold imV at HPUT;rw[List.length_map]at HPUT;obtain⟨bb,hbb⟩:=nmE (aaH b1.length (H.blks.map toR) (ofD b1 H.blks));rw[hbb]at HPUT;obtain⟨⟨oc,os⟩,hO⟩:∃o,afK (aaE s.bs s.wt half 0) (aaE s.bs s.wt half 1) half bb s=o:=⟨_,rfl⟩;have HSP:=hE0 (hps.save h1h h64 (by omega) hm hbb hnc (by omega) hO);have HOFF:Hid (s.off=false/\s.wt.length<=1000/\s.left<=9223372036854775807):=by
          obtain⟨V,_,a1,_,_,a2⟩:=hps;obtain⟨a3,a4,_⟩:=a2 rfl;exact⟨a3,by rw[a4];exact Nat.zero_le _,a1⟩
         obtain⟨ll,hll⟩:=nmE H.blks.length;obtain⟨dl,hdl'⟩:∃dl,(ofD b1 H.blks).length=dl:=⟨_,rfl⟩;obtain⟨nn,hnn⟩:=nmE b1.length;rw[hll,hdl',hnn]at HOF;rw[hll,hdl',hnn]at HPUT;obtain⟨m,hml⟩:=nmE bb.length;rw[hml]at HPUT;have HM:=hE0 hml;rw[<-hbb]at hO;have HO:=hE0 hO;have HCS:=hE0 hcs;have HBB:=hE0 hb;have H64:=hE0 h64v;have HX17:=hE0 hx17;clear hz hc3 hlen hm hl hdl hfl hnc hbs hbb hO hll hdl' hnn hml hcs hb hps h64v hx17;go_wp2_with fail
         clear gz q3;refine HAR.out.mono ?_;rintro e w5 ⟨g5,A5,c5,rfl,ha5,hb5,_,_⟩;have HC5:=hE0 (HCS.out.below hb5);have HB5:=hE0 (HBB.out.trans (hb5.mono HBB.out.size));have HF5:=hE0 (HOF.out w5 g5 c5 A5 ha5);clear ha5 hb5 HAR HOF HCS HBB;go_wp2_with fail
         refine HF5.out.mono ?_;rintro e w6 ⟨I1,I2,i1,i2,rfl,hr6,hd6,hb6⟩;obtain⟨w7,ha7,m7,b7⟩:=agV w6 107 (.int .i64 (nn:Int)) (.slice I1 ll i1) (.slice I2 dl i2);have hb57:=hb6.trans (b7.out.mono hb6.size);have HC7:=hE0 (HC5.out.below hb57);have HB7:=hE0 (HB5.out.trans (hb57.mono HB5.out.size));have HP7:=hE0 (HPUT.out w7 I1 I2 i1 i2 ((hr6.below b7.out).more b7.out.size) ((hd6.below b7.out).more b7.out.size));obtain⟨⟨t0,t1,t2⟩,_,hlt⟩:=adg m7.out;clear hr6 hd6 hb6 hb57 HF5 HPUT HC5 HB5;go_wp2_with (first | (rw[ha7.out]) | fail)
         clear t0 t1 t2 hlt;refine HP7.out.mono ?_;rintro e w8 ⟨A8,c8,rfl,o8,b8⟩;have HC8:=hE0 (HC7.out.below b8);have HN8:=hE0 (HC8.out.last (lb':=bb) HB7.out.size HC7.out.far (by rw[HM.out];exact o8));have HB8:=hE0 (HB7.out.trans (b8.mono HB7.out.size));have HS8:=hE0 (ahx HC8.out.ds half HHALF.out h1h h2 HOFF.out.1 HOFF.out.2.1 HOFF.out.2.2 _ _ rfl rfl HC8.out.hv.ph (oc,os) HO.out);clear o8 b8 HC7 HB7 HP7;go_wp2_with fail
         refine HS8.out.mono ?_;rintro e w9 ⟨rfl,hd9,t9⟩;dsimp only at hd9 ⊢;have HC9:=hE0 (HC8.out.save hd9 t9);have HN9:=hE0 (HN8.out.save hd9 t9);have HB9:=hE0 (HB8.out.trans (t9.below HC8.out.sB HB8.out.size));clear hd9 t9 HC8 HN8 HB8 HS8 HOFF HO;go_wp2_with fail
         refine(aq5 w9 oc (by rcases HSP.out with⟨h,_⟩ | ⟨h,_⟩ | ⟨h,_⟩<;>omega)).mono ?_;rintro e w10 ⟨rfl,rfl⟩;rcases HSP.out with⟨e1,e2,e3⟩ | ⟨e1,e3⟩ | ⟨e1,e3⟩<;>subst e1<;>clear HSP
         · have HP9:=hE0 e3;have hfar:512*(half-1)<m:=by rw[<-HM.out];exact e2
           have g7:decide ((m:Int)<=512*((N:Int)/2-1))=false:=decide_eq_false (by have:=HHALF.out;omega);clear e2 e3;go_wp2_with fail
           go_roundw
           case rel=>exact⟨kq+1,by go_num,by omega,told,At,ct,Al,cl,lb,Ah,nh,ch,saved,false,H,A1,c1,b1,_,os,HX17.out,rfl,rfl,rfl,rfl,htl,H64.out,HC9.out,HP9.out,HB9.out⟩
           case measure=>simp only[intOf];omega
         · have HP9:=hE0 e3;clear e3;go_wp2_with fail
           go_roundw
           case rel=>exact⟨kq+1,by go_num,by omega,told,At,ct,A8,c8,bb,Ah,nh,ch,true,false,H,A1,c1,b1,_,os,HX17.out,by rw[HM.out],rfl,rfl,rfl,htl,H64.out,HN9.out,HP9.out,HB9.out⟩
           case measure=>simp only[intOf];omega
         · have HP9:=hE0 e3;clear e3;go_wp2_with fail
           go_roundw
           case rel=>exact⟨kq+1,by go_num,by omega,told,At,ct,Al,cl,lb,A8,m,c8,saved,true,H,A1,c1,b1,_,os,HX17.out,rfl,rfl,rfl,rfl,htl,H64.out,HC9.out,HP9.out,HB9.out⟩
           case measure=>simp only[intOf];omega
       · have gz:(z !=(j:Int))=true:=by rw[bne_iff_ne];exact hzj
         have HST:Hid (Cst w N half cap q ga gd (6*j+(kq+1)) (j+1) xt (.slice Al lb.length cl) (.slice Ah nh ch) (.bool saved) (.bool false) wr):=
          ⟨told,At,ct,Al,cl,lb,Ah,nh,ch,saved,false,H,A1,c1,b1,S,s,hx17,rfl,rfl,rfl,rfl,htl,h64v,hcs,hps.mono (by omega),hb⟩
         clear hz hc3 hcs hps h64v hb hx17 htl hzj;go_wp2_with fail
         go_roundw
         case rel=>exact⟨kq+1,by go_num,by omega,HST.out⟩
         case measure=>simp only[intOf];omega
     · have HST:Hid (Cst w N half cap q ga gd (6*(j+1)) (j+1) xt (.slice Al lb.length cl) (.slice Ah nh ch) (.bool saved) (.bool torn) wr):=
        ⟨told,At,ct,Al,cl,lb,Ah,nh,ch,saved,torn,H,A1,c1,b1,S,s,hx17,rfl,rfl,rfl,rfl,htl,h64v,hcs,hps.mono (by omega),hb⟩
       clear hcs hps h64v hb hx17 htl;by_cases hlt2:kq<ns
       · obtain rfl:torn=true:=by cases torn;exact absurd ⟨hlt2,rfl⟩ hgo;rfl
         go_wp2_with fail
         go_roundw
         case rel=>exact⟨j+1,by go_num,by omega,HST.out⟩
         case measure=>simp only[intOf];omega
       · go_wp2_with fail
         go_roundw
         case rel=>exact⟨j+1,by go_num,by omega,HST.out⟩
         case measure=>simp only[intOf];omega
  · have hkp:Kp S wr Ak kb:=fun hn=>by
     obtain⟨b,o,e,hb',hc⟩:=HK.out hn;exact⟨b,o,e,Nat.lt_of_lt_of_le hb' hb.size,fun hs=>by have:=hcs.sB _ hs;omega,fun i u hu=>(hb.cell (p:=⟨b,o+i,none⟩) hb').trans (hc i u hu)⟩
    have hbt:=hcs.ds.boot (ck:=kk) h2 hkp HKM.out;rw[HNK.out]at hbt;obtain⟨bs',hbs'⟩:∃bs',abw s.bs (aeI s.wt kb)=bs':=⟨_,rfl⟩;obtain⟨G,hG⟩:=nmE (al6 (aaE bs' [] half 0) (aaE bs' [] half 1) 16 (cap:Int));have HLP:=hE0 (hps.load kb hc1 hc2 hbs' hG);rw[hbs']at hbt;have HBT:=hE0 hbt;have HG:=hE0 hG;have HCS:=hE0 hcs;have HBB:=hE0 hb;clear hkp hbt hG hcs hb hps h64v hbs' HL HSB HSV;by_cases hlt:j<n
    case' pos=>obtain rfl:torn=true:=by cases torn;exact absurd ⟨hlt,rfl⟩ hgo;rfl
    all_goals
     clear hgo;go_wp2_with fail
     refine HBT.out.mono ?_;rintro e w2 ⟨rfl,hd2,t2⟩;have HC2:=hE0 (HCS.out.save (hd2.grown t2) t2);have HB2:=hE0 (HBB.out.trans (t2.below HCS.out.sB HBB.out.size));have HLD:Hid (Calls Tryz.prog 30 #[.pointer (some ⟨gd,0,none⟩), .int .u64 16, .int .i64 (cap:Int)] w2 fun e w'=>as1 G 16 (cap:Int) w2 e w'):=
      aht hd2 half HHALF.out h1h h2 rfl _ _ rfl rfl 16 (by omega) (cap:Int) (by omega) G HG.out
     clear hd2 t2 HBT HCS HBB HG;go_wp2_with fail
     refine HLD.out.mono ?_;rintro e w3 ⟨hb3,h3⟩;have HC3:=hE0 (HC2.out.below hb3);have HB3:=hE0 (HB2.out.trans (hb3.mono HB2.out.size));clear hb3 HLD HC2 HB2;rcases HLP.out with⟨rfl,rfl⟩ | ⟨rfl,n',l',d',rfl,hm,hpb⟩
     · rw[if_neg (by decide)]at h3;subst h3;rw[show ahA (8,(0:Nat),([]:List Rk),([]:List (List UInt8))).1= .iface 130 (.int .i64 8) from rfl];have HCD:Hid (Calls Tryz.prog 23 #[.iface 130 (.int .i64 8)] w3 fun e w'=>e= .returned (.int .i64 8)/\w3=w'):=amw w3 8 (by omega) (by omega);clear HLP;go_wp2_with fail
       refine HCD.out.mono ?_;rintro e w4 ⟨rfl,rfl⟩;go_wp2_with fail
       go_ret
       exact⟨rfl,HB3.out⟩
     · rw[if_pos rfl]at h3;obtain⟨out,Hq,qq,gq,Aq,cq,hlay,rfl,hp,_,_,_⟩:=h3;dsimp only at hlay;rw[Int.toNat_natCast]at hp;obtain⟨N',hN',_,hN16,hck,hwk,hol,hod,hlm⟩:=ahv hm hlay;obtain rfl:n'=N':=by omega
       obtain⟨L,hLd⟩:=nmE (l'.map toB);rw[hLd]at hwk hod hlm;rw[hlm,<-hod,<-hol]at hm hpb;have hlen:out.length<=16384:=by omega
       obtain⟨hl,hdl,_⟩:=ahs hm;have hfl:=(agr hm).1;have HAR:=hE0 (adm hp);have HOF:=hE0 (fun W g' c' A' (ha:Ar W 195 g' 16 cap A' c' out)=>amf W g' 16 cap c' A' out L ha (by omega) hlen hck hwk);have HPUT:=hE0 (fun W I1 I2 k1 k2 (hr:RkRd W W.heap.size I1 (L.map toR)) (hd:DtRd W W.heap.size I2 (ofD out L))=>aiZ W out.length (by omega) I1 I2 k1 k2 (L.map toR) (ofD out L) hr hd hl hdl (by omega) hm);unfold imV at HPUT;rw[List.length_map,hpb]at HPUT;obtain⟨ll,hll⟩:=nmE L.length;obtain⟨dl,hdl'⟩:∃dl,(ofD out L).length=dl:=⟨_,rfl⟩;obtain⟨nn,hnn⟩:=nmE out.length;obtain⟨m,hml⟩:=nmE lb.length;rw[hll,hdl',hnn]at HOF;rw[hll,hdl',hnn,hml]at HPUT;rw[hml];have HM:=hE0 hml;clear hlay hp hN' hN16 hck hwk hol hod hlm hLd hm hpb hlen hl hdl hfl hll hdl' hnn hml HLP;go_wp2_with fail
       refine HAR.out.mono ?_;rintro e w5 ⟨g5,A5,c5,rfl,ha5,hb5,_,_⟩;have HC5:=hE0 (HC3.out.below hb5);have HB5:=hE0 (HB3.out.trans (hb5.mono HB3.out.size));have HF5:=hE0 (HOF.out w5 g5 c5 A5 ha5);clear ha5 hb5 HAR HOF HC3 HB3;go_wp2_with fail
       refine HF5.out.mono ?_;rintro e w6 ⟨I1,I2,i1,i2,rfl,hr6,hd6,hb6⟩;obtain⟨w7,ha7,m7,b7⟩:=agV w6 107 (.int .i64 (nn:Int)) (.slice I1 ll i1) (.slice I2 dl i2);have hb57:=hb6.trans (b7.out.mono hb6.size);have HC7:=hE0 (HC5.out.below hb57);have HB7:=hE0 (HB5.out.trans (hb57.mono HB5.out.size));have HP7:=hE0 (HPUT.out w7 I1 I2 i1 i2 ((hr6.below b7.out).more b7.out.size) ((hd6.below b7.out).more b7.out.size));obtain⟨⟨t0,t1,t2⟩,_,hlt⟩:=adg m7.out;clear hr6 hd6 hb6 hb57 HF5 HPUT HC5 HB5;go_wp2_with (first | (rw[ha7.out]) | fail)
       clear t0 t1 t2 hlt;refine HP7.out.mono ?_;rintro e w8 ⟨A8,c8,rfl,o8,b8⟩;have HC8:=HC7.out.below b8;have HB8:=hE0 (HB7.out.trans (b8.mono HB7.out.size));have q1:=acg (c:=c8) (ab8 o8);have q2:=acg (c:=cl) (ab8 HC8.ol);rw[HM.out]at q2;clear o8 b8 HC7 HB7 HP7 HC8;go_wp2_with fail
       go_ret
       exact⟨rfl,HB8.out⟩
theorem avq (w:World) (hE:ET w) (N cap:Int) (hN: -9223372036854775808<=N/\N<=9223372036854775807) (hc: -9223372036854775808<=cap/\cap<=9223372036854775807) (A:Option Addr) (k:Nat) (l:List Cl) (hL:ClRd w w.heap.size A l) (hm:l.length<=maxLen) (As:Option Addr) (ks:Nat) (sv:List Int) (hSV:IRd w w.heap.size As sv) (cut:Int) (hcut: -9223372036854775808<=cut/\cut<=9223372036854775807) (Ak:Option Addr) (kk:Nat) (kb:List Bool) (hK:Boo w Ak kb) (hkm:kb.length<=maxLen):
 Calls Tryz.prog 8 #[.int .i64 N, .int .i64 cap, .slice A l.length k, .slice As sv.length ks, .int .i64 cut, .slice Ak kb.length kk] w fun e w'=>e= .returned (.bool true)/\Below w.heap.size w w':=by
 by_cases h1:N<2\/128<N
 · exact avo w hE N h1 cap hc A l.length k As sv.length ks cut Ak kb.length kk
 obtain⟨M,rfl⟩:∃M:Nat,N=(M:Int):=⟨N.toNat,by omega⟩;by_cases h2:cap<1024\/16384<cap
 · exact avp w hE M (by omega) (by omega) cap hc h2 A l.length k As sv.length ks cut Ak kb.length kk
 obtain⟨c,rfl⟩:∃c:Nat,cap=(c:Int):=⟨cap.toNat,by omega⟩;by_cases h3:aa5 l 40=false\/6<sv.length
 · exact auq w hE M c (by omega) (by omega) (by omega) (by omega) A k l hL hm As sv.length ks h3 cut Ak kb.length kk
 · have hs:aa5 l 40=true:=by
    cases e:aa5 l 40 with
    | true=>rfl
    | false=>exact absurd (.inl e) h3
   unfold maxLen at hkm;exact aur w hE M c (by omega) (by omega) (by omega) (by omega) A k l hL hs As ks sv hSV (by omega) cut hcut Ak kk kb hK (by omega)
end Go.Proofs.YtncadccbepjekaaGreatDoor
