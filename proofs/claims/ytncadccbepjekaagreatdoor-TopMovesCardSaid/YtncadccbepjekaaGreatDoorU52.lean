/- Texts of mine, joined. -/
import Derived.Laws.StructEq
import Derived.Test.YtncadccbepjekaaGreatDoorU48
import Derived.Test.YtncadccbepjekaaGreatDoorU50
set_option maxRecDepth 100000
set_option maxHeartbeats 16000000
namespace Go.Proofs.YtncadccbepjekaaGreatDoor
open Go.RowKit
theorem aus (W:World) (x0 x1 x2 x3 x4:Int):(binOp .eql 48 (.agg #[.int .i64 x0, .int .i64 x1, .int .i64 x2, .int .i64 x3, .int .i64 x4]) (.agg #[.int .i64 x0, .int .i64 x1, .int .i64 x2, .int .i64 x3, .int .i64 x4])).run Tryz.prog W= .ok (.bool true) W:=by
 rw[run_eql_struct,run_equalIn_agg W 9999 48 _ _ (by kernel_rfl) (by kernel_rfl)];have key:∀a:Int,∀V:World,(Op.equalIn 9999 3 (.int .i64 a) (.int .i64 a)).run Tryz.prog V= .ok true V:=fun a V=>by
  rw[run_equalIn_int V 9998 3 .i64 .i64 a a (by kernel_rfl),beq_self_eq_true]
 simp[Op.eqFields,key,go_sem]
theorem Rd.some_{w:World}{B n k:Nat}{A:Option Addr}{bs:List UInt8}(h:Rd w B A n bs) (hk:k<=n):Rd w B A k (bs.take k):=
 ⟨by rw[List.length_take,h.1];omega,fun h0=>by
  obtain⟨b,off,e,hb,hc⟩:=h.2 (by omega);refine⟨b,off,e,hb,fun j u hu=>hc j u ?_⟩;rw[List.getElem?_take]at hu;split at hu
  · exact hu
  · cases hu⟩
theorem aq6 (w:World) (hE:ET w) (base:Nat) (cap:Int) (A:Option Addr) (n k:Nat) (hbg:∀W,Below w.heap.size w W->Calls Tryz.prog 47 #[.int .u64 (base:Int), .int .i64 cap, .slice A n k, .int .i64 50] W fun e w'=>e= .returned (.tuple #[.pointer none, .slice none 0 0])/\Below W.heap.size W w') (other:Nat) (more:Int) (B:Option Addr) (m j:Nat):
 Calls Tryz.prog 6 #[.int .u64 (base:Int), .int .i64 cap, .slice A n k, .int .u64 (other:Int), .int .i64 more, .slice B m j] w fun e w'=>e= .returned (.bool true)/\Below w.heap.size w w':=by
 have HUP:=hE0 (adM w hE);have HBG:=hE0 hbg;have HDN:=hE0 (fun W=>adA W 128 (by omega) (by omega));clear hE hbg;go_enter Tryz.func6,Tryz.ntmps6
 go_wp2_with fail
 refine HUP.out.mono ?_;rintro e w1 ⟨rfl,hb1⟩;have HB1:=hE0 hb1;clear hb1 HUP;go_wp2_with fail
 refine(HBG.out w1 HB1.out).mono ?_;rintro e w2 ⟨rfl,hb2⟩;have HB2:=hE0 (HB1.out.trans (hb2.mono HB1.out.size));clear hb2;go_wp2_with fail
 refine(HDN.out w2).mono ?_;rintro e w3 ⟨rfl,_,hb3⟩;have HB3:=hE0 (HB2.out.trans (hb3.mono HB2.out.size));clear hb3;go_wp2_with fail
 go_ret
 exact⟨rfl,HB3.out⟩
theorem avr (w:World) (hE:ET w) (base cap:Nat) (h1b:base%16=0) (h2b:base<=4611686018427387904) (h1:1024<=cap) (h2:cap<=16384) (A:Option Addr) (k:Nat) (l:List Cl) (hL:ClRd w w.heap.size A l) (hs:aa5 l 50=true) (other:Nat) (more:Int) (B:Option Addr) (j:Nat) (th:List Cl) (hT:ClRd w w.heap.size B th) (hm:th.length<=maxLen) (hbad:aa5 th 50=false\/more<0\/16384<more):
 Calls Tryz.prog 6 #[.int .u64 (base:Int), .int .i64 (cap:Int), .slice A l.length k, .int .u64 (other:Int), .int .i64 more, .slice B th.length j] w fun e w'=>e= .returned (.bool true)/\Below w.heap.size w w':=by
 unfold maxLen at hm;have HUP:=hE0 (adM w hE);have HBG:=hE0 (fun W (hb:Below w.heap.size w W)=>akW W (hE.below hb) base cap h1b h2b h1 h2 A k l (adN hL hb) 50 (by omega) hs);have HDN:=hE0 (fun W=>adA W 128 (by omega) (by omega));have HSM:=hE0 (fun W (hb:Below w.heap.size w W)=>adp W B j th (adN hT hb) (by omega) 50 (by omega));obtain⟨n,hn⟩:=nmE l.length;obtain⟨m,hm'⟩:∃m,th.length=m:=⟨_,rfl⟩;rw[hn]at HBG ⊢;rw[hm']at HSM hm ⊢;clear hE hL hT hn hm' hs;go_enter Tryz.func6,Tryz.ntmps6
 go_wp2_with fail
 refine HUP.out.mono ?_;rintro e w1 ⟨rfl,hb1⟩;have HB1:=hE0 hb1;clear hb1 HUP;go_wp2_with fail
 refine(HBG.out w1 HB1.out).mono ?_;rintro e w2 ⟨hb2,q,g,A1,c1,b1,H,told,At,ct,rfl,_,_,_,_,_⟩;have HB2:=hE0 (HB1.out.trans (hb2.mono HB1.out.size));clear hb2;go_wp2_with fail
 refine(HDN.out w2).mono ?_;rintro e w3 ⟨rfl,_,hb3⟩;have HB3:=hE0 (HB2.out.trans (hb3.mono HB2.out.size));clear hb3;go_wp2_with fail
 refine(HSM.out w3 HB3.out).mono ?_;rintro e w4 ⟨rfl,rfl⟩
 cases hs:aa5 th 50 with
 | false=>
  simp only[Bool.false_eq_true,if_false];clear hs hbad;go_wp2_with fail
  go_ret
  exact⟨rfl,HB3.out⟩
 | true=>
  simp only[if_true];by_cases h0:more<0
  · have g0:decide (more<0)=true:=decide_eq_true h0;clear hs hbad h0;go_wp2_with fail
    go_ret
    exact⟨rfl,HB3.out⟩
  · have g0:decide (more<0)=false:=decide_eq_false h0;have h1':16384<more:=by
     rcases hbad with e | e | e
     · rw[hs]at e;cases e
     · omega
     · exact e
    have g1:decide (16384<more)=true:=decide_eq_true h1';clear hs hbad h0;go_wp2_with fail
    go_ret
    exact⟨rfl,HB3.out⟩
theorem aut (w:World) (hE:ET w) (base cap:Nat) (h1b:base%16=0) (h2b:base<=4611686018427387904) (h1:1024<=cap) (h2:cap<=16384) (A:Option Addr) (k:Nat) (l:List Cl) (hL:ClRd w w.heap.size A l) (hs:aa5 l 50=true) (other:Nat) (ho64:other<18446744073709551616) (more:Nat) (hmo:more<=16384) (B:Option Addr) (j:Nat) (th:List Cl) (hT:ClRd w w.heap.size B th) (hts:aa5 th 50=true):
 Calls Tryz.prog 6 #[.int .u64 (base:Int), .int .i64 (cap:Int), .slice A l.length k, .int .u64 (other:Int), .int .i64 (more:Int), .slice B th.length j] w fun e w'=>e= .returned (.bool true)/\Below w.heap.size w w':=by
 have hts':=hts;unfold aa5 at hts';rw[Bool.and_eq_true,List.all_eq_true]at hts';have hl50:th.length<=50:=of_decide_eq_true hts'.1;have HSB:Hid (∀x∈th,x.b.length<=2000):=fun x hx=>of_decide_eq_true (hts'.2 x hx);have hs':=hs;unfold aa5 at hs';rw[Bool.and_eq_true,List.all_eq_true]at hs';have hll50:l.length<=50:=of_decide_eq_true hs'.1;have HUP:=hE0 (adM w hE);have HBG:=hE0 (fun W (hb:Below w.heap.size w W)=>akW W (hE.below hb) base cap h1b h2b h1 h2 A k l (adN hL hb) 50 (by omega) hs);have HDN:=hE0 (fun W=>adA W 128 (by omega) (by omega));have hsm:=fun W (hb:Below w.heap.size w W)=>adp W B j th (adN hT hb) (by omega) 50 (by omega);rw[hts]at hsm;have HSM:=hE0 hsm;obtain⟨nl,hnl⟩:=nmE l.length;rw[hnl]at HBG hll50 ⊢;obtain⟨n,hn⟩:=nmE th.length;rw[hn]at HSM hl50 ⊢;have HNL:=hE0 hn;have HL:=hE0 hT;have HE:=hE0 hE;obtain⟨wide,hwide⟩:∃wide:Nat,min (cap+more) 16384=wide:=⟨_,rfl⟩;have hw1:cap<=wide:=by omega
 have hw2:wide<=16384:=by omega
 have hmin:min ((cap:Int)+(more:Int)) 16384=(wide:Int):=by omega
 obtain⟨b2,hb2⟩:=nmE (other%288230376151711744*16);have hb16:b2%16=0:=by omega
 have hb62:b2<=4611686018427387904:=by omega
 have HBA:Hid (∀W,Calls Tryz.prog 49 #[.int .u64 (other:Int)] W fun e w'=>e= .returned (.int .u64 (b2:Int))/\W=w'):=fun W=>by rw[<-hb2];exact ak5 W other ho64
 clear hsm hs hs' hts hts' hL hT hn hnl hE hwide hb2;go_enter Tryz.func6,Tryz.ntmps6
 go_wp2_with fail
 refine HUP.out.mono ?_;rintro e w1 ⟨rfl,hb1⟩;have HB1:=hE0 hb1;clear hb1 HUP;go_wp2_with fail
 refine(HBG.out w1 HB1.out).mono ?_;rintro e w2 ⟨hb2,q,g,A1,c1,bs,H,told,At,ct,rfl,hv,hown,htl,h64,_⟩;have HB2:=hE0 (HB1.out.trans (hb2.mono HB1.out.size));have HV2:=hE0 (hv.less HB1.out.size);have HO2:=hE0 (acY hown HB1.out.size);have H64:=hE0 h64;have HTL:=hE0 htl;clear hb2 hv hown htl h64 HBG;go_wp2_with fail
 refine(HDN.out w2).mono ?_;rintro e w3 ⟨rfl,hdk,hb3⟩;have hds:=DS.made (N:=128) hdk (by rw[List.length_replicate]);obtain⟨gd,hgd⟩:=nmE (w2.heap.size+1);obtain⟨S,hS⟩:=nmE (adz (fun _=>False) w2 w3);obtain⟨s0,hs0⟩:∃s0:Dst,(⟨List.replicate (128*512) 0,[],-1,false⟩:Dst)=s0:=⟨_,rfl⟩;rw[hgd,hS,hs0]at hds;rw[hgd];have HSG:Hid (∀i,S i->w2.heap.size<=i/\i<w3.heap.size):=fun i hi=>by
  rw[<-hS]at hi;exact hi.elim False.elim id
 have HL0:Hid (s0.off=false/\s0.wt= []/\s0.left= -1/\aaE s0.bs s0.wt 64 0=afo/\aaE s0.bs s0.wt 64 1=afo):=by
  subst hs0;exact⟨rfl,rfl,rfl,abT _ _ _ (by omega),abT _ _ _ (by omega)⟩
 have HDS:=hE0 hds;have HS0:=hE0 hs0;have HB3:=hE0 (HB2.out.trans (hb3.mono HB2.out.size));have HV3:=hE0 (HV2.out.below hb3);have HO3:=hE0 (aav HO2.out hb3);have H23:=hE0 hb3.size;have HV2S:Hid (∀i,(i=q\/foot g A1 i)->i<w2.heap.size):=hE0 (fun i hi=>HV2.out.own_lt hi);have HO2S:Hid (∀i,(Value.slice At told.length ct).ownBlock=some i->i<w2.heap.size):=aba HO2.out;clear hdk hb3 hds hgd hS hs0 HDN HV2 HO2;go_wp2_with fail
 refine(HSM.out w3 HB3.out).mono ?_;rintro e w4 ⟨rfl,rfl⟩;clear HSM;have g0:decide ((more:Int)<0)=false:=decide_eq_false (by omega);have g1:decide ((16384:Int)<(more:Int))=false:=decide_eq_false (by omega);have g1n:decide (16384<more)=false:=decide_eq_false (by omega);have hlen:=HV3.out.ph.len;have hmay:=aeg HV3.out.ph.rd.rt.walk hlen HV3.out.ph.rd.rt.nfree.2.1;obtain⟨bb,hbb⟩:=nmE (aaH bs.length (H.blks.map toR) (ofD bs H.blks));have hfit:bb.length<=512*(64-1):=by
  have h1:=(ahs hmay).1;have h2:=(agr hmay).1;rw[<-hbb,afD];omega
 obtain⟨o,hO⟩:=nmE (afK afo afo 64 bb s0);obtain⟨f1,f2,f3,f4⟩:=aoz (N:=128) (by omega) (by omega) rfl hmay hbb hfit HS0.out hO;obtain⟨oc,os⟩:=o;dsimp only at f1 f2 f3 f4;subst f1;have HSV:=hE0 (ahx HDS.out 64 (by omega) (by omega) (by omega) HL0.out.1 (by rw[HL0.out.2.1];exact Nat.zero_le _) (by rw[HL0.out.2.2.1];omega) afo afo HL0.out.2.2.2.1 HL0.out.2.2.2.2 HV3.out.ph (0,os) (by rw[hbb];exact hO));have HF:Hid (os.off=false/\aaE os.bs os.wt 64 0=⟨1,bb.length,abd 0 bb,true,bs.length,H.blks.map toR,ofD bs H.blks⟩/\aaE os.bs os.wt 64 1=afo):=⟨f2,f3,f4⟩;have HLB:Hid (bs.length<=cap):=(show _<=_ by rw[<-HV3.out.ph.cp];exact HV3.out.ph.rd.rt.len);have HLEN:=hE0 hlen;clear hlen hmay hbb hfit hO f2 f3 f4 HDS HL0 HS0;go_wp2_with fail
 clear g0 g1 g1n hmin;refine HSV.out.mono ?_;rintro e w4 ⟨rfl,hd4,t4⟩;dsimp only at hd4 ⊢;rw[show ahA 0= .nilIface from rfl];have HV4:=hE0 (HV3.out.keepO t4 fun i hi hs=>by have:=(HSG.out i hs).1;have:=HV2S.out i hi;omega);have HO4:=hE0 (acc HO3.out fun i e=>t4.block i (aba HO3.out i e) fun hs=>by have:=(HSG.out i hs).1;have:=HO2S.out i e;omega);have HB4:=hE0 (HB3.out.trans (t4.below (fun i hi=>Nat.le_trans HB2.out.size (HSG.out i hi).1) HB3.out.size));have HLD:Hid (Calls Tryz.prog 30 #[.pointer (some ⟨gd,0,none⟩), .int .u64 (b2:Int), .int .i64 (wide:Int)] w4 fun e w'=>Below w4.heap.size w4 w'/\∃out q2 g2 A2 c2,e= .returned (.tuple #[.pointer (some ⟨q2,0,none⟩), .nilIface])/\Hv w4.heap.size w' q2 g2 b2 wide A2 c2 out (H.capped wide).rebuild):=by
  have hG:al6 ⟨1,bb.length,abd 0 bb,true,bs.length,H.blks.map toR,ofD bs H.blks⟩ afo b2 (wide:Int)=(0,bs.length,H.blks.map toR,ofD bs H.blks):=by
   unfold al6;rw[show adI ⟨1,bb.length,abd 0 bb,true,bs.length,H.blks.map toR,ofD bs H.blks⟩ afo=0 from rfl,if_neg (by decide),if_neg (fun h=>h ⟨hb16,hb62,by omega,by omega⟩),if_pos rfl,if_neg (by have:=HLB.out;show ¬((wide:Int)<(bs.length:Int));omega)]
  refine(aht hd4 64 (by omega) (by omega) (by omega) HF.out.1 _ _ HF.out.2.1 HF.out.2.2 b2 (by omega) (wide:Int) (by omega) _ hG).mono ?_;rintro e w' ⟨hb,h⟩;rw[if_pos rfl]at h;obtain⟨out,Hq,q2,g2,A2,c2,hl,rfl,hp,x1,x2,x3⟩:=h;rw[Int.toNat_natCast]at hp;exact⟨hb,out,q2,g2,A2,c2,rfl,⟨⟨hp.obj,hp.ar,asy HV3.out.ph.rd HLEN.out (by rw[HV3.out.ph.cp];exact hw1) hl,(af2 _).2.2,hw2,hb62⟩,x1,x2,x3⟩⟩
 clear hd4 t4 HV3 HO3 HB3 HSV HF;go_wp2_with fail
 refine(HBA.out w4).mono ?_;rintro e w5 ⟨rfl,rfl⟩;go_wp2_with fail
 refine HLD.out.mono ?_;rintro e w5 ⟨hb5,out,q2,g2,A2,c2,rfl,hk5⟩;have HV5:=hE0 (HV4.out.below hb5);have HO5:=hE0 (aav HO4.out hb5);have HB5:=hE0 (HB4.out.trans (hb5.mono HB4.out.size));have HK5:=hE0 hk5;have HV4S:Hid (∀i,(i=q\/foot g A1 i)->i<w4.heap.size):=hE0 (fun i hi=>HV4.out.own_lt hi);have HW:=hE0 (aoo HV5.out.ph wide hw1 hw2);clear hb5 hk5 HLD HV4 HO4;go_wp2_with fail
 refine HW.out.mono ?_;rintro e w6 ⟨rfl,ht6⟩;rw[avb];obtain⟨A6,c6,out6,hp6,t6,hA6⟩:=PTurn.wide HV5.out.ph ht6 hw2;have HK6:=hE0 (HK5.out.keepO t6 fun i hi hf=>by
  have h1:=HV4S.out i (.inr hf);rcases hi with rfl | hi
  · have:=HK5.out.qB;omega
  · have:=HK5.out.fB hi;omega)
 have HV6:Hid (Hv w.heap.size w6 q g base wide A6 c6 out6 (H.capped wide)):=⟨hp6,HV5.out.qB,HV5.out.gB,fun a e=>hA6.elim (fun h=>HV5.out.aB a (h▸e)) fun h=>Nat.le_trans HB5.out.size (h a e)⟩;have HO6:=hE0 (HV5.out.ph.ownO t6 HO5.out (by decide) (by decide) (by decide));have HB6:=hE0 (HB5.out.trans (HV5.out.low HB5.out.size t6));have HA6:Hid (∀i,(i=q\/foot g A6 i)->i<w4.heap.size\/w5.heap.size<=i):=fun i hi=>by
  rcases hi with rfl | rfl | ⟨a,e,rfl⟩
  · exact .inl (HV4S.out _ (.inl rfl))
  · exact .inl (HV4S.out _ (.inr (.inl rfl)))
  · rcases hA6 with h | h
    · exact .inl (HV4S.out _ (.inr (.inr ⟨a,h▸e,rfl⟩)))
    · exact .inr (h a e)
 have HDJ:Hid (∀i,(i=q\/foot g A6 i)->¬(i=q2\/foot g2 A2 i)):=fun i hi hi2=>by
  have h5:w4.heap.size<=i/\i<w5.heap.size:=⟨by
   rcases hi2 with rfl | hi2
   · exact HK5.out.qB
   · exact HK5.out.fB hi2,HK5.out.own_lt hi2⟩
  rcases HA6.out i hi with h | h<;>omega
 have HR:=hE0 (aq2 hp6);have HB46:Hid (w.heap.size<=w4.heap.size):=hE0 HB4.out.size;obtain⟨X,hX⟩:=nmE ((H.capped wide).rebuild);rw[hX]at HK6 HR;have HXC:Hid (X.cap=wide):=(show _=_ by rw[<-hX];exact(af2 _).2.2);clear ht6 hp6 t6 hA6 HW HV5 HO5 HB5 HK5 HV4S HV2S HO2S HSG hX HA6;go_wp2_with fail
 refine HR.out.mono ?_;rintro e w7 ⟨rfl,ht7⟩;obtain⟨A7,c7,out7,hv7,t7,hA7⟩:=HV6.out.turn HB6.out.size ht7 HXC.out;have HTV:Hid (Tv w.heap.size w7 wide base q g A7 c7 out7 X b2 q2 g2 A2 c2 out X):=
  Tv.one ⟨HV6.out,HK6.out.less HB46.out,HDJ.out⟩ hv7 t7 hA7
 have HO7:=hE0 (HV6.out.ph.ownO t7 HO6.out (by decide) (by decide) (by decide));have HB7:=hE0 (HB6.out.trans (HV6.out.low HB6.out.size t7));have htl:=HTL.out;clear ht7 hv7 t7 hA7 HR HV6 HK6 HDJ HO6 HB6;go_wp2_with fail
 go_loopw [15,21] (fun x15 i wr=>∃(j:Nat) (told:List Nat) (At:Option Addr) (ct:Nat) (X:Hp) (A1:Option Addr) (c1:Nat) (b1:List UInt8) (A2:Option Addr) (c2:Nat) (bk:List UInt8),x15= .slice At told.length ct/\i= .int .i64 (j:Int)/\j<=n/\told.length<=50+j/\(∀v∈told,v<18446744073709551616)/\wr.ownsRow w.heap.size 25 1 (.slice At told.length ct) told.length (told.map uV)/\Tv w.heap.size wr wide base q g A1 c1 b1 X b2 q2 g2 A2 c2 bk X/\Below w.heap.size w wr) (fun _ i _=>n-(intOf i).toNat)
 case atStart=>exact⟨0,told,At,ct,X,A7,c7,out7,A2,c2,out,rfl,rfl,Nat.zero_le _,by omega,H64.out,HO7.out,HTV.out,HB7.out⟩
 case round=>
  clear HTV HO7 HB7 H64 HTL HXC HLB HLEN HB1 HB2 HB4 HB46;obtain⟨i,told,At,ct,X,A1,c1,b1,A2,c2,bk,rfl,rfl,hj,htl,h64,hown,htv,hb⟩:=hrel;by_cases hlt:i<n
  · obtain⟨x,hx⟩:∃x,th[i]?=some x:=⟨th[i]'(by rw[HNL.out];exact hlt),List.getElem?_eq_getElem _⟩;obtain⟨b,o,hA,hbB,hcx⟩:=(HL.out.below hb) (by rw[HNL.out];omega);subst hA;obtain⟨⟨i0,i1,i2,i3,i4,i5,i6⟩,hxr,hok⟩:=hcx i x hx;obtain⟨b',o',hA',_,hcx0⟩:=HL.out (by rw[HNL.out];omega);have HXB:=hE0 (hcx0 i x hx).2.1;clear hcx hcx0 hA' hxr;have hbl2:=HSB.out x (List.mem_of_getElem? hx);obtain⟨o9,ho9⟩:=nmE (af1 x);obtain⟨p9,hp⟩:=nmE (af0 x told);have hp64:p9<18446744073709551616:=by rw[<-hp];exact ahy x told hok.2.2.1
    have ho9l:o9<9:=by rw[<-ho9];exact afl x
    have hM:=ahz wr x hok At ct told w.heap.size (Tl.own hown) (by omega) h64;rw[ho9,hp]at hM;obtain⟨_,_,hh,hnx,hmx,hax,_⟩:=hok;obtain⟨wh,xo,xh,xn,xm,xa,xA,xc,xb⟩:=x;dsimp only at i0 i1 i2 i3 i4 i5 i6 hM hbl2 hh hnx hmx hax HXB;obtain⟨bl,hbl⟩:=nmE xb.length;rw[hbl]at i6 hM hbl2;have HBLN:=hE0 hbl;have HTV:=hE0 htv;have HOW:=hE0 hown;have H64:=hE0 h64;have HBB:=hE0 hb;unfold abB at hM;have HM:=hE0 hM;clear hx hb htv hown h64 hbl ho9 hp hh hM;go_wp2_with fail
    refine HM.out.mono ?_;rintro e w3 ⟨rfl,hb3⟩;obtain⟨w4,hw4,n4,b4⟩:=auZ w3 43 (.int .i64 (o9:Int)) (.int .u64 (p9:Int)) (.int .u64 (xn:Int)) (.int .u64 (xm:Int)) (.int .u64 (xa:Int)) (.slice xA bl xc);obtain⟨⟨y0,y1,y2,y3,y4,y5⟩,_,hy6⟩:=asO n4.out;have hb4:Below wr.heap.size wr w4:=hb3.trans (b4.out.mono hb3.size);have HBB4:=hE0 (HBB.out.trans (hb4.mono HBB.out.size));have HT4:=hE0 (HTV.out.below hb4);have HO4:=hE0 (aav HOW.out hb4);have HXB4:=hE0 ((HXB.out.below HBB4.out).more HBB4.out.size);obtain⟨dc,hdc⟩:=nmE (X.doC (o9:Int) p9 xn xm xa xb);have hch:=aq3 HT4.out.h1.ph.rd (by rw[HT4.out.h1.ph.cp];exact hw2) ho9l p9 xn xm xa xb;rw[hdc]at hch;have hd:=HT4.out.h1.do4_ HBB4.out.size (HE.out.below HBB4.out) HE.out.lt o9 ho9l p9 xn xm xa bl xc xA xb hp64 hnx hmx hax HBLN.out HXB4.out (by omega) dc hdc;have HDC:=hE0 hdc;obtain⟨⟨ck,ch,cn,cb,⟨s0,s1,s2,s3,s4⟩⟩,X1⟩:=dc;unfold abB at hd;dsimp only at hd hch;obtain⟨cbl,hcbl⟩:=nmE cb.length;have HDO:=hE0 hd;have HCH:=hE0 hch;have HCBL:=hE0 hcbl;clear hb3 hb4 hd hch hdc hcbl HM i0 i1 i2 i3 i4 i5 i6 HTV HOW HBB;go_wp2_with (first | (rw[hw4.out]) | fail)
    refine HDO.out.mono ?_;rintro e w5 ⟨⟨A',c',rfl,hob⟩,A1',c1',b1',hv5,t5,bb5,hA5⟩;unfold rpV ahu;dsimp only at hob hv5 ⊢;rw[HCBL.out];rw[HCBL.out]at hob;have HF2:Hid (∀i,(i=q2\/foot g2 A2 i)->i<w4.heap.size):=hE0 (fun i hi=>HT4.out.h2.own_lt hi);have HT5:=hE0 (HT4.out.one hv5 t5 hA5);have HO5:=hE0 (HT4.out.h1.ph.ownO t5 HO4.out (by decide) (by decide) (by decide));have HBB5:=hE0 (HBB4.out.trans bb5);have n5:Hid (w5.heap[w3.heap.size]?=some (.cells #[.int .i64 (o9:Int), .int .u64 (p9:Int), .int .u64 (xn:Int), .int .u64 (xm:Int), .int .u64 (xa:Int), .slice xA bl xc] 43 (0,0))):=hE0 (HT4.out.h1.ph.locO t5 n4.out (by decide) (by decide) (by decide));have HOB:=hE0 hob;have H45:=hE0 t5.size;obtain⟨w6,hw6,n6,b6⟩:=ag3 w5 50 (.int .i64 ck) (.int .u64 (ch:Int)) (.int .u64 (cn:Int)) (.slice A' cbl c') (.int .i64 (s0:Int)) (.int .i64 (s1:Int)) (.int .i64 (s2:Int)) (.int .i64 (s3:Int)) (.int .i64 (s4:Int));obtain⟨wd,hwd⟩:=nmE w6.drew;have hbd:=adE hwd;have hb5d:Below w5.heap.size w5 wd:=b6.out.trans (hbd.mono b6.out.size);have HWD:=hE0 hwd;have NR:=hE0 ((hbd.block _ (aaa n6.out)).trans n6.out);have NC:=hE0 ((hb5d.block _ (aaa n5.out)).trans n5.out);have HTD:=hE0 (HT5.out.below hb5d);have HOD:=hE0 (aav HO5.out hb5d);have HOBD:=hE0 (aav HOB.out hb5d);have HBD:=hE0 (HBB5.out.trans (hb5d.mono HBB5.out.size));have H5D:=hE0 hb5d.size;have hd2:=HTD.out.h2.do4_ HBD.out.size (HE.out.below HBD.out) HE.out.lt o9 ho9l p9 xn xm xa bl xc xA xb hp64 hnx hmx hax HBLN.out ((HXB.out.below HBD.out).more HBD.out.size) (by omega) _ HDC.out;unfold abB at hd2;dsimp only at hd2;have HD2:=hE0 hd2;have hnr:¬foot g2 A2 w5.heap.size:=fun hf=>by have:=HF2.out _ (.inr hf);have:=H45.out;omega
    have hnc:¬foot g2 A2 w3.heap.size:=fun hf=>HTD.out.h2.ph.oth ⟨_,_,NC.out,by decide,by decide,by decide⟩ (.inr hf);have HNR:=hE0 hnr;clear y0 y1 y2 y3 y4 y5 hy6 hwd hbd hb5d hob hv5 t5 bb5 hA5 hd2 HDO HT4 HO4 HXB4 HBB4 HT5 HO5 HBB5 HOB n5 n4;go_wp2_with (first | (rw[hw6.out]) | fail)
    obtain⟨⟨z0',z1',z2',z3',z4',z5',z6',z7',z8'⟩,_,_⟩:=aeB NR.out;obtain⟨⟨y0',y1',y2',y3',y4',y5'⟩,_,_⟩:=asO NC.out;refine aa0 (foot g2 A2) [([0,1,2],3),([],4)] [5] [] (by kernel_rfl) (by kernel_rfl) (by kernel_rfl) (fun _ _ _ _ _ h=>h) ?_;rw[HWD.out];have z0:∀z:LaterS (foot g2 A2) wd,z.val.cell? ⟨w5.heap.size,0,none⟩=some (.int .i64 ck):=fun z=>z.ext.cell z0' hnr;have z1:∀z:LaterS (foot g2 A2) wd,z.val.cell? ⟨w5.heap.size,1,none⟩=some (.int .u64 (ch:Int)):=fun z=>z.ext.cell z1' hnr;have z2:∀z:LaterS (foot g2 A2) wd,z.val.cell? ⟨w5.heap.size,2,none⟩=some (.int .u64 (cn:Int)):=fun z=>z.ext.cell z2' hnr;have z3:∀z:LaterS (foot g2 A2) wd,z.val.cell? ⟨w5.heap.size,3,none⟩=some (.slice A' cbl c'):=fun z=>z.ext.cell z3' hnr;have z4:∀z:LaterS (foot g2 A2) wd,z.val.cell? ⟨w5.heap.size,4,none⟩=some (.int .i64 (s0:Int)):=fun z=>z.ext.cell z4' hnr;have z5:∀z:LaterS (foot g2 A2) wd,z.val.cell? ⟨w5.heap.size,5,none⟩=some (.int .i64 (s1:Int)):=fun z=>z.ext.cell z5' hnr;have z6:∀z:LaterS (foot g2 A2) wd,z.val.cell? ⟨w5.heap.size,6,none⟩=some (.int .i64 (s2:Int)):=fun z=>z.ext.cell z6' hnr;have z7:∀z:LaterS (foot g2 A2) wd,z.val.cell? ⟨w5.heap.size,7,none⟩=some (.int .i64 (s3:Int)):=fun z=>z.ext.cell z7' hnr;have z8:∀z:LaterS (foot g2 A2) wd,z.val.cell? ⟨w5.heap.size,8,none⟩=some (.int .i64 (s4:Int)):=fun z=>z.ext.cell z8' hnr;have y0:∀z:LaterS (foot g2 A2) wd,z.val.cell? ⟨w3.heap.size,0,none⟩=some (.int .i64 (o9:Int)):=fun z=>z.ext.cell y0' hnc;have y1:∀z:LaterS (foot g2 A2) wd,z.val.cell? ⟨w3.heap.size,1,none⟩=some (.int .u64 (p9:Int)):=fun z=>z.ext.cell y1' hnc;have y2:∀z:LaterS (foot g2 A2) wd,z.val.cell? ⟨w3.heap.size,2,none⟩=some (.int .u64 (xn:Int)):=fun z=>z.ext.cell y2' hnc;have y3:∀z:LaterS (foot g2 A2) wd,z.val.cell? ⟨w3.heap.size,3,none⟩=some (.int .u64 (xm:Int)):=fun z=>z.ext.cell y3' hnc;have y4:∀z:LaterS (foot g2 A2) wd,z.val.cell? ⟨w3.heap.size,4,none⟩=some (.int .u64 (xa:Int)):=fun z=>z.ext.cell y4' hnc;have y5:∀z:LaterS (foot g2 A2) wd,z.val.cell? ⟨w3.heap.size,5,none⟩=some (.slice xA bl xc):=fun z=>z.ext.cell y5' hnc;refine abF (l:= ?sega) ?hsega ?_
    case hsega=>simp only[pick,lE1,lE2,lE3];rfl
    repeat (go_big_quiet_step (fail))
    refine wpQuiet_nil ?_;clear z0 z1 z2 z3 z4 z5 z6 z7 z8 y0 y1 y2 y3 y4 y5 z0' z1' z2' z3' z4' z5' z6' z7' z8' y0' y1' y2' y3' y4' y5' hnr hnc;refine abO (vs:= #[.pointer (some ⟨q2,0,none⟩), .agg #[.int .i64 (o9:Int), .int .u64 (p9:Int), .int .u64 (xn:Int), .int .u64 (xm:Int), .int .u64 (xa:Int), .slice xA bl xc]]) Tryz.call20 rfl rfl rfl (R:=fun r w'=>∃A'' c'',r=rpV ⟨ck,ch,cn,cb,⟨s0,s1,s2,s3,s4⟩⟩ A'' c''/\w'.ownsRow wd.heap.size 5 1 (.slice A'' cb.length c'') cb.length (cb.map bv)/\∃A2' c2' b2',Hv w.heap.size w' q2 g2 b2 wide A2' c2' b2' X1/\Tch (foot g2 A2) wd w'/\Below w.heap.size wd w'/\(A2'=A2\/∀a,A2'=some a->wd.heap.size<=a.block)) (HD2.out.mono ?_) ?_
    · rintro e w' ⟨⟨A'',c'',rfl,ho⟩,A2',c2',b2',hv',t',bb',hA'⟩;exact⟨_,rfl,t',A'',c'',rfl,ho,A2',c2',b2',hv',t',bb',hA'⟩
    rintro r w7 _ ⟨A'',c'',rfl,hob7,A2',c2',b2',hv7,t7,bb7,hA7⟩;unfold rpV ahu;dsimp only;rw[HCBL.out];rw[HCBL.out]at hob7;have HT7:=hE0 (HTD.out.two hv7 t7 hA7);have HO7:=hE0 (HTD.out.h2.ph.ownO t7 HOD.out (by decide) (by decide) (by decide));have hob2:=acc HOBD.out fun i e=>t7.block i (aba HOBD.out i e) fun hf=>by have h1:=HF2.out i (.inr hf);have h2:=afb HOBD.out i e;omega
    have HB7:=hE0 (HBD.out.trans bb7);have NR7:=hE0 ((t7.block _ (aaa NR.out) HNR.out).trans NR.out);have hsm:=asB w7 ⟨ck,ch,cn,cb,⟨s0,s1,s2,s3,s4⟩⟩ A' A'' c' c'' (by dsimp only;rw[HCBL.out];exact Rd.ownR hob2) (by dsimp only;rw[HCBL.out];exact Rd.ownR hob7);unfold rpV ahu at hsm;dsimp only at hsm;rw[HCBL.out]at hsm;have HSM:=hE0 hsm;clear hob7 hob2 hv7 t7 bb7 hA7 hsm HTD HOD HOBD HBD HD2 NR NC;refine⟨foot g2 A2,fun _ _ h=>h,?_⟩;simp only[Act.put,lE4,lE5,lE6];refine abF (l:= []) rfl (wpQuiet_nil ?_);refine abO (vs:= #[.agg #[.int .i64 ck, .int .u64 (ch:Int), .int .u64 (cn:Int), .slice A' cbl c', .int .i64 (s0:Int), .int .i64 (s1:Int), .int .i64 (s2:Int), .int .i64 (s3:Int), .int .i64 (s4:Int)], .agg #[.int .i64 ck, .int .u64 (ch:Int), .int .u64 (cn:Int), .slice A'' cbl c'', .int .i64 (s0:Int), .int .i64 (s1:Int), .int .i64 (s2:Int), .int .i64 (s3:Int), .int .i64 (s4:Int)]]) Tryz.call21 rfl rfl rfl (R:=fun r w'=>r= .bool true/\Below w7.heap.size w7 w') (HSM.out.mono ?_) ?_
    · rintro e w' ⟨rfl,hb⟩;exact⟨_,rfl,Tch.of_below hb,rfl,hb⟩
    rintro r w8 _ ⟨rfl,hb8⟩;have HT8:=hE0 (HT7.out.below hb8);have HO8:=hE0 (aav HO7.out hb8);have HB8:=hE0 (HB7.out.trans (hb8.mono HB7.out.size));have NR8:=hE0 ((hb8.block _ (aaa NR7.out)).trans NR7.out);refine⟨foot g2 A2,fun _ _ h=>h,?_⟩;simp only[Act.put,lE4,lE5,lE6];refine acX (l:= ?segb) (t:= []) ?hsegb ?tsegb ?_
    case hsegb=>simp only[pick,lE1,lE2,lE3];rfl
    case tsegb=>rfl
    repeat (go_big_quiet_step (fail))
    refine wpQuiet_nil ?_;obtain⟨⟨z0,z1,z2,z3,z4,z5,z6,z7,z8⟩,_,hz8⟩:=aeB NR8.out;clear hb8 HT7 HO7 HB7 HSM NR7;by_cases hch0:ch=0
    · have gz:((ch:Int) !=0)=false:=by rw[bne_eq_false_iff_eq];omega
      clear hch0;go_wp2_with fail
      go_roundw
      case rel=>exact⟨i+1,told,At,ct,X1,A1',c1',b1',A2',c2',b2',rfl,by go_num,by omega,by omega,H64.out,HO8.out,HT8.out,HB8.out⟩
      case measure=>simp only[intOf];omega
    · have gz:((ch:Int) !=0)=true:=by rw[bne_iff_ne];omega
      obtain⟨w9,hw9⟩:=nmE (w8.alloc (.cells #[.int .u64 (ch:Int)] 25));have b9:=abE hw9;have n9:=anE hw9;have c9:w9.cell? ⟨w8.heap.size,0,none⟩=some (uV ch):=by rw[cell_of_row w9 _ 0 _ _ (0,0) n9];rfl
      have HO9:=hE0 (aav HO8.out b9);have HT9:=hE0 (HT8.out.below b9);have HB9:=hE0 (HB8.out.trans (b9.mono HB8.out.size));have HC9:=hE0 c9;have HW9:=hE0 hw9;have H641:Hid (∀v∈told++ [ch],v<18446744073709551616):=fun v hv=>by
       rcases List.mem_append.1 hv with h | h
       · exact H64.out v h
       · simp at h;rw[h];exact HCH.out
      clear hch0 hw9 b9 n9 c9;go_wp2_with (first
       | (rw[HW9.out])
       | (at_builtin;go_must (refine ac6 rfl _ _ rfl w.heap.size _ told.length told rfl HO9.out ⟨w8.heap.size,0,none⟩ 1 ch rfl HC9.out (by omega) HB9.out.size ?_);intro x12 w12 own12 gr12 lie12
          have HX12:Hid (w12.ownsRow w.heap.size 25 1 x12 (told.length+1) ((told++ [ch]).map uV)/\w9.grownBy w12 (Value.slice At told.length ct).ownBlock):=⟨own12,gr12⟩;clear own12 gr12 lie12)
       | fail)
      go_roundw
      case rel=>
       obtain⟨own12,gr12⟩:=HX12.out;obtain⟨A12,c12,rfl⟩:=ahY own12;have tg:Tch (fun k=>(Value.slice At told.length ct).ownBlock=some k) w9 w12:=Tch.grown gr12 (fun k e=>e);refine⟨i+1,told++ [ch],A12,c12,X1,A1',c1',b1',A2',c2',b2',by rw[List.length_append,List.length_singleton],by go_num,by omega,by rw[List.length_append,List.length_singleton];omega,H641.out,by rw[List.length_append,List.length_singleton];exact own12,HT9.out.tchO tg (fun k hk=>ajt HO9.out hk),HB9.out.trans (tg.below (fun k hk=>(HO9.out.lt k hk).1) HB9.out.size)⟩
      case measure=>simp only[intOf];omega
  · have hp1:=htv.h1.ph.rd.rt;have hp2:=htv.h2.ph.rd.rt;have hl1:=htv.h1.ph.len;have hl2:=htv.h2.ph.len;have hz1:=(aaj hp1.walk).1;have hz2:=(aaj hp2.walk).1;have hsame:=aq1 hp1 hp2;obtain⟨wd,hwd⟩:=nmE wr.drew;have hbd:=adE hwd;have HTD:=hE0 (htv.below hbd);have HBD:=hE0 (hb.trans (hbd.mono hb.size));have HWD:=hE0 hwd;have HSM:=hE0 hsame;obtain⟨⟨s0,s1,s2,s3,s4⟩,hst⟩:∃t,X.stats=t:=⟨_,rfl⟩;have HST:=hE0 hst;have HEQ:=hE0 (fun W=>aus W (s0:Int) (s1:Int) (s2:Int) (s3:Int) (s4:Int));obtain⟨n1,hn1⟩:=nmE b1.length;obtain⟨n2,hn2⟩:=nmE bk.length;rw[hn1]at hl1 hz1;rw[hn2]at hl2 hz2;have HN1:=hE0 hn1;have HN2:=hE0 hn2;clear hp1 hp2 hsame hwd hbd htv hb hown h64 htl hst hn1 hn2 HL HSB;go_wp2_with fail
    refine aar wd.heap.size [([0,1,2,7],3),([],4),([5,6],8),([],9),([10,11,12,13,14,15,17],16),([],18)] [19,20,21] [] (by kernel_rfl) (by kernel_rfl) (by kernel_rfl) (fun _ _ _ _ _ h=>h) ?_;rw[HWD.out];refine tail_cons (l:= ?sg1) ?hsg1 ?_
    case hsg1=>simp only[pick,lE1,lE2,lE3];rfl
    repeat (go_big_quiet_step (fail))
    refine wpQuiet_nil ?_;refine abD (vs:= #[.pointer (some ⟨q,0,none⟩)]) Tryz.call35 rfl rfl rfl (R:=fun r w'=>∃g' A' c',r= .pointer (some ⟨g',0,none⟩)/\Ar w' 195 g' base wide A' c' b1/\Below wd.heap.size wd w') ((adm HTD.out.h1.ph).mono ?_) ?_
    · rintro e w' ⟨g',A',c',rfl,ha,hb,_,_⟩;exact⟨_,rfl,hb,g',A',c',rfl,ha,hb⟩
    rintro r w1 _ ⟨g',A',c',rfl,ha,hb1⟩;have hby:=ajM ha (by rw[HN1.out];omega) h2b;have HT1:=hE0 (HTD.out.below hb1);have HB1:=hE0 (HBD.out.trans (hb1.mono HBD.out.size));have HBY:=hE0 hby
    clear ha hby
    refine⟨w1.heap.size,hb1.size,?_⟩;simp only[Act.put,lE4,lE5,lE6];refine tail_cons (l:= []) rfl (wpQuiet_nil ?_);refine abD (vs:= #[.pointer (some ⟨g',0,none⟩)]) Tryz.call34 rfl rfl rfl (R:=fun r w'=>∃A c,r= .slice A n1 c/\w'.ownsRow w1.heap.size 5 1 (.slice A n1 c) n1 (b1.map bv)/\Below w1.heap.size w1 w') (HBY.out.mono ?_) ?_
    · rintro e w' ⟨A,c,rfl,ho,hb⟩;rw[HN1.out]at ho ⊢;exact⟨_,rfl,hb,A,c,rfl,ho,hb⟩
    rintro r w2 _ ⟨D1,e1,rfl,ho1,hb2⟩;have HT2:=hE0 (HT1.out.below hb2);have HB2:=hE0 (HB1.out.trans (hb2.mono HB1.out.size));have hc1:=akp ho1;have hr1:=Rd.some_ (k:=184) (Rd.ownR ho1) hz1;have q1:=fun z:LaterB w2.heap.size w2=>aqZ hr1 e1 z;obtain⟨d1,rfl⟩:∃d,D1=some ⟨d,0,none⟩:=by
     rcases ho1.2 with⟨h',h0⟩ | ⟨gg,cap',cur,hv,_⟩
     · omega
     · injection hv with hv _ _;exact⟨gg,hv⟩
    clear HT1 HB1 HBY ho1 hr1 hb1;refine⟨w2.heap.size,hb2.size,?_⟩;simp only[Act.put,lE4,lE5,lE6];clear hb2;refine tail_cons (l:= ?sg2) ?hsg2 ?_
    case hsg2=>simp only[pick,lE1,lE2,lE3];rfl
    repeat (go_big_quiet_step (fail))
    refine wpQuiet_nil ?_;clear q1;refine abD (vs:= #[.pointer (some ⟨q2,0,none⟩)]) Tryz.call35 rfl rfl rfl (R:=fun r w'=>∃g' A' c',r= .pointer (some ⟨g',0,none⟩)/\Ar w' 195 g' b2 wide A' c' bk/\Below w2.heap.size w2 w') ((adm HT2.out.h2.ph).mono ?_) ?_
    · rintro e w' ⟨g',A',c',rfl,ha,hb,_,_⟩;exact⟨_,rfl,hb,g',A',c',rfl,ha,hb⟩
    rintro r w3 _ ⟨g3,A3,c3,rfl,ha,hb3⟩;have HBY:=hE0 (ajM ha (by rw[HN2.out];omega) hb62);have HT3:=hE0 (HT2.out.below hb3);have HB3:=hE0 (HB2.out.trans (hb3.mono HB2.out.size));clear ha;refine⟨w3.heap.size,hb3.size,?_⟩;clear hb3;simp only[Act.put,lE4,lE5,lE6];refine tail_cons (l:= []) rfl (wpQuiet_nil ?_);refine abD (vs:= #[.pointer (some ⟨g3,0,none⟩)]) Tryz.call34 rfl rfl rfl (R:=fun r w'=>∃A c,r= .slice A n2 c/\w'.ownsRow w3.heap.size 5 1 (.slice A n2 c) n2 (bk.map bv)/\Below w3.heap.size w3 w') (HBY.out.mono ?_) ?_
    · rintro e w' ⟨A,c,rfl,ho,hb⟩;rw[HN2.out]at ho ⊢;exact⟨_,rfl,hb,A,c,rfl,ho,hb⟩
    rintro r w4 _ ⟨D2,e2,rfl,ho2,hb4⟩;have HT4:=hE0 (HT3.out.below hb4);have HB4:=hE0 (HB3.out.trans (hb4.mono HB3.out.size));have hc2:=akp ho2;have hr2:=Rd.some_ (k:=184) (Rd.ownR ho2) hz2;rw[<-HSM.out]at hr2;have q2:=fun z:LaterB w4.heap.size w4=>aqZ hr2 e2 z;obtain⟨d2,rfl⟩:∃d,D2=some ⟨d,0,none⟩:=by
     rcases ho2.2 with⟨h',h0⟩ | ⟨gg,cap',cur,hv,_⟩
     · omega
     · injection hv with hv _ _;exact⟨gg,hv⟩
    have hs1:=(aeR HT4.out.h1.ph);rw[HST.out]at hs1;unfold stV at hs1;dsimp only at hs1;have HS1:=hE0 hs1;clear HT3 HB3 HBY ho2 hr2 hs1;refine⟨w4.heap.size,hb4.size,?_⟩;clear hb4;simp only[Act.put,lE4,lE5,lE6];refine tail_cons (l:= ?sg3) ?hsg3 ?_
    case hsg3=>simp only[pick,lE1,lE2,lE3];rfl
    repeat (go_big_quiet_step (fail))
    refine wpQuiet_nil ?_;clear q2;refine abD (vs:= #[.pointer (some ⟨q,0,none⟩)]) Tryz.call52 rfl rfl rfl (R:=fun r w'=>r= .agg #[.int .i64 (s0:Int), .int .i64 (s1:Int), .int .i64 (s2:Int), .int .i64 (s3:Int), .int .i64 (s4:Int)]/\Below w4.heap.size w4 w') (HS1.out.mono ?_) ?_
    · rintro e w' ⟨rfl,hb⟩;exact⟨_,rfl,hb,rfl,hb⟩
    rintro r w5 _ ⟨rfl,hb5⟩;have HB5:=hE0 (HB4.out.trans (hb5.mono HB4.out.size));have hs2:=(aeR (HT4.out.below hb5).h2.ph);rw[HST.out]at hs2;unfold stV at hs2;dsimp only at hs2;have HS2:=hE0 hs2;clear hs2 HB4 HT4;refine⟨w5.heap.size,hb5.size,?_⟩;clear hb5;simp only[Act.put,lE4,lE5,lE6];refine tail_cons (l:= []) rfl (wpQuiet_nil ?_);refine abD (vs:= #[.pointer (some ⟨q2,0,none⟩)]) Tryz.call52 rfl rfl rfl (R:=fun r w'=>r= .agg #[.int .i64 (s0:Int), .int .i64 (s1:Int), .int .i64 (s2:Int), .int .i64 (s3:Int), .int .i64 (s4:Int)]/\Below w5.heap.size w5 w') (HS2.out.mono ?_) ?_
    · rintro e w' ⟨rfl,hb⟩;exact⟨_,rfl,hb,rfl,hb⟩
    rintro r w6 _ ⟨rfl,hb6⟩;have HB6:=hE0 (HB5.out.trans (hb6.mono HB5.out.size));clear HB5 HS1 HS2;refine⟨w6.heap.size,hb6.size,?_⟩;clear hb6;simp only[Act.put,lE4,lE5,lE6];have heq:=fun z:LaterB w6.heap.size w6=>HEQ.out z.val;refine aaO (l:= ?sg5) (t:= []) ?hsg5 ?tsg5 ?_
    case hsg5=>simp only[pick,lE1,lE2,lE3];rfl
    case tsg5=>rfl
    repeat (go_big_quiet_step (fail))
    refine wpQuiet_nil ?_;clear heq;go_wp2_with fail
    go_ret
    exact⟨rfl,HB6.out⟩
theorem avs (w:World) (hE:ET w) (base:Nat) (hb64:base<18446744073709551616) (cap:Int) (hc: -9223372036854775808<=cap/\cap<=9223372036854775807) (A:Option Addr) (k:Nat) (l:List Cl) (hL:ClRd w w.heap.size A l) (hm:l.length<=maxLen) (other:Nat) (ho64:other<18446744073709551616) (more:Int) (B:Option Addr) (j:Nat) (th:List Cl) (hT:ClRd w w.heap.size B th) (hm2:th.length<=maxLen):
 Calls Tryz.prog 6 #[.int .u64 (base:Int), .int .i64 cap, .slice A l.length k, .int .u64 (other:Int), .int .i64 more, .slice B th.length j] w fun e w'=>e= .returned (.bool true)/\Below w.heap.size w w':=by
 by_cases h1:base%16≠0\/4611686018427387904<base\/cap<1024\/16384<cap
 · exact aq6 w hE base cap A l.length k (fun W _=>(aq4 W base hb64 cap hc h1 A l.length k 50).mono fun e w' h=>⟨h.1,by obtain⟨_,rfl⟩:=h;exact Below.refl _ _⟩) other more B th.length j
 obtain⟨c,rfl⟩:∃c:Nat,cap=(c:Int):=⟨cap.toNat,by omega⟩
 cases hs:aa5 l 50 with
 | false=>exact aq6 w hE base c A l.length k (fun W hb=>aoA W base c (by omega) (by omega) (by omega) (by omega) A k l (adN hL hb) hm 50 (by omega) hs) other more B th.length j
 | true=>
  by_cases h2:aa5 th 50=false\/more<0\/16384<more
  · exact avr w hE base c (by omega) (by omega) (by omega) (by omega) A k l hL hs other more B j th hT hm2 h2
  · obtain⟨m,rfl⟩:∃m:Nat,more=(m:Int):=⟨more.toNat,by omega⟩;have ht:aa5 th 50=true:=by
     cases e:aa5 th 50 with
     | true=>rfl
     | false=>exact absurd (.inl e) h2
    exact aut w hE base c (by omega) (by omega) (by omega) (by omega) A k l hL hs other ho64 m (by omega) B j th hT ht
end Go.Proofs.YtncadccbepjekaaGreatDoor
