/- Texts of mine, joined. -/
import Derived.Test.YtncadccbepjekaaGreatDoorU44
import Derived.Test.YtncadccbepjekaaGreatDoorU45
import Derived.Test.YtncadccbepjekaaGreatDoorU46
set_option maxRecDepth 100000
set_option maxHeartbeats 8000000
namespace Go.Proofs.YtncadccbepjekaaGreatDoor
open Go.RowKit
section
variable {w w':World} {q g base cap c:Nat} {A:Option Addr} {bs out:List UInt8} {H H':Hp}
theorem aun (h:PH w q g base cap A c bs H) (hE:ET w) (h0:¬foot g A 0) (op:Nat) (hop:op<9) (p n m a bl k:Nat) (B:Option Addr) (b:List UInt8) (hp:p<18446744073709551616) (hn:n<18446744073709551616) (hm:m<18446744073709551616) (ha:a<18446744073709551616) (hbl:b.length=bl) (hr:Rd w w.heap.size B b.length b) (hb6:bl<=1000000):
 Calls Tryz.prog 20 #[.pointer (some ⟨q,0,none⟩),abB (op:Int) p n m a B bl k] w fun e w'=>adn (H.doC (op:Int) p n m a b).1 w e w'/\PTurn g base cap A (H.doC (op:Int) p n m a b).2 w w':=by
 have ho:op=0\/op=1\/op=2\/op=3\/op=4\/op=5\/op=6\/op=7\/op=8:=by omega
 rcases ho with rfl | rfl | rfl | rfl | rfl | rfl | rfl | rfl | rfl
 · exact avY h hE h0 p n m a bl k B b
 · exact avZ h hE h0 p n m a bl k B b hn
 · exact av0 h hE h0 p n m a bl k B b hn hm
 · exact av1 h hE h0 p n m a bl k B b hp
 · exact av2 h hE h0 p n m a bl k B b hp hn
 · exact av3 h hE h0 p n m a bl k B b hp
 · exact(avh h hE h0 p n m a bl k B b hp ha hn).mono fun e w' h=>⟨h.1,h.2.1⟩
 · exact av4 h hE h0 p n m a bl k B b hp ha hbl hr hb6
 · exact av5 h hE h0 p n m a bl k B b
theorem auo{op:Nat}(hop:op<9){p n m a:Nat}{b:List UInt8}:(H.doC (op:Int) p n m a b).2.cap=H.cap:=by
 have ho:op=0\/op=1\/op=2\/op=3\/op=4\/op=5\/op=6\/op=7\/op=8:=by omega
 rcases ho with rfl | rfl | rfl | rfl | rfl | rfl | rfl | rfl | rfl
 · have e:H.doC ((0:Nat):Int) p n m a b=_:=aui (H:=H) p n m a b;rw[e]
 · have e:H.doC ((1:Nat):Int) p n m a b=_:=aqW (H:=H) p n m a b;rw[e];exact aqX
 · have e:H.doC ((2:Nat):Int) p n m a b=_:=auj (H:=H) p n m a b;rw[e];exact aos
 · have e:H.doC ((3:Nat):Int) p n m a b=_:=asu (H:=H) p n m a b;rw[e];exact aqY
 · have e:H.doC ((4:Nat):Int) p n m a b=_:=auk (H:=H) p n m a b;rw[e];exact amj
 · have e:H.doC ((5:Nat):Int) p n m a b=_:=aul (H:=H) p n m a b;rw[e]
 · have e:H.doC ((6:Nat):Int) p n m a b=_:=asv (H:=H) p n m a b;rw[e]
 · have e:H.doC ((7:Nat):Int) p n m a b=_:=asw (H:=H) p n m a b;rw[e];exact aot
 · have e:H.doC ((8:Nat):Int) p n m a b=_:=aum (H:=H) p n m a b;rw[e]
theorem aq3 (h:RtD bs H) (hc:H.cap<=16384){op:Nat}(hop:op<9) (p n m a:Nat) (b:List UInt8):(H.doC (op:Int) p n m a b).1.hd<18446744073709551616:=by
 have ho:op=0\/op=1\/op=2\/op=3\/op=4\/op=5\/op=6\/op=7\/op=8:=by omega
 rcases ho with rfl | rfl | rfl | rfl | rfl | rfl | rfl | rfl | rfl
 · have e:H.doC ((0:Nat):Int) p n m a b=_:=aui (H:=H) p n m a b;rw[e];exact Nat.zero_lt_succ _
 · have e:H.doC ((1:Nat):Int) p n m a b=_:=aqW (H:=H) p n m a b;rw[e];exact as2 h hc n 165
 · have e:H.doC ((2:Nat):Int) p n m a b=_:=auj (H:=H) p n m a b;rw[e];exact aq0 h hc n m
 · have e:H.doC ((3:Nat):Int) p n m a b=_:=asu (H:=H) p n m a b;rw[e];exact Nat.zero_lt_succ _
 · have e:H.doC ((4:Nat):Int) p n m a b=_:=auk (H:=H) p n m a b;rw[e];exact aou h hc p n
 · have e:H.doC ((5:Nat):Int) p n m a b=_:=aul (H:=H) p n m a b;rw[e];exact Nat.zero_lt_succ _
 · have e:H.doC ((6:Nat):Int) p n m a b=_:=asv (H:=H) p n m a b;rw[e];exact Nat.zero_lt_succ _
 · have e:H.doC ((7:Nat):Int) p n m a b=_:=asw (H:=H) p n m a b;rw[e];exact Nat.zero_lt_succ _
 · have e:H.doC ((8:Nat):Int) p n m a b=_:=aum (H:=H) p n m a b;rw[e];exact Nat.zero_lt_succ _
end
theorem avi{bs:List UInt8}{H:Hp}(h:RtD bs H){n s:Nat}(x:UInt8) (hs:acU n=some s) (hz:aaB (s:Int)=true) (hr:s+anS H.blks<=H.cap):(H.get n x).1.2=0:=by
 have hr':=h.rt.room (s:=s) hz;rw[decide_eq_true hr,Bool.or_true]at hr'
 cases hq:(H.take s).1 with
 | none=>rw[hq]at hr';cases hr'
 | some o=>unfold Hp.get;rw[hs];dsimp only;rw[hq]
theorem as5{H:Hp}{s:Nat}(hb:H.blks= [⟨184,s,true⟩]):H.handleB 192=some 0:=by
 unfold Hp.handleB aaY;rw[hb];rfl
theorem avj{out:List UInt8}{H:Hp}(h:RtD out H){s:Nat}(hb:H.blks= [⟨184,s,true⟩]):∃d,H.ds= [d]/\ofD out H.blks= [d.2]:=by
 have hl:=h.dl;unfold Hp.Dl at hl;rw[hb]at hl;obtain⟨d,hd⟩:=List.length_eq_one_iff.1 hl;refine⟨d,hd,?_⟩;rw[am6 h,hb,hd];rfl
theorem asA{H:Hp}{s:Nat}(hb:H.blks= [⟨184,s,true⟩]):(H.give 0).blks= [⟨184,s,false⟩]/\(H.give 0).cap=H.cap:=by
 obtain⟨cap,blks,ds,lists⟩:=H;dsimp only at hb;subst hb;exact⟨rfl,rfl⟩
def up19A:Hp:=((aef 1024).get 100 165).2
def up19B:Hp:=(up19A.writeP 192 0 [1,2,3]).2
theorem up19_1:((aef 1024).doC 1 0 100 0 0 [])=(⟨0,192,0,[],St5.none⟩,up19A):=by
 rw[aqW];exact Prod.ext (by kernel_rfl) rfl
theorem avk:(up19A.doC 7 192 0 0 0 [1,2,3])=(Rp.err 0,up19B):=by
 rw[asw];exact Prod.ext (by kernel_rfl) rfl
theorem avl:up19B.blks= [⟨184,128,true⟩]/\up19B.cap=1024:=by
 constructor<;>kernel_rfl
theorem avm{out:List UInt8}(h:RtD out up19B):ofD out up19B.blks= [1::2::3::List.replicate 109 165]:=by
 rw[am6 h];kernel_rfl
theorem avn{out:List UInt8}{H:Hp}(h:RtD out H) (hb:H.blks= [⟨184,128,true⟩]) (hd:ofD out H.blks= [1::2::3::List.replicate 109 165]):H.doC 6 192 4 0 0 []=(⟨0,0,0,[1,2,3,165],St5.none⟩,H):=by
 obtain⟨d,e1,e2⟩:=avj h hb;rw[hd]at e2;have e3:1::2::3::List.replicate 109 165=d.2:=(List.cons.inj e2).1;rw[asv];unfold Hp.readP;rw[as5 hb,e1];dsimp only;rw[show([d].getD 0 acI)=d from rfl,<-e3];rfl
section
variable {B:Nat} {w w':World} {q g base cap c:Nat} {A:Option Addr} {bs:List UInt8} {H:Hp}
theorem Hv.do4_ (h:Hv B w q g base cap A c bs H) (hB:B<=w.heap.size) (hE:ET w) (h0:0<B) (op:Nat) (hop:op<9) (p n m a bl k:Nat) (V:Option Addr) (b:List UInt8) (hp:p<18446744073709551616) (hn:n<18446744073709551616) (hm:m<18446744073709551616) (ha:a<18446744073709551616) (hbl:b.length=bl) (hr:Rd w w.heap.size V b.length b) (hb6:bl<=1000000) (r:Rp × Hp) (hd:H.doC (op:Int) p n m a b=r):
 Calls Tryz.prog 20 #[.pointer (some ⟨q,0,none⟩),abB (op:Int) p n m a V bl k] w fun e w'=>adn r.1 w e w'/\∃A' c' bs',Hv B w' q g base cap A' c' bs' r.2/\Tch (foot g A) w w'/\Below B w w'/\(A'=A\/∀a,A'=some a->w.heap.size<=a.block):=by
 have hc:r.2.cap=cap:=by rw[<-hd];exact(auo hop).trans h.ph.cp
 refine(aun h.ph hE (fun hf=>absurd (h.fB hf) (by omega)) op hop p n m a bl k V b hp hn hm ha hbl hr hb6).mono ?_;rintro e w' ⟨h1,h2⟩;rw[hd]at h1 h2;obtain⟨A',c',bs',hv,t,h3⟩:=h.turn hB h2 hc;exact⟨h1,A',c',bs',hv,t,h.low hB t,h3⟩
theorem Hv.do_ (h:Hv B w q g base cap A c bs H) (hB:B<=w.heap.size) (hE:ET w) (h0:0<B) (op:Nat) (hop:op<9) (p n m a bl k:Nat) (V:Option Addr) (b:List UInt8) (hp:p<18446744073709551616) (hn:n<18446744073709551616) (hm:m<18446744073709551616) (ha:a<18446744073709551616) (hbl:b.length=bl) (hr:Rd w w.heap.size V b.length b) (hb6:bl<=1000000) (r:Rp × Hp) (hd:H.doC (op:Int) p n m a b=r):
 Calls Tryz.prog 20 #[.pointer (some ⟨q,0,none⟩),abB (op:Int) p n m a V bl k] w fun e w'=>adn r.1 w e w'/\∃A' c' bs',Hv B w' q g base cap A' c' bs' r.2/\Tch (foot g A) w w'/\Below B w w':=
 (h.do4_ hB hE h0 op hop p n m a bl k V b hp hn hm ha hbl hr hb6 r hd).mono fun _ _ ⟨h1,A',c',bs',h2,h3,h4,_⟩=>⟨h1,A',c',bs',h2,h3,h4⟩
end
theorem adM (w:World) (hE:ET w):
 Calls Tryz.prog 46 #[] w fun e w'=>e= .returned (.bool true)/\Below w.heap.size w w':=by
 have HDN:=hE0 (adA w 20 (by omega) (by omega));have HHN:=hE0 (fun W=>adl W 0 1024 (by omega) (by omega) (by omega) (by omega));have HE:=hE0 hE;have HE0:=hE0 hE.lt;clear hE;go_enter Tryz.func46,Tryz.ntmps46
 go_wp2_with fail
 refine HDN.out.mono ?_;rintro e w1 ⟨rfl,hdk,hb1⟩;have hds:=DS.made (N:=20) hdk (by rw[List.length_replicate]);obtain⟨gd,hgd⟩:=nmE (w.heap.size+1);obtain⟨S,hS⟩:=nmE (adz (fun _=>False) w w1);obtain⟨s0,hs0⟩:∃s0:Dst,(⟨List.replicate (20*512) 0,[],-1,false⟩:Dst)=s0:=⟨_,rfl⟩;rw[hgd,hS,hs0]at hds;rw[hgd];have HS:Hid (∀j,S j->w.heap.size<=j/\j<w1.heap.size):=fun j hj=>by
  rw[<-hS]at hj;exact hj.elim False.elim id
 have HDS:=hE0 hds;have HB1:=hE0 hb1;have HL0:Hid (ajn s0/\s0.wt= []/\s0.bs.length=10240/\aaE s0.bs s0.wt 10 0=afo/\aaE s0.bs s0.wt 10 1=afo/\s0.off=false/\s0.left= -1):=by
  subst hs0;exact⟨⟨rfl,by show(-1:Int)<0;decide⟩,rfl,List.length_replicate,abT _ _ _ (by omega),abT _ _ _ (by omega),rfl,rfl⟩
 have HE1:=hE0 (HE.out.below hb1);clear hdk hb1 hds hgd hS hs0 HDN;go_wp2_with fail
 refine(HHN.out w1).mono ?_;intro e w2 hm;obtain⟨q,g,A,c,bs,rfl,hv,hb2⟩:=hm.hv;have HB2:=hE0 (HB1.out.trans (hb2.mono HB1.out.size));have HD2:=hE0 (HDS.out.below hb2);have HV2:=hE0 hv;have HW2:=hE0 hb2.size;have HE2:=hE0 (HE1.out.below hb2);have HB1P:=hE0 HB1.out.size;obtain⟨dc,hdc⟩:=nmE ((aef 1024).doC ((1:Nat):Int) 0 100 0 0 []);have HD:=hv.do_ hb2.size (HE1.out.below hb2) (by have:=HE1.out.lt;omega) 1 (by omega) 0 100 0 0 0 0 none [] (by omega) (by omega) (by omega) (by omega) rfl (Rd.nil_) (by omega) dc hdc;have HQ:Hid ((⟨0,192,0,[],St5.none⟩,up19A)=dc):=by rw[<-hdc];exact up19_1.symm
 obtain⟨⟨ck1,ch1,cn1,cb1,⟨sa1,sb1,sc1,sd1,se1⟩⟩,H1⟩:=dc;unfold abB at HD;dsimp only at HD;obtain⟨cbl,hcbl⟩:=nmE cb1.length;have HCB:=hE0 hcbl;have HDO:=hE0 HD;clear HD hm hv hb2 HHN HDS HE1 hdc hcbl;go_wp2_with fail
 refine HDO.out.mono ?_;rintro e w3 ⟨⟨A3,k3,rfl,ho3⟩,A',c',bs',hv3,t3,b3⟩;unfold rpV ahu;dsimp only at hv3 ⊢;rw[HCB.out];obtain⟨e1,rfl⟩:=Prod.mk.inj HQ.out;injection e1 with q1 q2 q3 q4 q5;have HCH:Hid (ch1=192):=q2.symm;have hd3:=HD2.out.tch t3 fun j hj hf=>by have h1:=(HS.out j hj).2;have h2:=HV2.out.fB hf;omega
 obtain⟨w4,hw4,n4,b4⟩:=ag3 w3 50 (.int .i64 ck1) (.int .u64 (ch1:Int)) (.int .u64 (cn1:Int)) (.slice A3 cbl k3) (.int .i64 (sa1:Int)) (.int .i64 (sb1:Int)) (.int .i64 (sc1:Int)) (.int .i64 (sd1:Int)) (.int .i64 (se1:Int));obtain⟨⟨z0,z1,z2,z3,z4,z5,z6,z7,z8⟩,_,hz8⟩:=aeB n4.out;have HV4:=hv3.below b4.out;have hB3:=HB2.out.trans (b3.mono HB1P.out);have hB4:=hB3.trans (b4.out.mono hB3.size);obtain⟨y3,hy3⟩:∃y:List UInt8,[1,2,3]=y:=⟨_,rfl⟩;have hyl:y3.length=3:=by rw[<-hy3];rfl
 obtain⟨w5,hw5⟩:=nmE (w4.alloc (.cells #[.int .u8 1, .int .u8 2, .int .u8 3] 5));have b5:=abE hw5;have f5:Fill w5 w4.heap.size 5 y3:=by rw[<-hw5,<-hy3];exact Fill.made w4 5 [1,2,3]
 have hv5:=HV4.below b5;have hB5:=hB4.trans (b5.mono hB4.size);have hE5:=HE.out.below hB5;have hd2:=hv5.do_ (by have:=hB5.size;have:=b5.size;have:=b4.out.size;have:=t3.size;have:=HW2.out;omega) hE5 (by have:=HB1P.out;have:=HE0.out;omega) 7 (by omega) ch1 0 0 0 3 3 (some ⟨w4.heap.size,0,none⟩) y3 (by rw[HCH.out];omega) (by omega) (by omega) (by omega) hyl f5.reads (by omega) (Rp.err 0,up19B) (by rw[HCH.out,<-hy3];exact avk);unfold abB at hd2;have HDO2:=hE0 hd2;have H23:=hE0 t3.size;have HV5:=hE0 hv5;have HB5:=hE0 hB5;have HD5:=hE0 ((hd3.below b4.out).below b5);have N5:=hE0 ((b5.block _ (aaa n4.out)).trans n4.out);have H25:=hE0 (show w2.heap.size<=w5.heap.size from by have:=b5.size;have:=b4.out.size;have:=t3.size;omega);have HW5:=hE0 hw5;clear hv3 t3 b3 q1 q2 q3 q4 q5 hd3 HV4 hB3 hB4 hyl hw5 b5 f5 hv5 hB5 hE5 hd2 hy3 HDO HD2 HV2 ho3 HQ;go_wp2_with (first | (rw[hw4.out]) | (rw[HW5.out]) | fail)
 refine HDO2.out.mono ?_;rintro e w6 ⟨⟨A6,k6,rfl,_⟩,A'',c'',bs'',hv6,t6,b6⟩;have hd6:=HD5.out.tch t6 fun j hj hf=>by have h1:=(HS.out j hj).2;have h2:=HV5.out.fB hf;omega
 have n6:=HV5.out.ph.locO t6 N5.out (by decide) (by decide) (by decide);have HB6:=hE0 (HB5.out.trans (b6.mono HB1P.out));have HD6:=hE0 hd6;have N6:=hE0 n6;obtain⟨e1,e2⟩:=avl;obtain⟨o1,o2,o3⟩:=aqO hv6.ph.rd e1 (by rw[e2];omega);have od:=avm hv6.ph.rd;obtain⟨b,hb⟩:=nmE (aaH bs''.length (up19B.blks.map toR) (ofD bs'' up19B.blks));obtain⟨L,hL⟩:=nmE (up19B.blks.map toR);obtain⟨d,hd⟩:=nmE (ofD bs'' up19B.blks);have hLb:L.map toB= [⟨184,128,true⟩]:=by rw[<-hL,as0,e1]
 have hsv:=ahx HD6.out 10 (by omega) (by omega) (by omega) HL0.out.2.2.2.2.2.1 (by rw[HL0.out.2.1];exact Nat.zero_le _) (by rw[HL0.out.2.2.2.2.2.2];omega) afo afo HL0.out.2.2.2.1 HL0.out.2.2.2.2.1 hv6.ph _ rfl;rw[hb]at hsv o3;rw[hL,hd]at hb o2;rw[hd]at od;rw[o1]at hb;have hsp:afK afo afo 10 b s0=abb (0*10) b (abx 1 b.length (abd 0 b)) s0:=by
  unfold afK;rw[if_neg (by show ¬(512*(10-1)<b.length\/4611686018427387904<=max 0 0);omega)];rfl
 rw[hsp]at hsv;obtain⟨s1,hs1⟩:=nmE (abb (0*10) b (abx 1 b.length (abd 0 b)) s0);obtain⟨l1,l2,l3,l4,l5,l6,l7⟩:=HL0.out;obtain⟨v1,v2,v3⟩:=afL l1 (0*10) b (abx 1 b.length (abd 0 b));have hx:=afM l1 l2 10 0 1 (184+128) L d o2 b hb (by omega) (by omega) (by omega) (by omega) (by omega);have hy:=aeQ l1 l2 10 0 1 b (abx 1 b.length (abd 0 b)) (acQ _ _ _) (by omega) (by omega) (by omega) (by omega);rw[l2]at l5;rw[hs1]at hsv v1 v2 v3 hx hy;rw[l5]at hy;have HSV:=hE0 hsv;have HV:Hid (s1.1=0/\s1.2.wt= []/\s1.2.off=false/\aaE s1.2.bs s1.2.wt 10 0=⟨1,b.length,abd 0 b,true,184+128,L,d⟩/\aaE s1.2.bs s1.2.wt 10 1=afo):=⟨v1,v3,v2.1,by rw[v3];exact hx,by rw[v3];exact hy⟩;have HLB:=hE0 hLb;have HMM:=hE0 o2;have HOD:=hE0 od;have H26:=hE0 (show w2.heap.size<=w6.heap.size from by have:=t6.size;have:=H25.out;omega);have HL6:=hE0 (aaa n6);have HL64:=hE0 (show w1.heap.size<=w3.heap.size from Nat.le_trans HW2.out H23.out);clear hv6 t6 b6 hd6 n6 e1 e2 o1 o2 o3 od hb hL hd hLb hsv hsp l1 l2 l3 l4 l5 l6 l7 v1 v2 v3 hx hy hs1 HDO2 HV5 HD5 N5 z0 z1 z2 z3 z4 z5 z6 z7 z8 HB5;go_wp2_with fail
 refine HSV.out.mono ?_;rintro e w7 ⟨rfl,hd7,t7⟩;have HB7:=hE0 (HB6.out.trans (t7.below (fun k hk=>(HS.out k hk).1) HB6.out.size));have n7:=(t7.block _ HL6.out (fun hs=>by have:=(HS.out _ hs).2;have:=HL64.out;omega)).trans N6.out;have N7:=hE0 n7;have HLD2:Hid (Calls Tryz.prog 30 #[.pointer (some ⟨gd,0,none⟩), .int .u64 4096, .int .i64 4096] w7 fun e w'=>Below w7.heap.size w7 w'/\∃out H q g A c,e= .returned (.tuple #[.pointer (some ⟨q,0,none⟩), .nilIface])/\Hv w7.heap.size w' q g 4096 4096 A c out H/\H.blks= [⟨184,128,true⟩]/\ofD out H.blks= [1::2::3::List.replicate 109 165]):=by
  obtain⟨h1,h2,h3,h4,h5⟩:=HV.out;refine(aht hd7 10 (by omega) (by omega) (by omega) h3 _ afo h4 h5 4096 (by omega) 4096 (by omega) (0,184+128,L,d) rfl).mono ?_;rintro e w' ⟨hb,h⟩;rw[if_pos rfl]at h;obtain⟨out,H,q,g,A,c,hl,rfl,hp,q1,q2,q3⟩:=h;obtain⟨_,_,_,_,_,hw,_,hof,_⟩:=ahv HMM.out hl;have e1:H.blks= [⟨184,128,true⟩]:=by
   have:=hp.rd.rt.walk;rw[hw,HLB.out]at this;injection this with this;exact this.symm
  refine⟨hb,out,H,q,g,A,c,rfl,⟨hp,q1,q2,q3⟩,e1,?_⟩;rw[e1,<-HLB.out,hof];exact HOD.out
 rw[HV.out.1];rw[show ahA 0= .nilIface from rfl];clear hd7 t7 n7 HSV N6 HB6 HD6;go_wp2_with fail
 refine HLD2.out.mono ?_;rintro e w8 ⟨hb8,out8,H8,q8,g8,A8,c8,rfl,hv8,e8,d8⟩;obtain⟨⟨z0,z1,z2,z3,z4,z5,z6,z7,z8⟩,_,hz8⟩:=aeB ((hb8.block _ (aaa N7.out)).trans N7.out);have HB8:=hE0 (HB7.out.trans (hb8.mono HB7.out.size));have HP7:=hE0 (show 0<w7.heap.size from Nat.lt_of_lt_of_le HE0.out HB7.out.size);obtain⟨y4,hy4⟩:∃y:List UInt8,[1,2,3,165]=y:=⟨_,rfl⟩;have hyl:y4.length=4:=by rw[<-hy4];rfl
 have hr6:=avn hv8.ph.rd e8 d8;rw[hy4]at hr6;obtain⟨dc,hdc⟩:=nmE (H8.doC ((6:Nat):Int) ch1 4 0 0 []);have HD:=avh hv8.ph (HE.out.below HB8.out) (fun hf=>by have h1:=hv8.fB hf;have h2:=HP7.out;omega) ch1 4 0 0 0 0 none [] (by rw[HCH.out];omega) (by omega) (by omega);have hdc':H8.doC 6 ch1 4 0 0 []=dc:=hdc;rw[hdc']at HD;have HQ:Hid ((⟨0,0,0,y4,St5.none⟩,H8)=dc):=by rw[<-hdc,HCH.out];exact hr6.symm
 obtain⟨⟨ck3,ch3,cn3,cb3,⟨sa3,sb3,sc3,sd3,se3⟩⟩,H3⟩:=dc;unfold abB at HD;dsimp only at HD;obtain⟨e1,e2⟩:=Prod.mk.inj HQ.out;injection e1 with q1 q2 q3 q4 q5;subst e2 q4 q1;clear q2 q3 q5 hdc';have HDO:=hE0 HD;have HYL:=hE0 hyl;have HY4:=hE0 hy4;have HE8:=hE0 e8;have HV8:=hE0 hv8;have N8:=hE0 ((hb8.block _ (aaa N7.out)).trans N7.out);have HW78:=hE0 hb8.size;have H07:=hE0 HB7.out.size;clear hb8 hv8 e8 d8 hyl hr6 hdc HD HQ HLD2 N7 hy4;go_wp2_with fail
 refine HDO.out.mono ?_;rintro e w9 ⟨⟨A9,k9,rfl,ho9⟩,_,b9⟩;have hv9:=HV8.out.below b9;unfold rpV ahu;dsimp only at ho9 ⊢;rw[HYL.out]at ho9 ⊢;clear z0 z1 z2 z3 z4 z5 z6 z7 z8 hz8;obtain⟨w10,hw10,n10,b10⟩:=ag3 w9 50 (.int .i64 0) (.int .u64 (ch3:Int)) (.int .u64 (cn3:Int)) (.slice A9 4 k9) (.int .i64 (sa3:Int)) (.int .i64 (sb3:Int)) (.int .i64 (sc3:Int)) (.int .i64 (sd3:Int)) (.int .i64 (se3:Int));have hB9:=HB8.out.trans (b9.mono HB8.out.size);have hB10:=hB9.trans (b10.out.mono hB9.size);have m9:=(b9.block _ (aaa N8.out)).trans N8.out;have M10:=hE0 ((b10.out.block _ (aaa m9)).trans m9);obtain⟨⟨z0,z1,z2,z3,z4,z5,z6,z7,z8⟩,_,hz8⟩:=aeB M10.out;have hv10:=hv9.below b10.out;have ho10:=aav ho9 b10.out;have h3:H8.doC ((3:Nat):Int) ch1 0 0 0 []=(Rp.err 0,H8.give 0):=by
  rw[HCH.out];have e:H8.doC ((3:Nat):Int) 192 0 0 0 []=_:=asu (H:=H8) 192 0 0 0 [];rw[e];unfold Hp.freeP;rw[as5 HE8.out]
 have hnf:∀j,(Value.slice A9 4 k9).ownBlock=some j->w8.heap.size<=j/\j<w10.heap.size:=fun j e=>⟨(ho9.lt j e).1,(ho10.lt j e).2⟩;have HNF:=hE0 (fun j (e:(Value.slice A9 4 k9).ownBlock=some j)=>(⟨fun hf=>by have h1:=HV8.out.ph.ar.foot_lt hf;have h2:=(hnf j e).1;omega,(hnf j e).2⟩:¬foot g8 A8 j/\j<w10.heap.size));have HD:=hv10.do4_ (by have:=b10.out.size;have:=b9.size;have:=HW78.out;omega) (HE.out.below hB10) HP7.out 3 (by omega) ch1 0 0 0 0 0 none [] (by rw[HCH.out];omega) (by omega) (by omega) (by omega) rfl (Rd.nil_) (by omega) _ h3;unfold abB at HD;have HDO3:=hE0 HD;have HB10:=hE0 hB10;have HV10:=hE0 hv10;have HO10:=hE0 ho10;have HB10S:=hE0 (show w7.heap.size<=w10.heap.size from by have:=b10.out.size;have:=b9.size;have:=HW78.out;omega);clear hv9 b9 ho9 hB9 hB10 m9 hv10 ho10 hnf h3 HD HDO HV8 N8 HB8;go_wp2_with (first | (rw[hw10.out]) | fail)
 refine HDO3.out.mono ?_;rintro e w11 ⟨⟨A11,k11,rfl,_⟩,Ab,c',bs',hv11,t11,b11,hA11⟩;unfold rpV ahu Rp.err St5.none;dsimp only;clear z0 z1 z2 z3 z4 z5 z6 z7 z8 hz8;obtain⟨w12,hw12,n12,b12⟩:=ag3 w11 50 (.int .i64 0) (.int .u64 0) (.int .u64 0) (.slice A11 0 k11) (.int .i64 0) (.int .i64 0) (.int .i64 0) (.int .i64 0) (.int .i64 0);have hB11:=HB10.out.trans (b11.mono H07.out);have hB12:=hB11.trans (b12.out.mono hB11.size);have m11:=HV10.out.ph.locO t11 n10.out (by decide) (by decide) (by decide);have M12:=hE0 ((b12.out.block _ (aaa m11)).trans m11);have hv12:=hv11.below b12.out;have ho12:=aav (acc HO10.out fun j e=>t11.block j (HNF.out j e).2 (HNF.out j e).1) b12.out;have hnf2:∀j,(Value.slice A9 4 k9).ownBlock=some j->¬foot g8 Ab j:=fun j e hf=>by
  rcases hA11 with rfl | hA
  · exact(HNF.out j e).1 hf
  · rcases hf with hf | ⟨a,ea,rfl⟩
    · exact(HNF.out j e).1 (.inl hf)
    · have h1:=hA a ea;have h2:=(HNF.out _ e).2;omega
 have hb9:=asA HE8.out;have hend:anS (H8.give 0).blks=184:=by rw[hb9.1];rfl
 have hgc:(H8.give 0).cap=4096:=hv12.ph.cp;have h5:=avi hv12.ph.rd 165 (show acU 3880=some 3904 from rfl) (show aaB ((3904:Nat):Int)=true from by decide) (by rw[hend,hgc];omega);obtain⟨dc,hdc⟩:=nmE ((H8.give 0).doC ((1:Nat):Int) 0 3880 0 0 []);have hk5:dc.1.code=0:=by
  rw[<-hdc];have e:(H8.give 0).doC ((1:Nat):Int) 0 3880 0 0 []=_:=aqW (H:=H8.give 0) 0 3880 0 0 [];rw[e];exact h5
 have HD:=hv12.do_ (by have:=b12.out.size;have:=t11.size;have:=HB10S.out;omega) (HE.out.below hB12) HP7.out 1 (by omega) 0 3880 0 0 0 0 none [] (by omega) (by omega) (by omega) (by omega) rfl (Rd.nil_) (by omega) dc hdc;obtain⟨⟨ck5,ch5,cn5,cb5,⟨sa5,sb5,sc5,sd5,se5⟩⟩,H5⟩:=dc;unfold abB at HD;dsimp only at HD hk5;subst hk5;obtain⟨cbm,hcbm⟩:=nmE cb5.length;have HCM:=hE0 hcbm;have HDO5:=hE0 HD;have HV12:=hE0 hv12;have HO12:=hE0 ho12;have HB12:=hE0 hB12;have HNF2:Hid (∀j,(Value.slice A9 4 k9).ownBlock=some j->¬foot g8 Ab j):=hnf2;have N12:=hE0 n12.out;clear hv11 t11 b11 hA11 hB11 hB12 m11 hv12 ho12 hnf2 hb9 hend hgc h5 hdc HD hcbm HDO3 HV10 HO10 HB10;go_wp2_with (first | (rw[hw12.out]) | fail)
 refine HDO5.out.mono ?_;rintro e w13 ⟨⟨A13,k13,rfl,_⟩,A',c',bs',hv13,t13,b13⟩;unfold rpV ahu;dsimp only;rw[HCM.out];obtain⟨w14,hw14,n14,b14⟩:=ag3 w13 50 (.int .i64 0) (.int .u64 (ch5:Int)) (.int .u64 (cn5:Int)) (.slice A13 cbm k13) (.int .i64 (sa5:Int)) (.int .i64 (sb5:Int)) (.int .i64 (sc5:Int)) (.int .i64 (sd5:Int)) (.int .i64 (se5:Int));have hB13:=HB12.out.trans (b13.mono H07.out);have HB14:=hE0 (hB13.trans (b14.out.mono hB13.size));have m13:=HV12.out.ph.locO t13 M12.out (by decide) (by decide) (by decide);have m14:=(b14.out.block _ (aaa m13)).trans m13;have l13:=HV12.out.ph.locO t13 N12.out (by decide) (by decide) (by decide);have l14:=(b14.out.block _ (aaa l13)).trans l13;have ho14:=aav (acc HO12.out fun j e=>t13.block j (HO12.out.lt j e).2 (HNF2.out j e)) b14.out;obtain⟨w15,hw15⟩:=nmE (w14.alloc (.cells #[.int .u8 1, .int .u8 2, .int .u8 3, .int .u8 165] 5));have b15:=abE hw15;have f15:Fill w15 w14.heap.size 5 y4:=by rw[<-hw15,<-HY4.out];exact Fill.made w14 5 [1,2,3,165]
 have r15:=f15.reads;rw[HYL.out]at r15;obtain⟨S9,hS9⟩:=nmE (amp y4);have q1:(convert 37 9 (.slice A9 4 k9)).run Tryz.prog w14= .ok (.string S9) w14:=by rw[<-hS9];exact acg (ab8 ho14)
 have q2:(convert 37 9 (.slice (some ⟨w14.heap.size,0,none⟩) 4 4)).run Tryz.prog w15= .ok (.string S9) w15:=by rw[<-hS9];exact acg r15
 obtain⟨⟨z0,z1,z2,z3,z4,z5,z6,z7,z8⟩,_,hz8⟩:=aeB m14;obtain⟨⟨u0,u1,u2,u3,u4,u5,u6,u7,u8⟩,_,hu8⟩:=aeB ((b15.block _ (aaa l14)).trans l14);obtain⟨⟨x0,x1,x2,x3,x4,x5,x6,x7,x8⟩,_,hx8⟩:=aeB ((b15.block _ (aaa n14.out)).trans n14.out);have HB15:=hE0 (HB14.out.trans (b15.mono HB14.out.size));have HW15:=hE0 hw15;clear hv13 t13 b13 hB13 m13 m14 l13 l14 ho14 hw15 b15 f15 r15 hS9 HDO5 HV12 HO12 HB12;go_wp2_with (first | (rw[hw14.out]) | (rw[HW15.out]) | fail)
 go_ret
 exact⟨rfl,HB15.out⟩
end Go.Proofs.YtncadccbepjekaaGreatDoor
