/- Texts of mine, joined. -/
import Derived.Test.YthnfclimjmmckaaGreatDoorM11
set_option maxRecDepth 100000
set_option maxHeartbeats 8000000
namespace Go.Proofs.YthnfclimjmmckaaGreatDoor
open Go.RowKit
theorem akV{n:Int}{l:List Rk}{d:List (List UInt8)}{out:List UInt8}(h:acG n l d=true) (ho:aiL n l d=some out):∃N:Nat,n=(N:Int)/\184<=N/\N<=16384/\aci out=true/\abJ out=some (l.map toB)/\out.length=N/\ofD out (l.map toB)=d/\l=(l.map toB).map toR:=by
 have hlo:ab3 n=true:=by unfold acG at h;rw[Bool.and_eq_true]at h;exact h.1
 have hlB:=(aaN n).1 hlo;obtain⟨N,rfl⟩:∃N:Nat,n=(N:Int):=⟨n.toNat,by omega⟩;have hrow:abe (N:Int) 184 false l=true:=by unfold acG at h;simp only[Bool.and_eq_true]at h;exact h.2.1
 obtain⟨out',_,_,hre,h1,h2,h3,h4⟩:=afJ h;unfold aiL at ho;rw[Int.toNat_natCast,hre]at ho;injection ho with ho;subst ho;exact⟨N,rfl,by omega,by omega,h1,h2,h3,h4,(afg (o:=184) hrow).2.1⟩
theorem alU{cap n s:Nat}{x:UInt8}(hs:ab1 n=some s) (hr:184+s<=cap):((aaX cap).get n x).2.blks= [⟨184,s,true⟩]/\((aaX cap).get n x).2.cap=cap:=by
 rw[aiH (i:=0) hs (congrArg Prod.fst (acx hr)) (by rw[acx hr];rfl),acx hr];exact⟨rfl,rfl⟩
theorem am3{out:List UInt8}{H:Hp}(h:RtD out H){s:Nat}(hb:H.blks= [⟨184,s,true⟩]):H.usableP 192=(s-16,0):=by
 have hh:H.handleB 192=some 0:=by
  unfold Hp.handleB aeA;rw[hb];rfl
 have hl:=h.dl;unfold Hp.Dl at hl;rw[hb]at hl;obtain⟨d,hd⟩:∃d,H.ds[0]?=some d:=⟨H.ds[0]'(by rw[hl];exact Nat.zero_lt_one),List.getElem?_eq_getElem _⟩;have h1:=(h.ho 0 ⟨184,s,true⟩ d ⟨by rw[hb];rfl,hd⟩ rfl).1;have hg:H.ds.getD 0 acB=d:=by rw[List.getD_eq_getElem?_getD,hd];rfl
 unfold Hp.usableP;rw[hh];dsimp only at h1 ⊢;rw[hg];exact Prod.ext (by show d.2.length=s-16;omega) rfl
theorem atz (x:Bk):toB (toR x)=x:=by
 unfold toB toR;simp
theorem asZ (l:List Bk):(l.map toR).map toB=l:=by
 rw[List.map_map];exact(List.map_congr_left fun x _=>atz x).trans (List.map_id l)
theorem ajS{out:List UInt8}{H:Hp}(h:RtD out H){s:Nat}(hb:H.blks= [⟨184,s,true⟩]) (hc:H.cap<=16384):out.length=184+s/\acG ((184+s:Nat):Int) (H.blks.map toR) (ofD out H.blks)=true/\(aaM out.length (H.blks.map toR) (ofD out H.blks)).length<=48+s:=by
 have hl:=h.rt.lenE;have hle:=h.rt.bound hc;rw[hb]at hl;have hl:out.length=184+s:=by
  rw[<-hl];unfold acz;simp[adx]
 have hm:=ajK h.rt.walk hle.1 h.rt.nfree.2.1;refine⟨hl,by rw[<-hl];exact hm,?_⟩;unfold acG at hm;simp only[Bool.and_eq_true]at hm;have hf:=af3 hm.2.1 hm.2.2;rw[aev,List.length_map,hb];rw[hb]at hf;simp only[List.length_cons,List.length_nil];omega
theorem alV (w:World):
 Calls Tryz.prog 5 #[] w fun e w'=>e= .returned (.bool true)/\Below w.heap.size w w':=by
 obtain⟨z,hz⟩:=nmE (List.replicate 184 (0:UInt8));have HDN:=hE0 (apL w 8 (by omega) (by omega));have HHN:=hE0 (fun W=>aoN W z hz 0 1024 (by omega) (by omega) (by omega) (by omega));have HZ:=hE0 hz;clear hz;go_enter Tryz.func5,Tryz.ntmps5
 go_wp2_with fail
 refine HDN.out.mono ?_;rintro e w1 ⟨rfl,hdk,hb1⟩;have hds:=DS.made (N:=8) hdk (by rw[List.length_replicate]);obtain⟨gd,hgd⟩:=nmE (w.heap.size+1);obtain⟨S,hS⟩:=nmE (abj (fun _=>False) w w1);obtain⟨s0,hs0⟩:∃s0:Dst,(⟨List.replicate (8*512) 0,[],-1,false⟩:Dst)=s0:=⟨_,rfl⟩;rw[hgd,hS,hs0]at hds;rw[hgd];have HS:Hid (∀j,S j->w.heap.size<=j/\j<w1.heap.size):=fun j hj=>by
  rw[<-hS]at hj;exact hj.elim False.elim id
 have HDS:=hE0 hds;have HB1:=hE0 hb1;have HL0:Hid (ag1 s0/\s0.wt= []/\s0.bs.length=4096/\abw s0.bs s0.wt 4 0=alu/\abw s0.bs s0.wt 4 1=alu/\s0.off=false/\s0.left= -1):=by
  subst hs0;exact⟨⟨rfl,by show(-1:Int)<0;decide⟩,rfl,List.length_replicate,agZ _ _ _ (by omega),agZ _ _ _ (by omega),rfl,rfl⟩
 clear hdk hb1 hds hgd hS hs0 HDN;go_wp2_with fail
 refine(HHN.out w1).mono ?_;rintro e w2 ⟨q,g,A,c,rfl,hp,hb2,hq,hg,hA⟩;have HB2:=hE0 (HB1.out.trans (hb2.mono HB1.out.size));have HD2:=hE0 (HDS.out.below hb2);have HP2:=hE0 hp;have HSZ:=hE0 hb2.size;have HFR:Hid (∀j,foot g A j->w1.heap.size<=j):=fun j hj=>by
  rcases hj with rfl | ⟨a,ea,rfl⟩
  · exact hg
  · exact hA a ea
 clear hp hb2 hq hg hA HHN;have HLD:Hid (Calls Tryz.prog 24 #[.pointer (some ⟨gd,0,none⟩), .int .u64 0, .int .i64 1024] w2 fun e w'=>Below w2.heap.size w2 w'/\e= .returned (.tuple #[.pointer none, .iface 90 (.int .i64 8)])):=by
  obtain⟨h1,h2,h3,h4,h5,h6,h7⟩:=HL0.out;refine(agY HD2.out 4 (by omega) (by omega) (by omega) h6 alu alu h4 h5 0 (by omega) 1024 (by omega) (8,0,[],[]) rfl).mono ?_;rintro e w' ⟨hb,h⟩;rw[if_neg (by decide)]at h;exact⟨hb,h⟩
 go_wp2_with fail
 refine HLD.out.mono ?_;rintro e w3 ⟨hb3,rfl⟩;have HB3:=hE0 (HB2.out.trans (hb3.mono HB2.out.size));have HD3:=hE0 (HD2.out.below hb3);have HP3:=hE0 (HP2.out.below hb3);have h23:=hb3.size;have HML:=hE0 (afS HP3.out HZ.out 9 32 (by omega) rfl (by omega));unfold akL at HML;rw[alJ 9 32 rfl (by omega)]at HML;clear hb3 HLD;go_wp2_with fail
 refine HML.out.mono ?_;rintro e w4 ⟨rfl,ht⟩;obtain⟨e1,e2⟩:=alU (cap:=1024) (n:=9) (s:=32) (x:=165) rfl (by omega);obtain⟨H,hH⟩:=nmE (((aaX 1024).get 9 165).2);rw[hH]at ht e1 e2;obtain⟨A4,c4,out,hp4,t4,_⟩:=ht.ph HP3.out e2;have hsz:w1.heap.size<=w3.heap.size:=Nat.le_trans HSZ.out h23;have b4:Below w1.heap.size w3 w4:=t4.below HFR.out hsz;have HB4:=hE0 (HB3.out.trans (b4.mono HB1.out.size));have HD4:=hE0 (HD3.out.tch t4 fun j hj hf=>by have:=(HS.out j hj).2;have:=HFR.out j hf;omega);obtain⟨o1,o2,o3⟩:=ajS hp4.rd e1 (by rw[e2];omega);obtain⟨b,hb⟩:=nmE (aaM out.length (H.blks.map toR) (ofD out H.blks));obtain⟨L,hL⟩:=nmE (H.blks.map toR);obtain⟨d,hd⟩:=nmE (ofD out H.blks);have hLb:L.map toB= [⟨184,32,true⟩]:=by rw[<-hL,asZ,e1]
 have hsv:=ajQ HD4.out 4 (by omega) (by omega) (by omega) HL0.out.2.2.2.2.2.1 (by rw[HL0.out.2.1];exact Nat.zero_le _) (by rw[HL0.out.2.2.2.2.2.2];omega) alu alu HL0.out.2.2.2.1 HL0.out.2.2.2.2.1 hp4 _ rfl;rw[hb]at hsv o3;rw[hL,hd]at hb o2;rw[o1]at hb;have hsp:afW alu alu 4 b s0=adO (0*4) b (abA 1 b.length (abn 0 b)) s0:=by
  unfold afW;rw[if_neg (by show ¬(512*(4-1)<b.length\/4611686018427387904<=max 0 0);omega)];rfl
 rw[hsp]at hsv;obtain⟨s1,hs1⟩:=nmE (adO (0*4) b (abA 1 b.length (abn 0 b)) s0);obtain⟨l1,l2,l3,l4,l5,l6,l7⟩:=HL0.out;obtain⟨v1,v2,v3⟩:=ahP l1 (0*4) b (abA 1 b.length (abn 0 b));have hx:=am2 l1 l2 4 0 1 (184+32) L d o2 b hb (by omega) (by omega) (by omega) (by omega) (by omega);have hy:=akT l1 l2 4 0 1 b (abA 1 b.length (abn 0 b)) (aea _ _ _) (by omega) (by omega) (by omega) (by omega);rw[l2]at l5;rw[hs1]at hsv v1 v2 v3 hx hy;rw[l5]at hy;have HSV:=hE0 hsv;have HV:Hid (s1.1=0/\s1.2.wt= []/\s1.2.off=false/\abw s1.2.bs s1.2.wt 4 0=⟨1,b.length,abn 0 b,true,184+32,L,d⟩/\abw s1.2.bs s1.2.wt 4 1=alu):=⟨v1,v3,v2.1,by rw[v3];exact hx,by rw[v3];exact hy⟩;have HLB:=hE0 hLb;have HMM:=hE0 o2;clear ht t4 hp4 b4 e1 e2 hH o1 o2 o3 hb hL hd hLb hsv hsp l1 l2 l3 l4 l5 l6 l7 v1 v2 v3 hx hy hs1 HP3 HD3 HML;go_wp2_with fail
 refine HSV.out.mono ?_;rintro e w5 ⟨rfl,hd5,t5⟩;have HB5:=hE0 (HB4.out.trans (t5.below (fun k hk=>(HS.out k hk).1) HB4.out.size));have HLD2:Hid (Calls Tryz.prog 24 #[.pointer (some ⟨gd,0,none⟩), .int .u64 64, .int .i64 2048] w5 fun e w'=>Below w5.heap.size w5 w'/\∃out H q g A c,e= .returned (.tuple #[.pointer (some ⟨q,0,none⟩), .nilIface])/\PH w' q g 64 2048 A c out H/\H.blks= [⟨184,32,true⟩]):=by
  obtain⟨h1,h2,h3,h4,h5⟩:=HV.out;refine(agY hd5 4 (by omega) (by omega) (by omega) h3 _ alu h4 h5 64 (by omega) 2048 (by omega) (0,184+32,L,d) rfl).mono ?_;rintro e w' ⟨hb,h⟩;rw[if_pos rfl]at h;obtain⟨out,H,q,g,A,c,hl,rfl,hp,_⟩:=h;obtain⟨_,_,_,_,_,hw,_⟩:=akV HMM.out hl;refine⟨hb,out,H,q,g,A,c,rfl,hp,?_⟩;have:=hp.rd.rt.walk;rw[hw,HLB.out]at this;injection this with this;exact this.symm
 rw[HV.out.1];rw[show ag8 0= .nilIface from rfl];clear hd5 t5 HSV;go_wp2_with fail
 refine HLD2.out.mono ?_;rintro e w6 ⟨hb6,out6,H6,q6,g6,A6,c6,rfl,hp6,e6⟩;have HB6:=hE0 (HB5.out.trans (hb6.mono HB5.out.size));have HUS:=hE0 (ajG hp6 192 (by omega));rw[am3 hp6.rd e6]at HUS;clear hb6 hp6 e6 HLD2;rw[show asT 0= .nilIface from rfl];go_wp2_with fail
 refine HUS.out.mono ?_;rintro e w7 ⟨rfl,hb7⟩;have HB7:=hE0 (HB6.out.trans (hb7.mono HB6.out.size));clear hb7 HUS;rw[show asT 0= .nilIface from rfl];go_wp2_with fail
 refine(ahn w7 8 (by omega) (by omega)).mono ?_;rintro e w8 ⟨rfl,rfl⟩;go_wp2
 go_ret
 exact⟨rfl,HB7.out⟩
theorem aqV (w:World) (cap:Nat):
 Calls Tryz.prog 10 #[.int .i64 (cap:Int)] w fun e w'=>∃p,e= .returned (.pointer (some ⟨p,0,none⟩))/\(∃gl cs,Hm (fun k=>w.heap.size<=k) w' p ⟨cap,[],[],fun _=> []⟩ (.slice none 0 0) (.slice none 0 0) gl cs)/\Below w.heap.size w w':=by
 obtain⟨c22,h22⟩:∃c22:List Value,List.replicate 22 (Value.slice none 0 0)=c22:=⟨_,rfl⟩;obtain⟨wg,hwg⟩:=nmE (w.alloc (.cells c22.toArray 23));obtain⟨wo,hwo⟩:=nmE (wg.alloc (.cells #[.int .i64 (cap:Int), .slice none 0 0, .slice none 0 0, .slice (some ⟨w.heap.size,0,none⟩) 22 22] 96));have b1:=abE hwg;have b2:=abE hwo;have n1:=anE hwg;have n2:=anE hwo;have hm:∃gl cs,Hm (fun k=>w.heap.size<=k) wo wg.heap.size ⟨cap,[],[],fun _=> []⟩ (.slice none 0 0) (.slice none 0 0) gl cs:=by
  refine⟨w.heap.size,c22,n2,World.ownsRow_nil _ _ _ _,World.ownsRow_nil _ _ _ _,(b2.block _ (aan n1)).trans n1,by rw[<-h22];exact List.length_replicate,fun d hd=>⟨.slice none 0 0,?_,World.ownsRow_nil _ _ _ _⟩,b1.size,Nat.le_refl _,fun k e=>(by cases e),fun k e=>(by cases e),fun d v k hd hv e=> ?_,fun d hd=>(by cases hd)⟩
  · rw[<-h22,List.getElem?_replicate,if_pos hd]
  · rw[<-h22,List.getElem?_replicate,if_pos hd]at hv;injection hv with hv;subst hv
    cases e
 have HM0:=hE0 hm;have HB0:=hE0 (b1.trans (b2.mono b1.size));have HMS:∀W:World,(Instr.makeSlice 94 (.int .i64 22) (.int .i64 22)).run Tryz.prog W= .ok (.slice (some ⟨W.heap.size,0,none⟩) 22 22) (W.alloc (.cells c22.toArray 23)):=fun W=>by rw[<-h22];exact aon W
 have HWG:=hE0 hwg;have HWO:=hE0 hwo;have HGI:Hid (wg.heap.size=w.heap.size+1):=(show _=_ by rw[<-hwg];simp);clear h22 hwg hwo b1 b2 n1 n2 hm;go_enter Tryz.func10,Tryz.ntmps10
 go_wp2_with (first | (rw[HWG.out]) | (rw[HWO.out]) | fail)
 go_ret
 exact⟨wg.heap.size,by first | rfl | rw[HGI.out],HM0.out,HB0.out⟩
structure Nh (W0 W:World) (B p gl cap:Nat) (Vb Vd:Value) (l:List Bk) (vs:List Value):Prop where
 obj:W.heap[p]?=some (.cells #[.int .i64 (cap:Int),Vb,Vd, .slice (some ⟨gl,0,none⟩) 22 22] 96 (0,0))
 ob:W.ownsRow B 132 3 Vb l.length (aaD l)
 od:W.ownsRow B 37 1 Vd vs.length vs
 kp:∀k,k<B->k≠p->W.heap[k]?=W0.heap[k]?
 bl:∀n,n<=p->n<B->Below n W0 W
 sz:B<=W.heap.size
 pB:p<B
 sl:∀v∈vs,∃A n c,v=Value.slice A n c
section
variable {W0 W W':World} {B p gl cap:Nat} {Vb Vd:Value} {l:List Bk} {vs:List Value}
theorem Nh.full (h:Nh W0 W B p gl cap Vb Vd l vs) (hb:Below W.heap.size W W'):Nh W0 W' B p gl cap Vb Vd l vs:=
 ⟨(hb.block _ (Nat.lt_of_lt_of_le h.pB h.sz)).trans h.obj,aa6 h.ob hb,aa6 h.od hb,fun k hk hp=>(hb.block _ (Nat.lt_of_lt_of_le hk h.sz)).trans (h.kp k hk hp),fun n h1 h2=>(h.bl n h1 h2).trans (hb.mono (Nat.le_trans (Nat.le_of_lt h2) h.sz)),Nat.le_trans h.sz hb.size,h.pB,h.sl⟩
theorem Nh.cell (h:Nh W0 W B p gl cap Vb Vd l vs){k i:Nat}{v:Value}(hk:k<B) (hp:k≠p) (hc:W0.cell? ⟨k,i,none⟩=some v):W.cell? ⟨k,i,none⟩=some v:=(World.cell?_of_block (w:=W0) (w':=W) (a:=⟨k,i,none⟩) (h.kp k hk hp)).trans hc
theorem Nh.cellB (h:Nh W0 W B p gl cap Vb Vd l vs):W.cell? ⟨p,1,none⟩=some Vb:=by rw[cell_of_row W p 1 _ _ (0,0) h.obj];rfl
theorem Nh.cellD (h:Nh W0 W B p gl cap Vb Vd l vs):W.cell? ⟨p,2,none⟩=some Vd:=by rw[cell_of_row W p 2 _ _ (0,0) h.obj];rfl
theorem Nh.pl (h:Nh W0 W B p gl cap Vb Vd l vs):p<W.heap.size:=Nat.lt_of_lt_of_le h.pB h.sz
theorem alW{w:World}{B n size:Nat}{t:TypeId}{v v':Value}{xs:List Value}{p i:Nat}(h:w.ownsRow B t size v n xs) (hp:p<B):(w.setCell ⟨p,i,none⟩ v').ownsRow B t size v n xs:=aaP h fun k hk=>amK w p i v' k (by have:=abS h k hk;omega)
theorem Nh.setB (h:Nh W0 W B p gl cap Vb Vd l vs){V':Value}{x:Bk}(gr:W.grownBy W' Vb.ownBlock) (own:W'.ownsRow B 132 3 V' (l.length+1) (aaD l++ [.int .i64 (x.off:Int), .int .i64 (x.size:Int), .bool x.used])) (hrow:∀k,Vb.ownBlock=some k->∃cs fz,W.heap[k]?=some (.cells cs 132 fz)):
 Nh W0 (W'.setCell ⟨p,1,none⟩ V') B p gl cap V' Vd (l++ [x]) vs:=by
 have hge:∀k,Vb.ownBlock=some k->B<=k:=abS h.ob;have bw:Below B W W':=(Below.refl _ _).grown gr h.sz hge;have hd:W'.ownsRow B 37 1 Vd vs.length vs:=aa0 h.od gr fun k hk hrk=>by
  obtain⟨cs,fz,e⟩:=hrow k hrk;exact abi h.od hk e (by decide)
 have hk:=amK W' p 1 V';refine⟨?_,?_,alW hd h.pB,fun k h1 h2=>(hk k h2).trans ((bw.block _ h1).trans (h.kp k h1 h2)),fun n h1 h2=>((h.bl n h1 h2).trans (bw.mono (Nat.le_of_lt h2))).setCell (p:=⟨p,1,none⟩) h1 _,?_,h.pB,h.sl⟩
 · have:=heap_setCell_same W' p 1 _ _ V' ((bw.block _ h.pB).trans h.obj);rw[this];rfl
 · have e:aaD (l++ [x])=aaD l++ [.int .i64 (x.off:Int), .int .i64 (x.size:Int), .bool x.used]:=by rw[adb];rfl
   rw[e,List.length_append];exact alW own h.pB
 · have:=bw.size;have e:(W'.setCell ⟨p,1,none⟩ V').heap.size=W'.heap.size:=by simp
   have:=h.sz;omega
theorem Nh.setD (h:Nh W0 W B p gl cap Vb Vd l vs){V':Value}{A:Option Addr}{n c:Nat}(gr:W.grownBy W' Vd.ownBlock) (own:W'.ownsRow B 37 1 V' (vs.length+1) (vs++ [.slice A n c])) (hrow:∀k,Vd.ownBlock=some k->∃cs fz,W.heap[k]?=some (.cells cs 37 fz)):
 Nh W0 (W'.setCell ⟨p,2,none⟩ V') B p gl cap Vb V' l (vs++ [.slice A n c]):=by
 have hge:∀k,Vd.ownBlock=some k->B<=k:=abS h.od;have bw:Below B W W':=(Below.refl _ _).grown gr h.sz hge;have hd:W'.ownsRow B 132 3 Vb l.length (aaD l):=aa0 h.ob gr fun k hk hrk=>by
  obtain⟨cs,fz,e⟩:=hrow k hrk;exact abi h.ob hk e (by decide)
 have hk:=amK W' p 2 V';refine⟨?_,alW hd h.pB,?_,fun k h1 h2=>(hk k h2).trans ((bw.block _ h1).trans (h.kp k h1 h2)),fun n h1 h2=>((h.bl n h1 h2).trans (bw.mono (Nat.le_of_lt h2))).setCell (p:=⟨p,2,none⟩) h1 _,?_,h.pB,fun v hv=> ?_⟩
 · have:=heap_setCell_same W' p 2 _ _ V' ((bw.block _ h.pB).trans h.obj);rw[this];rfl
 · rw[List.length_append];exact alW own h.pB
 · have:=bw.size;have e:(W'.setCell ⟨p,2,none⟩ V').heap.size=W'.heap.size:=by simp
   have:=h.sz;omega
 · rcases List.mem_append.1 hv with hv | hv
   · exact h.sl v hv
   · exact⟨A,n,c,List.mem_singleton.1 hv⟩
theorem Nh.rowB (h:Nh W0 W B p gl cap Vb Vd l vs):∀k,Vb.ownBlock=some k->∃cs fz,W.heap[k]?=some (.cells cs 132 fz):=fun k hk=>by
 rcases h.ob.2 with⟨hv,_⟩ | ⟨g,cap,cur,hv,hb,hg,_⟩
 · rw[hv]at hk;cases hk
 · rw[hv]at hk;injection hk with hk;have hk:g=k:=hk;subst hk;exact⟨_,_,hg⟩
theorem Nh.rowD (h:Nh W0 W B p gl cap Vb Vd l vs):∀k,Vd.ownBlock=some k->∃cs fz,W.heap[k]?=some (.cells cs 37 fz):=fun k hk=>by
 rcases h.od.2 with⟨hv,_⟩ | ⟨g,cap,cur,hv,hb,hg,_⟩
 · rw[hv]at hk;cases hk
 · rw[hv]at hk;injection hk with hk;have hk:g=k:=hk;subst hk;exact⟨_,_,hg⟩
theorem Nh.begun{F:Nat->Prop}{cs:List Value}(h:Hm F W p ⟨cap,[],[],fun _=> []⟩ (.slice none 0 0) (.slice none 0 0) gl cs):Nh W W W.heap.size p gl cap (.slice none 0 0) (.slice none 0 0) [] []:=
 ⟨h.obj,World.ownsRow_nil _ _ _ _,World.ownsRow_nil _ _ _ _,fun _ _ _=>rfl,fun _ _ _=>Below.refl _ _,Nat.le_refl _,h.lt,fun v hv=>by cases hv⟩
theorem Nh.done{b0:Nat}{cs:List Value}(h0:Hm (fun k=>b0<=k) W0 p ⟨cap,[],[],fun _=> []⟩ (.slice none 0 0) (.slice none 0 0) gl cs) (h:Nh W0 W W0.heap.size p gl cap Vb Vd l vs):Hm (fun k=>b0<=k) W p ⟨cap,l,vs.map fun v=>(v,[]),fun _=> []⟩ Vb Vd gl cs:=by
 have hp0:b0<=p:=h0.fp;have hpl:=h0.lt;have e:(vs.map fun v=>((v,[]):Dt)).map Prod.fst=vs:=by rw[List.map_map];exact List.map_id' vs
 refine⟨h.obj,acg h.ob (Nat.zero_le _),?_,(h.kp gl (aan h0.row) h0.p_gl).trans h0.row,h0.len,fun d hd=> ?_,hp0,h0.fl,fun k hk=> ?_,fun k hk=> ?_,h0.fi,fun d hd=> ?_⟩
 · show W.ownsRow 0 _ 1 Vd (vs.map fun v=>((v,[]):Dt)).length ((vs.map fun v=>((v,[]):Dt)).map Prod.fst);rw[e,List.length_map];exact acg h.od (Nat.zero_le _)
 · obtain⟨v,h1,h2⟩:=h0.at_ d hd;exact⟨v,h1,aaP h2 fun k hk=>h.kp k (aek h2 hk) (ab5 h2 h0.obj (by decide) k hk)⟩
 · have:=abS h.ob k hk;show b0<=k;omega
 · have:=abS h.od k hk;show b0<=k;omega
 · obtain⟨v,hv,rfl⟩:=List.mem_map.1 hd;exact h.sl v hv
end
theorem ao7 (w:World) (N:Int) (A1 A2:Option Addr) (k1 k2:Nat) (L:List Bk) (d:List (List UInt8)) (n:Nat) (hn16:n<=16384) (ht:ach 184 L n) (hd:afT L d) (hr:RkRd w w.heap.size A1 (L.map toR)) (hdr:DtRd w w.heap.size A2 d) (cap:Nat):
 Calls Tryz.prog 32 #[.agg #[.int .i64 N, .slice A1 L.length k1, .slice A2 d.length k2], .int .i64 (cap:Int)] w fun e w'=>∃p ds F,e= .returned (.pointer (some ⟨p,0,none⟩))/\ds.length=L.length/\HM F w' p (⟨cap,L,ds,fun _=> []⟩:Hp).rebuild/\(∀k,F k->w.heap.size<=k)/\Below w.heap.size w w':=by
 obtain⟨m,hm⟩:=nmE L.length;obtain⟨dl,hdl⟩:=nmE d.length;rw[hm,hdl];have htm:=(aau _ _ _ ht).2;have hm512:m<=512:=by have:=af8 _ _ _ ht;omega
 obtain⟨w1,hw1⟩:=nmE (w.alloc (.cells #[.int .i64 N, .slice A1 m k1, .slice A2 dl k2] 59));have hb1:=abE hw1;have n1:=anE hw1;have HNEW:=hE0 (aqV w1 cap);have HN1:=hE0 n1;have HB1:=hE0 hb1;have HW1:=hE0 hw1;have HR:=hE0 hr;have HDR:=hE0 hdr;have HM:=hE0 hm;have HDL:=hE0 hdl;have HTM:=hE0 htm;have HT:=hE0 ht;have HD:=hE0 hd;obtain⟨c0,c1,c2⟩:=aac n1;have hl1:=aaa n1;clear hm hdl ht hd hr hdr htm hw1 n1 hb1;obtain⟨i0,hi,hz0,hz1,hz2⟩:=info_parts agN;go_enter Tryz.func32,Tryz.ntmps32
 go_wp2_with (first | (rw[HW1.out]) | fail)
 refine HNEW.out.mono ?_;rintro e w2 ⟨p,rfl,⟨gl,cs,hmm⟩,hb2⟩;have hl2:w1.heap.size<=p:=hmm.fp;have hp2:=hmm.lt;have HM0:=hE0 hmm;obtain⟨B,hB⟩:=nmE w2.heap.size;have HNH:=hE0 (Nh.begun hmm);rw[hB]at hp2 HNH;have HBQ:=hE0 hB;have HN2:=hE0 ((hb2.block _ hl1).trans HN1.out);have HBW:=hE0 (HB1.out.trans (hb2.mono HB1.out.size));have hlp:w.heap.size<p:=Nat.lt_of_lt_of_le hl1 hl2;have hlB:w.heap.size<B:=Nat.lt_trans hlp hp2;clear c0 c1 c2 hmm hb2 hB hl1 hl2;go_wp2_with fail
 go_loopw [6,7] (fun u t wr=>∃(j v:Nat) (Vb Vd:Value) (vs:List Value),t= .int .i64 (j:Int)/\u= .int .i64 (v:Int)/\j<=m/\v<=j/\Nh w2 wr B p gl cap Vb Vd (L.take j) vs/\vs.length=j/\afT (L.drop j) (d.drop v)) (fun _ t _=>m-(intOf t).toNat)
 case atStart=>exact⟨0,0,_,_,[],rfl,rfl,Nat.zero_le _,Nat.zero_le _,HNH.out,rfl,HD.out⟩
 case round=>
  obtain⟨j,v,Vb,Vd,vs,rfl,rfl,hj,hvj,hnh,hvs,hdat⟩:=hrel;obtain⟨ca0,ca1,ca2⟩:=aac HN2.out;have c1:=hnh.cell hlB (Nat.ne_of_lt hlp) ca1;have c2:=hnh.cell hlB (Nat.ne_of_lt hlp) ca2;by_cases hlt:j<m
  · obtain⟨x,hx⟩:∃x,L[j]?=some x:=⟨L[j]'(by rw[HM.out];exact hlt),List.getElem?_eq_getElem _⟩;have hzx:32<=x.size/\x.size<=16384:=by
     obtain⟨_,_,m3,_⟩:=HTM.out x (List.mem_of_getElem? hx);have:=(aae _).1 m3;omega
    obtain⟨b2,o2,rfl,hbb,hcl⟩:=HR.out (by rw[List.length_map,HM.out];omega);obtain⟨p0,p1,p2,_,_⟩:=hcl j (toR x) (by rw[List.getElem?_map,hx];rfl);have hbB:b2<B:=Nat.lt_trans hbb hlB;have hbp:b2≠p:=by omega
    have s0:=(HBW.out.cell (p:=⟨b2,o2+j*3,none⟩) hbb).trans p0;have s1:=(HBW.out.cell (p:=⟨b2,o2+j*3+1,none⟩) hbb).trans p1;have s2:=(HBW.out.cell (p:=⟨b2,o2+j*3+2,none⟩) hbb).trans p2;rw[acC hx]at hdat;have htk:L.take (j+1)=L.take j++ [x]:=by rw[List.take_add_one,hx];rfl
    obtain⟨xo,xz,xu⟩:=x;dsimp only[toR]at p0 p1 p2 s0 s1 s2 hzx;obtain⟨wd,hwd⟩:=nmE wr.drew;have hbd:=adE hwd;have hnd:=hnh.full hbd;have hBd:=hnd.sz;have q1:=hnd.cellB;have q2:=hnd.cell hlB (Nat.ne_of_lt hlp) ca1;have r0:=hnd.cell hbB hbp s0;have r1:=hnd.cell hbB hbp s1;have r2:=hnd.cell hbB hbp s2;have hpd:=hnd.pl;have HND:=hE0 hnd;have HWD:=hE0 hwd;have HDAT:=hE0 hdat;have HTK:=hE0 htk;have HVS:=hE0 hvs;have HS2:=hE0 s2;have hlj:(L.take j).length=j:=by rw[List.length_take,HM.out];omega
    have HLJ:=hE0 hlj;clear hcl p0 p1 p2 s0 s1 s2 hx hdat htk hwd hbd hnd hnh hvs hlj;go_wp2_with fail
    clear c1 c2;refine aaB B (.one [0,1,2,3,4,5,6,7,8,9] 10 (.one [] 11 (.fin [12,13]))) [14] (by kernel_rfl) (by kernel_rfl) (by kernel_rfl) (fun _ _ _ _ _ h=>h) ?_;rw[HWD.out];have v0:∀z:LaterB B wd,z.val.cell? ⟨p,1,none⟩=some Vb:=fun z=>(z.ext.cell (p:=⟨p,1,none⟩) hp2).trans q1;have v1:∀z:LaterB B wd,z.val.cell? ⟨w.heap.size,1,none⟩=some (.slice (some ⟨b2,o2,none⟩) m k1):=fun z=>(z.ext.cell (p:=⟨w.heap.size,1,none⟩) hlB).trans q2;have v2:∀z:LaterB B wd,z.val.cell? ⟨b2,o2+j*3,none⟩=some (.int .i64 (xo:Int)):=fun z=>(z.ext.cell (p:=⟨b2,o2+j*3,none⟩) hbB).trans r0;have v3:∀z:LaterB B wd,z.val.cell? ⟨b2,o2+j*3+1,none⟩=some (.int .i64 (xz:Int)):=fun z=>(z.ext.cell (p:=⟨b2,o2+j*3+1,none⟩) hbB).trans r1;have v4:∀z:LaterB B wd,z.val.cell? ⟨b2,o2+j*3+2,none⟩=some (.bool xu):=fun z=>(z.ext.cell (p:=⟨b2,o2+j*3+2,none⟩) hbB).trans r2;refine aal (l:= ?seg6) ?hseg6 ?_
    case hseg6=>simp only[pick,lE1,lE2,lE3];rfl
    repeat (go_big_quiet_step (fail))
    refine wpQuiet_nil ?_;clear v0 v1 v2 v3 v4 q1 q2 r0 r1 r2;obtain⟨x1,hx1⟩:=nmE (wd.alloc (.cells #[.int .i64 (xo:Int), .int .i64 (xz:Int), .bool xu] 132));have bx1:=abE hx1;have nx1:=anE hx1;have HNX:=hE0 (HND.out.full bx1);have S1:Src x1 (some ⟨wd.heap.size,0,none⟩) 1 1 [.int .i64 (xo:Int), .int .i64 (xz:Int), .bool xu]:=by
     obtain⟨y0,y1,y2⟩:=aac nx1;refine⟨fun e=>(by cases e),fun ad e i u hu=> ?_⟩;injection e with e;subst e;have:i<3:=(List.getElem?_eq_some_iff.1 hu).1;rcases i with _ | _ | _ | i
     · simp at hu;subst hu;exact y0
     · simp at hu;subst hu;exact y1
     · simp at hu;subst hu;exact y2
     · omega
    have hobj:x1.ownsRow B 132 3 Vb j (aaD (L.take j)):=by have:=HNX.out.ob;rw[HLJ.out]at this;exact this
    refine aag (some 27) (w1:=x1) (v:= .slice (some ⟨wd.heap.size,0,none⟩) 1 1) rfl rfl rfl (by rw[<-hx1];exact aah rfl rfl (ahA wd _ _ _)) (bx1.mono hBd) ⟨B,Nat.le_refl _,?_⟩;simp only[Act.put,lE4,lE5,lE6];refine aal (l:= []) rfl ?_;refine wpQuiet_nil ?_;refine abc (some 28) (.tmp 21) (.tmp 27) 56 132 rfl rfl rfl rfl Tryz.underlying56 (.agg #[.int .i64 0, .int .i64 0, .bool false]) 3 24 ado rfl (by decide) B Vb j _ rfl hobj (Nat.le_refl _) HNX.out.sz (some ⟨wd.heap.size,0,none⟩) 1 1 _ rfl rfl S1 (fun u hu=>by simp at hu;rcases hu with rfl | rfl | rfl<;>rfl) (by omega) (by omega) ?_;intro V' z1 own1 bz1 gr1;refine⟨B,Nat.le_refl _,?_⟩;simp only[Act.put,lE4,lE5,lE6];obtain⟨uA,uc,rfl⟩:=aa4 own1;have hnz:=HNX.out.setB (x:=⟨xo,xz,xu⟩) gr1 (by rw[HLJ.out];exact own1) HNX.out.rowB;have e8:=(bz1.block _ hp2).trans HNX.out.obj;have q1:z1.cell? ⟨p,1,none⟩=some Vb:=by rw[cell_of_row z1 p 1 _ _ (0,0) e8];rfl
    have f1:z1.frozen? ⟨p,1,none⟩=false:=frozen_of_row z1 p 1 _ _ e8;have hp1:=aan e8;have HNZ:=hE0 hnz;clear hobj hx1 bx1 nx1 S1 own1 bz1 gr1 hnz e8;refine aaF (l:= ?la6) (t:= ?tl6) ?hla6 ?htl6 ?_
    case hla6=>simp only[pick,lE1,lE2,lE3];rfl
    case htl6=>simp only[pick,lE1,lE2,lE3];rfl
    repeat (go_big_quiet_step (fail))
    refine wpQuiet_nil ?_;obtain⟨y1,hy1⟩:=nmE (z1.setCell ⟨p,1,none⟩ (.slice uA (j+1) uc));rw[hy1]at HNZ;have HY1:=hE0 hy1;clear hy1;have hvl:vs.length<=512:=by rw[HVS.out];omega
    have g1:=HNZ.out.cell hlB (Nat.ne_of_lt hlp) ca1;have g2:=HNZ.out.cell hbB hbp HS2.out
    cases xu with
    | false=>
     obtain⟨y2,hy2⟩:=nmE (y1.alloc (.cells #[.slice none 0 0] 37));have bx2:=abE hy2;have nx2:=anE hy2;have HN3:=hE0 (HNZ.out.full bx2);have HRUN:=hE0 (afb y1);have HY2:=hE0 hy2;have hnew:∀i u,[Value.slice none 0 0][i]?=some u->y2.cell? (Addr.add ⟨y1.heap.size,0,none⟩ i)=some u:=fun i u hu=>by
      have hi0:i=0:=by have:=(List.getElem?_eq_some_iff.1 hu).1;simp at this;exact this
      subst hi0;simp at hu;subst hu;exact(cell_of_row y2 y1.heap.size 0 _ _ (0,0) nx2)
     have HNEW:=hE0 hnew;have HONE:Hid (∀u∈ [Value.slice none 0 0],u.oneCell'=true):=(show ∀u∈ [Value.slice none 0 0],u.oneCell'=true by intro u hu;rw[List.mem_singleton]at hu;subst hu;rfl);have q2:=HNZ.out.cellD;have hB3:=HN3.out.sz;have hp3:=HNZ.out.pl;have HF2:Hid (afT (L.drop (j+1)) (d.drop v)):=(show afT _ _ by have:=HDAT.out;unfold afT at this;simpa using this);clear hy2 bx2 nx2 hnew;go_wp2_with (first
      | (rw[HY1.out])
      | (rw[HRUN.out])
      | (rw[HY2.out])
      | (at_builtin;go_must (refine wpList_append_own _ rfl _ _ 57 rfl B 37 i0 _ 1 24 Tryz.underlying57 hi hz0 hz1 hz2 rfl (by decide) Vd vs.length vs rfl HN3.out.od ⟨y1.heap.size,0,none⟩ 1 1 [.slice none 0 0] rfl rfl HNEW.out HONE.out (by unfold maxLen;omega) (by omega) hB3 ?_);intro x8 w8 own8 gr8 at8;obtain⟨uA8,uc8,rfl⟩:=aa4 own8;have gr8':y2.grownBy w8 Vd.ownBlock:=gr8
         have own8':w8.ownsRow B 37 1 (.slice uA8 (vs.length+1) uc8) (vs.length+1) (vs++ [.slice none 0 0]):=own8;have HNF:=hE0 (HN3.out.setD gr8' own8' HN3.out.rowD);have e8:=(((Below.refl _ _:Below B y2 y2).grown gr8' hB3 (abS HN3.out.od)).block _ hp2).trans HN3.out.obj;have q8:w8.cell? ⟨p,2,none⟩=some Vd:=(by rw[cell_of_row w8 p 2 _ _ (0,0) e8];rfl);have f8:w8.frozen? ⟨p,2,none⟩=false:=frozen_of_row w8 p 2 _ _ e8;have hl8:=aan e8;clear own8 own8' gr8 gr8' at8 e8)
      | fail)
     go_roundw
     case rel=>exact⟨j+1,v,_,_,_,by go_num,rfl,by omega,by omega,by rw[HTK.out];exact HNF.out,by rw[List.length_append,HVS.out];rfl,HF2.out⟩
     case measure=>simp only[intOf];omega
    | true=>
     obtain⟨y,d',hdv⟩:∃y d',d.drop v=y::d':=by
      have:=HDAT.out;unfold afT at this;simp only[if_true]at this
      cases hdd:d.drop v with
      | nil=>rw[hdd]at this;exact this.elim
      | cons y d'=>exact⟨y,d',rfl⟩
     have hyd:d[v]?=some y:=by
      have:(d.drop v)[0]?=some y:=by rw[hdv];rfl
      rwa [List.getElem?_drop,Nat.add_zero]at this
     have hd':d.drop (v+1)=d':=by rw[<-List.drop_drop,hdv];rfl
     have hvd:v<dl:=by rw[<-HDL.out];exact(List.getElem?_eq_some_iff.1 hyd).1
     have hda:=HDAT.out;rw[hdv]at hda;unfold afT at hda;simp only[if_true]at hda;obtain⟨hyl,hd2⟩:=hda;have hyl:y.length+16=xz:=hyl;have HF2:Hid (afT (L.drop (j+1)) (d.drop (v+1))):=(show afT _ _ by rw[hd'];exact hd2);obtain⟨b3,o3,rfl,hb3,hc3⟩:=HDR.out (by rw[HDL.out];omega);obtain⟨A',kz,z0,zr,zl,zk,_⟩:=hc3 v y hyd;obtain⟨gy,oy,rfl,hgy,_,_⟩:=zr.at_ (show 0<y.length by omega);obtain⟨yn,hyn⟩:=nmE y.length;rw[hyn]at z0 zr hyl;have hy16:yn<=16384:=by omega
     have hvi:(v:Int)<(dl:Int):=by omega
     have hb3B:b3<B:=Nat.lt_trans hb3 hlB;have hb3p:b3≠p:=by omega
     obtain⟨we,hwe⟩:=nmE y1.drew;have hbe:=adE hwe;have hne:=HNZ.out.full hbe;have hBe:=hne.sz;have q3:=hne.cellD;have q4:=hne.cell hlB (Nat.ne_of_lt hlp) ca2;have q5:=hne.cell hb3B hb3p ((HBW.out.cell (p:=⟨b3,o3+v,none⟩) hb3).trans z0);have HNE:=hE0 hne;have HWE:=hE0 hwe;have HZR:=hE0 zr;have HYN:=hE0 hyn;clear hdv hyd hd' hvd hyn z0 zr zl zk hc3 hd2 hwe hbe hne hyl;go_wp2_with (first | (rw[HY1.out]) | fail)
     clear q1 f1 hp1 g1 g2;refine aaB B (.one [0,1,2,3,4,6,7,8,9,10] 5 (.one [] 11 (.one [] 12 (.one [] 13 (.fin [14,15]))))) [16] (by kernel_rfl) (by kernel_rfl) (by kernel_rfl) (fun _ _ _ _ _ h=>h) ?_;rw[HWE.out];have v0:∀z:LaterB B we,z.val.cell? ⟨p,2,none⟩=some Vd:=fun z=>(z.ext.cell (p:=⟨p,2,none⟩) hp2).trans q3;have v1:∀z:LaterB B we,z.val.cell? ⟨w.heap.size,2,none⟩=some (.slice (some ⟨b3,o3,none⟩) dl k2):=fun z=>(z.ext.cell (p:=⟨w.heap.size,2,none⟩) hlB).trans q4;have v2:∀z:LaterB B we,z.val.cell? ⟨b3,o3+v,none⟩=some (.slice (some ⟨gy,oy,none⟩) yn kz):=fun z=>(z.ext.cell (p:=⟨b3,o3+v,none⟩) hb3B).trans q5;refine aal (l:= ?seg8) ?hseg8 ?_
     case hseg8=>simp only[pick,lE1,lE2,lE3];rfl
     repeat (go_big_quiet_step (fail))
     refine wpQuiet_nil ?_;clear v0 v1 v2 q3 q4 q5;obtain⟨x2,hx2⟩:=nmE (we.alloc (.cells #[] 5));have bx2:=abE hx2;have own2:x2.ownsRow we.heap.size 5 1 (.slice (some ⟨we.heap.size,0,none⟩) 0 0) 0 []:=by rw[<-hx2];exact World.ownsRow_lit we _ 0 (Nat.le_refl _) (by unfold maxLen;omega) rfl
     have S2:Src x2 (some ⟨gy,oy,none⟩) yn kz (y.map bv):=by
      have hbw:=HBW.out.trans ((HNE.out.bl w.heap.size (Nat.le_of_lt hlp) hlB).trans (bx2.mono (Nat.le_trans (Nat.le_of_lt hlB) hBe)));have hr2:=HZR.out.below hbw;exact⟨fun e=>(by cases e),fun ad e=>(by injection e with e;subst e;exact acJ hr2)⟩
     refine aag (some 42) (w1:=x2) (v:= .slice (some ⟨we.heap.size,0,none⟩) 0 0) rfl rfl rfl (by rw[<-hx2];exact aah rfl rfl (afB we)) (bx2.mono hBe) ⟨B,Nat.le_refl _,?_⟩;simp only[Act.put,lE4,lE5,lE6];refine aal (l:= []) rfl ?_;refine wpQuiet_nil ?_;refine abc (some 48) (.tmp 42) (.tmp 47) 37 5 rfl rfl rfl rfl Tryz.underlying37 (.int .u8 0) 1 1 aca rfl (by decide) we.heap.size (.slice (some ⟨we.heap.size,0,none⟩) 0 0) 0 [] rfl own2 hBe bx2.size (some ⟨gy,oy,none⟩) yn kz _ rfl ?lz8 S2 (adX y) (by omega) (by omega) ?_
     case lz8=>rw[List.length_map,HYN.out,Nat.mul_one]
     intro V3 z2 own3 bz3 gr3;have bz3':Below we.heap.size x2 z2:=(Below.refl _ _).grown gr3 bx2.size (fun k hk=>(own2.lt k hk).1);have hn3:=HNE.out.full (bx2.trans bz3');have hB3:=hn3.sz;obtain⟨A3,c3,rfl⟩:=aa4 own3;obtain⟨y3,hy3⟩:=nmE (0+yn);rw[hy3];refine⟨B,Nat.le_refl _,?_⟩;simp only[Act.put,lE4,lE5,lE6];refine aal (l:= []) rfl ?_;refine wpQuiet_nil ?_;obtain⟨x4,hx4⟩:=nmE (z2.alloc (.cells #[.slice A3 y3 c3] 37));have bx4:=abE hx4;have nx4:=anE hx4;have HN4:=hE0 (hn3.full bx4);have S4:Src x4 (some ⟨z2.heap.size,0,none⟩) 1 1 [.slice A3 y3 c3]:=by
      refine⟨fun e=>(by cases e),fun ad e i u hu=> ?_⟩;injection e with e;subst e;have hi0:i=0:=by have:=(List.getElem?_eq_some_iff.1 hu).1;simp at this;exact this
      subst hi0;simp at hu;subst hu;exact(cell_of_row x4 z2.heap.size 0 _ _ (0,0) nx4)
     refine aag (some 49) (w1:=x4) (v:= .slice (some ⟨z2.heap.size,0,none⟩) 1 1) rfl rfl rfl (by rw[<-hx4];exact aah rfl rfl (ad9 z2 _ _ _)) (bx4.mono hB3) ⟨B,Nat.le_refl _,?_⟩;simp only[Act.put,lE4,lE5,lE6];refine aal (l:= []) rfl ?_;refine wpQuiet_nil ?_;refine abc (some 50) (.tmp 41) (.tmp 49) 57 37 rfl rfl rfl rfl Tryz.underlying57 (.slice none 0 0) 1 24 agN rfl (by decide) B Vd vs.length _ rfl HN4.out.od (Nat.le_refl _) HN4.out.sz (some ⟨z2.heap.size,0,none⟩) 1 1 _ rfl rfl S4 (fun u hu=>by rw[List.mem_singleton]at hu;subst hu;rfl) (by omega) (by omega) ?_;intro V5 z5 own5 bz5 gr5;refine⟨B,Nat.le_refl _,?_⟩;simp only[Act.put,lE4,lE5,lE6];obtain⟨uA8,uc8,rfl⟩:=aa4 own5;have HNF:=hE0 (HN4.out.setD gr5 own5 HN4.out.rowD);have e8:=(bz5.block _ hp2).trans HN4.out.obj;have q8:z5.cell? ⟨p,2,none⟩=some Vd:=by rw[cell_of_row z5 p 2 _ _ (0,0) e8];rfl
     have f8:z5.frozen? ⟨p,2,none⟩=false:=frozen_of_row z5 p 2 _ _ e8;have hl8:=aan e8;clear hx2 bx2 own2 S2 own3 bz3 gr3 bz3' hn3 hx4 bx4 nx4 S4 own5 bz5 gr5 e8;refine aaF (l:= ?la8) (t:= ?tl8) ?hla8 ?htl8 ?_
     case hla8=>simp only[pick,lE1,lE2,lE3];rfl
     case htl8=>simp only[pick,lE1,lE2,lE3];rfl
     repeat (go_big_quiet_step (fail))
     refine wpQuiet_nil ?_;go_wp2_with fail
     clear q8 f8 hl8;go_roundw
     case rel=>exact⟨j+1,v+1,_,_,_,by go_num,by go_num,by omega,by omega,by rw[HTK.out];exact HNF.out,by rw[List.length_append,HVS.out];rfl,HF2.out⟩
     case measure=>simp only[intOf];omega
  · obtain rfl:j=m:=by omega
    have htL:L.take j=L:=List.take_of_length_le (by rw[HM.out];exact Nat.le_refl _);rw[htL,<-HBQ.out]at hnh;have hdn:=Nh.done HM0.out hnh;have hok:(⟨cap,L,vs.map fun v=>((v,[]):Dt),fun _=> []⟩:Hp).Ok:=⟨by show ach 184 L (acz L);rw[abX HT.out];exact HT.out,by show acz L<=16384;rw[abX HT.out];exact hn16,by show(vs.map fun v=>((v,[]):Dt)).length=L.length;rw[List.length_map,hvs,HM.out]⟩;have HREB:=hE0 (aqF hdn hok);have HVS:Hid ((vs.map fun v=>((v,[]):Dt)).length=j):=(show _=_ by rw[List.length_map];exact hvs);have HBR:=hE0 (HBW.out.trans (hnh.bl w.heap.size (Nat.le_of_lt hlp) (by rw[HBQ.out];exact hlB)));have hs1:=HB1.out.size;have HS1:=hE0 hs1;clear hnh hdat hdn hok htL hvs hs1;go_wp2_with fail
    refine HREB.out.mono ?_;rintro e w5 ⟨rfl,F',hm5,htc,hF⟩;have HM5:=hE0 hm5;have HF5:Hid (∀k,F' k->w.heap.size<=k):=(show ∀k,F' k->w.heap.size<=k from fun k hk=>by
     have e1:=HS1.out;have e2:=HBR.out.size;rcases hF k hk with h | h
     · have h:w1.heap.size<=k:=h;omega
     · omega)
    have HB5:=hE0 (HBR.out.trans (htc.below (fun k hk=>by
     have e1:=HS1.out;have hk:w1.heap.size<=k:=hk;omega) HBR.out.size))
    clear hm5 htc hF c1 c2;go_wp2
    go_ret
    exact⟨p,_,F',rfl,HVS.out,HM5.out,HF5.out,HB5.out⟩
theorem asf{mid out:List UInt8}{L:List Bk}{ds:List Dt}{cap:Nat}(hw:abJ mid=some L) (hm:mid.length<=16384) (ho:abW mid=some out) (hc:aci out=true) (hle:out.length<=cap) (hds:ds.length=L.length):
 Rt out (⟨cap,L,ds,fun _=> []⟩:Hp).rebuild/\(⟨cap,L,ds,fun _=> []⟩:Hp).rebuild.cap=cap/\(⟨cap,L,ds,fun _=> []⟩:Hp).rebuild.Dl:=by
 obtain⟨H,hH⟩:∃H:Hp,(⟨cap,L,ds,fun _=> []⟩:Hp)=H:=⟨_,rfl⟩;have hb:H.blks=L:=by rw[<-hH]
 have hcp:H.cap=cap:=by rw[<-hH]
 have hd:H.ds.length=H.blks.length:=by rw[<-hH];exact hds
 rw[hH];rw[<-hb]at hw;obtain⟨out',e,h1,h2,h3,_,h5⟩:=afM hw hm;rw[ho]at e;injection e with e;subst e;obtain⟨e1,e2,e3⟩:=ael H H.blks.length;have ht:=(aaC hw).2.1;have hsz:∀x∈H.blks,aa3 (x.size:Int)=true:=fun x hx=>((aau _ _ _ ht).2 x hx).2.2.1;refine⟨⟨by unfold Hp.rebuild;rw[e1];exact h3,fun c hc=> ?_,hc,by unfold Hp.rebuild;rw[e3,hcp];exact hle⟩,by unfold Hp.rebuild;rw[e3,hcp],?_⟩
 · have hl:=ahL H hsz c H.blks.length (Nat.le_refl _);rw[List.take_length]at hl;show afL out c=some ((afc H H.blks.length).lists c);rw[hl];refine h1.all hc (Nat.le_trans (aja _ _) ?_);have:=aqx ht hm;omega
 · unfold Hp.rebuild Hp.Dl;rw[e1,e2];exact hd
section
variable {N:Nat} {S:Nat->Prop} {w w':World} {g:Nat} {s:Dst}
theorem RS.load (h:RS N S w g s) (half:Nat) (hh:N/2=half) (h1:1<=half) (hN2:N<=128) (hoff:s.off=false) (x y:Sk) (hx:abw s.bs s.wt half 0=x) (hy:abw s.bs s.wt half 1=y) (base:Nat) (cap:Int) (hc: -9223372036854775808<=cap/\cap<=9223372036854775807) (G:Nat × Nat × List Rk × List (List UInt8)) (hG:aco x y base cap=G):
 Calls Tryz.prog 25 #[.pointer (some ⟨g,0,none⟩), .int .u64 (base:Int), .int .i64 cap] w fun e w'=>GotN w G e w':=by
 obtain⟨L,cl,W,cw,ls,ws,k,e1,e2,e3,hs⟩:=h;rw[hoff]at k;rw[<-hG];exact aoe k k.five N half e3 hh h1 hN2 x y (by rw[e1,e2];exact hx) (by rw[e1,e2];exact hy) base cap hc
theorem RS.gz (h:RS N S w g s):∀j,S j->j<w.heap.size:=by
 obtain⟨_,_,_,_,_,_,_,_,_,_,hs⟩:=h;exact hs
theorem ajT (w:World) (k:Nat) (hk:k<=10):Calls Tryz.prog 17 #[ag8 k] w fun e w'=>e= .returned (.int .i64 (k:Int))/\w=w':=by
 rcases afi k with⟨e,rfl⟩ | ⟨e,h0⟩
 · rw[e];exact ahl w
 · rw[e];exact ahn w k (by omega) hk
theorem atA (x y:UInt8):bits .xor .u8 (x.toNat:Int) (y.toNat:Int)=((x^^^y).toNat:Int):=by
 rw[u8_xor_nat _ _ x.toNat_lt y.toNat_lt,UInt8.toNat_xor]
theorem PH.tchW{q ga base cap c:Nat}{A:Option Addr}{bs:List UInt8}{H:Hp}(h:PH w q ga base cap A c bs H) (ht:Tch S w w') (hS:∀k,(k=q\/foot ga A k)->¬S k):PH w' q ga base cap A c bs H:=
 ⟨(ht.block q h.lt (hS q (.inl rfl))).trans h.obj,h.ar.tch ht (fun k hk=>hS k (.inr hk)),h.rd,h.cp,h.c16,h.b62⟩
theorem Hd.made{F:Nat->Prop}{p cap:Nat}(h:HM F w p (aaX cap)):∃F',Hd F' (fun _=>False) w p (aaX cap)/\(∀k,F' k->F k)/\∀k,F' k->k<w.heap.size:=by
 obtain⟨F',h1,h2,h3⟩:=HM.tight h;exact⟨F',{hm:=h1,dat:=fun d hd=>(by cases hd),sep:=List.Pairwise.nil,gf:=fun _ hk=>hk.elim,gl:=fun _ hk=>hk.elim,fl:=h3},h2,h3⟩
theorem ag0:∀(L:List Bk) (ds:List Dt),afl L (ds.map amM)=afl L ds
 | [],ds=>by cases ds<;>rfl
 | x::L,[]=>rfl
 | x::L,d::ds=>by
  rw[List.map_cons,afl,afl,ag0 L ds];rfl
theorem alX{H H':Hp}(h:H'.str=H.str):H'.blks=H.blks/\afl H'.blks H'.ds=afl H.blks H.ds:=by
 have a1:=congrArg Hp.blks h;have a2:=congrArg Hp.ds h;have e1:H'.blks=H.blks:=a1;have e2:H'.ds.map amM=H.ds.map amM:=a2;exact⟨e1,by rw[<-ag0,e2,e1,ag0]⟩
theorem as0{H H':Hp}(h:H'.str=H.str) (hok:H.Ok):H'.Ok:=by
 have e1:=(alX h).1;have a2:=congrArg Hp.ds h;have e2:H'.ds.map amM=H.ds.map amM:=a2;have e3:=congrArg List.length e2;rw[List.length_map,List.length_map]at e3;exact⟨by rw[e1];exact hok.tl,by rw[e1];exact hok.le,by rw[e3,e1];exact hok.dl⟩
theorem asg{H H':Hp}{m:Nat}(h:H'.str=H.str) (hm:∀d∈H.ds,d.2.length<=m):∀d∈H'.ds,d.2.length<=m:=fun d hd=>by
 have a2:=congrArg Hp.ds h;have e2:H'.ds.map amM=H.ds.map amM:=a2;have h1:amM d∈H.ds.map amM:=by rw[<-e2];exact List.mem_map_of_mem hd
 obtain⟨d2,h2,h3⟩:=List.mem_map.1 h1;have:=hm d2 h2;have e0:=congrArg Prod.snd h3;have e:d2.2=d.2:=e0;rw[<-e];exact this
theorem ao8{n cap:Nat}{l:List Rk}{d:List (List UInt8)}{out:List UInt8}(hm:acG (n:Int) l d=true) (ho:aiL (n:Int) l d=some out) (hle:n<=cap):
 n<=16384/\ach 184 (l.map toB) n/\afT (l.map toB) d/\l=(l.map toB).map toR/\∀ds:List Dt,ds.length=(l.map toB).length->Rt out (⟨cap,l.map toB,ds,fun _=> []⟩:Hp).rebuild/\(⟨cap,l.map toB,ds,fun _=> []⟩:Hp).rebuild.cap=cap/\(⟨cap,l.map toB,ds,fun _=> []⟩:Hp).rebuild.Dl:=by
 obtain⟨out',hw0,hl0,hre,hck,hwk,hol,hod⟩:=afJ hm;have he:out'=out:=by
  unfold aiL at ho;rw[Int.toNat_natCast,hre]at ho;injection ho
 subst he;have hrd:ab3 (n:Int)=true/\abe (n:Int) 184 false l=true/\datOk l d=true:=by unfold acG at hm;simp only[Bool.and_eq_true]at hm;exact hm
 have hlB:=(aaN (n:Int)).1 hrd.1;obtain⟨ht,hmap,hzz⟩:=afg (o:=184) hrd.2.1;rw[Int.toNat_natCast]at ht;have hdat:=afh (fun x hx=>⟨(hzz x hx).1,(hzz x hx).2.1⟩) hrd.2.2;exact⟨by omega,ht,hdat,hmap,fun ds hds=>asf hw0 (by rw[hl0];omega) hre hck (by rw[hol];omega) hds⟩
end
theorem as1 (w:World) (a0:Int) (x y:Sl) (A3:Option Addr) (k3:Nat) (l3:List Int) (bt:UInt8) (base:Nat) (cap:Int) (hf:¬(2<=a0/\a0<=40/\x.b.length+y.b.length<=20000/\x.l.length+y.l.length<=100/\x.d.length+y.d.length<=100/\l3.length<=10)) (hm:(x.b.length<=140737488351232/\x.l.length<=140737488351232/\x.d.length<=140737488351232)/\(y.b.length<=140737488351232/\y.l.length<=140737488351232/\y.d.length<=140737488351232)/\l3.length<=9223372036854775807):
 Calls Tryz.prog 4 #[.int .i64 a0,x.v,y.v, .slice A3 l3.length k3, .int .u8 (bt.toNat:Int), .int .u64 (base:Int), .int .i64 cap] w fun e w'=>e= .returned (.bool true)/\Below w.heap.size w w':=by
 unfold Sl.v;obtain⟨xb,hxb⟩:=nmE x.b.length;obtain⟨xl,hxl⟩:=nmE x.l.length;obtain⟨xd,hxd⟩:=nmE x.d.length;obtain⟨yb,hyb⟩:=nmE y.b.length;obtain⟨yl,hyl⟩:=nmE y.l.length;obtain⟨yd,hyd⟩:=nmE y.d.length;obtain⟨al,hal⟩:=nmE l3.length;rw[hxb,hxl,hxd,hyb,hyl,hyd,hal]at hf hm ⊢;clear hxb hxl hxd hyb hyl hyd hal;obtain⟨⟨k1,k2,k3_⟩,⟨k4,k5,k6⟩,k7⟩:=hm;obtain⟨w1,ha1,n1,b1⟩:=agx w 78 (.int .u64 (x.G:Int)) (.int .i64 x.len) (.bool x.right) (.slice x.A xb x.c) (.bool x.image) (.int .i64 x.n) (.slice x.L xl x.lc) (.slice x.D xd x.dc);obtain⟨w2,ha2,n2,b2⟩:=agx w1 78 (.int .u64 (y.G:Int)) (.int .i64 y.len) (.bool y.right) (.slice y.A yb y.c) (.bool y.image) (.int .i64 y.n) (.slice y.L yl y.lc) (.slice y.D yd y.dc);have n12:=hE0 ((b2.out.block _ (aaa n1.out)).trans n1.out);have HB2:=hE0 (b1.out.trans (b2.out.mono b1.out.size));have HUP:=hE0 (alV w2);by_cases h0:a0<2
 · have g0:decide (a0<2)=true:=decide_eq_true (by omega);clear hf;go_enter Tryz.func4,Tryz.ntmps4
   go_wp2_with (first | (rw[ha1.out]) | (rw[ha2.out]) | fail)
   refine HUP.out.mono ?_;rintro e w3 ⟨rfl,hb3⟩;have HB3:=hE0 (HB2.out.trans (hb3.mono HB2.out.size));have m1:=hE0 ((hb3.block _ (aaa n12.out)).trans n12.out);have m2:=hE0 ((hb3.block _ (aaa n2.out)).trans n2.out);obtain⟨⟨c0,c1,c2,c3,c4,c5,c6,c7⟩,_,hlc⟩:=abT m1.out;obtain⟨⟨d0,d1,d2,d3,d4,d5,d6,d7⟩,_,hld⟩:=abT m2.out;clear hb3 HUP;go_wp2_with fail
   go_ret
   exact⟨rfl,HB3.out⟩
 have g0:decide (a0<2)=false:=decide_eq_false (by omega);by_cases h1:40<a0
 · have g1:decide ((40:Int)<a0)=true:=decide_eq_true (by omega);clear hf;go_enter Tryz.func4,Tryz.ntmps4
   go_wp2_with (first | (rw[ha1.out]) | (rw[ha2.out]) | fail)
   refine HUP.out.mono ?_;rintro e w3 ⟨rfl,hb3⟩;have HB3:=hE0 (HB2.out.trans (hb3.mono HB2.out.size));have m1:=hE0 ((hb3.block _ (aaa n12.out)).trans n12.out);have m2:=hE0 ((hb3.block _ (aaa n2.out)).trans n2.out);obtain⟨⟨c0,c1,c2,c3,c4,c5,c6,c7⟩,_,hlc⟩:=abT m1.out;obtain⟨⟨d0,d1,d2,d3,d4,d5,d6,d7⟩,_,hld⟩:=abT m2.out;clear hb3 HUP;go_wp2_with fail
   go_ret
   exact⟨rfl,HB3.out⟩
 have g1:decide ((40:Int)<a0)=false:=decide_eq_false (by omega);by_cases h2:20000<xb+yb
 · have g2:decide ((20000:Int)<(xb:Int)+(yb:Int))=true:=decide_eq_true (by omega);have g2n:decide (20000<xb+yb)=true:=decide_eq_true (by omega);clear hf;go_enter Tryz.func4,Tryz.ntmps4
   go_wp2_with (first | (rw[ha1.out]) | (rw[ha2.out]) | fail)
   refine HUP.out.mono ?_;rintro e w3 ⟨rfl,hb3⟩;have HB3:=hE0 (HB2.out.trans (hb3.mono HB2.out.size));have m1:=hE0 ((hb3.block _ (aaa n12.out)).trans n12.out);have m2:=hE0 ((hb3.block _ (aaa n2.out)).trans n2.out);obtain⟨⟨c0,c1,c2,c3,c4,c5,c6,c7⟩,_,hlc⟩:=abT m1.out;obtain⟨⟨d0,d1,d2,d3,d4,d5,d6,d7⟩,_,hld⟩:=abT m2.out;clear hb3 HUP;go_wp2_with fail
   go_ret
   exact⟨rfl,HB3.out⟩
 have g2:decide ((20000:Int)<(xb:Int)+(yb:Int))=false:=decide_eq_false (by omega);have g2n:decide (20000<xb+yb)=false:=decide_eq_false (by omega);by_cases h3:100<xl+yl
 · have g3:decide ((100:Int)<(xl:Int)+(yl:Int))=true:=decide_eq_true (by omega);have g3n:decide (100<xl+yl)=true:=decide_eq_true (by omega);clear hf;go_enter Tryz.func4,Tryz.ntmps4
   go_wp2_with (first | (rw[ha1.out]) | (rw[ha2.out]) | fail)
   refine HUP.out.mono ?_;rintro e w3 ⟨rfl,hb3⟩;have HB3:=hE0 (HB2.out.trans (hb3.mono HB2.out.size));have m1:=hE0 ((hb3.block _ (aaa n12.out)).trans n12.out);have m2:=hE0 ((hb3.block _ (aaa n2.out)).trans n2.out);obtain⟨⟨c0,c1,c2,c3,c4,c5,c6,c7⟩,_,hlc⟩:=abT m1.out;obtain⟨⟨d0,d1,d2,d3,d4,d5,d6,d7⟩,_,hld⟩:=abT m2.out;clear hb3 HUP;go_wp2_with fail
   go_ret
   exact⟨rfl,HB3.out⟩
 have g3:decide ((100:Int)<(xl:Int)+(yl:Int))=false:=decide_eq_false (by omega);have g3n:decide (100<xl+yl)=false:=decide_eq_false (by omega);by_cases h4:100<xd+yd
 · have g4:decide ((100:Int)<(xd:Int)+(yd:Int))=true:=decide_eq_true (by omega);have g4n:decide (100<xd+yd)=true:=decide_eq_true (by omega);clear hf;go_enter Tryz.func4,Tryz.ntmps4
   go_wp2_with (first | (rw[ha1.out]) | (rw[ha2.out]) | fail)
   refine HUP.out.mono ?_;rintro e w3 ⟨rfl,hb3⟩;have HB3:=hE0 (HB2.out.trans (hb3.mono HB2.out.size));have m1:=hE0 ((hb3.block _ (aaa n12.out)).trans n12.out);have m2:=hE0 ((hb3.block _ (aaa n2.out)).trans n2.out);obtain⟨⟨c0,c1,c2,c3,c4,c5,c6,c7⟩,_,hlc⟩:=abT m1.out;obtain⟨⟨d0,d1,d2,d3,d4,d5,d6,d7⟩,_,hld⟩:=abT m2.out;clear hb3 HUP;go_wp2_with fail
   go_ret
   exact⟨rfl,HB3.out⟩
 have g4:decide ((100:Int)<(xd:Int)+(yd:Int))=false:=decide_eq_false (by omega);have g4n:decide (100<xd+yd)=false:=decide_eq_false (by omega);have g5:decide ((10:Int)<(al:Int))=true:=decide_eq_true (by omega);have g5n:decide (10<al)=true:=decide_eq_true (by omega);clear hf;go_enter Tryz.func4,Tryz.ntmps4
 go_wp2_with (first | (rw[ha1.out]) | (rw[ha2.out]) | fail)
 refine HUP.out.mono ?_;rintro e w3 ⟨rfl,hb3⟩;have HB3:=hE0 (HB2.out.trans (hb3.mono HB2.out.size));have m1:=hE0 ((hb3.block _ (aaa n12.out)).trans n12.out);have m2:=hE0 ((hb3.block _ (aaa n2.out)).trans n2.out);obtain⟨⟨c0,c1,c2,c3,c4,c5,c6,c7⟩,_,hlc⟩:=abT m1.out;obtain⟨⟨d0,d1,d2,d3,d4,d5,d6,d7⟩,_,hld⟩:=abT m2.out;clear hb3 HUP;go_wp2_with fail
 go_ret
 exact⟨rfl,HB3.out⟩
end Go.Proofs.YthnfclimjmmckaaGreatDoor
