/- Texts of mine, joined. -/
import Derived.Test.YtncadccbepjekaaGreatDoorP43
import Derived.Test.YtncadccbepjekaaGreatDoorP46
import Derived.Test.YtncadccbepjekaaGreatDoorP47
set_option maxRecDepth 100000
set_option maxHeartbeats 4000000
namespace Go.Proofs.YtncadccbepjekaaGreatDoor
open Go.RowKit Go.ChangeShapes Go.WideShapes Go.Deep
section
variable {H:Type} {enc:TypeId × Value->H} {w:World} {base:Nat} {held:Bool} {fuel:Nat} {A:Option Addr} {len cap:Nat} {x:DataW H × List MemPlace}
theorem asQ (h:DataW.trod enc Tryz.prog w base (fun _=>true) held fuel 22 [.slice A len cap]=some x):∃l:List Cl,l.length=len/\ClRd w w.heap.size A l/\len<=maxLen:=by
 have hC:Tryz.prog.cellsOf 46=7:=by kernel_rfl
 have hC1:Tryz.prog.cellsOf 3=1:=by kernel_rfl
 have hC6:Tryz.prog.cellsOf 43=6:=by kernel_rfl
 have hone:oneCellFields Tryz.prog (match Tryz.prog.underlying 43 with
  | some (.struct fs)=>fs
  | _=> #[])=true:=by kernel_rfl
 rw[Tryz.underlying43]at hone;dsimp only at hone;rcases open_slice Tryz.underlying22 h with⟨hcs,_⟩ | ⟨a,l,c,m,n,D,Pl,hcs,_,hl,hm,hmm,_,hi⟩
 · simp at hcs;obtain⟨rfl,rfl,rfl⟩:=hcs;exact⟨[],rfl,fun hn=>absurd hn (by simp),Nat.zero_le _⟩
 · simp at hcs;obtain⟨rfl,rfl,rfl⟩:=hcs;simp only[if_true]at hmm;subst hmm;rw[hC]at hi;obtain⟨ds,hd,hp⟩:=aq3 (p:=fun i (d:Cl)=>d.ok/\Rd w w.heap.size d.A d.b.length d.b/\w.cell? (a.add (i*7))=some (.int .i64 d.which)/\w.cell? (a.add (i*7+1))=some (.int .i64 d.op)/\w.cell? (a.add (i*7+2))=some (.int .u64 (d.h:Int))/\
    w.cell? (a.add (i*7+3))=some (.int .u64 (d.n:Int))/\w.cell? (a.add (i*7+4))=some (.int .u64 (d.m:Int))/\w.cell? (a.add (i*7+5))=some (.int .u64 (d.at_:Int))/\w.cell? (a.add (i*7+6))=some (.slice d.A d.b.length d.c)) len (fun i hil=>by
    obtain⟨cs',hc,ht⟩:=hi i (by omega);obtain⟨_,hcl,hat⟩:=World.cells?_some hc;obtain⟨xs,n',_,_,_,hlen,hf⟩:=DataW.trod_struct Tryz.underlying46 ht;match cs',hcl,xs,hlen with
    | [v,v0,v1,v2,v3,v4,v5],_,[y,z],_=>
     have g:DataW.trod enc Tryz.prog w base (fun _=>true) held n' 3 (List.take (Tryz.prog.cellsOf 3) (List.drop 0 [v,v0,v1,v2,v3,v4,v5]))= [y,z][0]?:=hf 0 _ rfl;have f:DataW.trod enc Tryz.prog w base (fun _=>true) held n' 43 (List.take (Tryz.prog.cellsOf 43) (List.drop 1 [v,v0,v1,v2,v3,v4,v5]))= [y,z][1]?:=hf 1 _ rfl;rw[hC1]at g;rw[hC6]at f;simp only[List.drop_zero,List.drop_succ_cons,List.take_succ_cons,List.take_zero,List.getElem?_cons_zero,List.getElem?_cons_succ]at g f;obtain⟨xs2,n2,_,_,_,hlen2,hf2⟩:=DataW.trod_struct Tryz.underlying43 f;match xs2,hlen2 with
     | [y0,y1,y2,y3,y4,y5],_=>
      have g0:=hf2 0 _ rfl;have g1:=hf2 1 _ rfl;have g2:=hf2 2 _ rfl;have g3:=hf2 3 _ rfl;have g4:=hf2 4 _ rfl;have g5:=hf2 5 _ rfl;rw[(hone_of hone 0 _ rfl).1,(hone_of hone 0 _ rfl).2]at g0;rw[(hone_of hone 1 _ rfl).1,(hone_of hone 1 _ rfl).2]at g1;rw[(hone_of hone 2 _ rfl).1,(hone_of hone 2 _ rfl).2]at g2;rw[(hone_of hone 3 _ rfl).1,(hone_of hone 3 _ rfl).2]at g3;rw[(hone_of hone 4 _ rfl).1,(hone_of hone 4 _ rfl).2]at g4;rw[(hone_of hone 5 _ rfl).1,(hone_of hone 5 _ rfl).2]at g5;simp only[List.drop_zero,List.drop_succ_cons,List.take_succ_cons,List.take_zero,List.getElem?_cons_zero,List.getElem?_cons_succ]at g0 g1 g2 g3 g4 g5;obtain⟨k,hk,_,wk⟩:=DataW.trod_int Tryz.underlying3 g;obtain⟨n0,h0,_,w0⟩:=DataW.trod_int Tryz.underlying3 g0;obtain⟨n1,h1,_,w1⟩:=DataW.trod_int Tryz.underlying25 g1;obtain⟨n2,h2,_,w2⟩:=DataW.trod_int Tryz.underlying25 g2;obtain⟨n3,h3,_,w3⟩:=DataW.trod_int Tryz.underlying25 g3;obtain⟨n4,h4,_,w4⟩:=DataW.trod_int Tryz.underlying25 g4;obtain⟨bA,bn,bc,rfl⟩:∃bA bn bc,v5= .slice bA bn bc:=by
       rcases open_slice Tryz.underlying37 g5 with⟨h,_⟩ | ⟨a,l,c,_,_,_,_,h,_⟩
       · exact⟨_,_,_,by simpa using h⟩
       · exact⟨_,_,_,by simpa using h⟩
      obtain⟨bs,hbs,hbl,hbc,_⟩:=asO g5;obtain rfl:bs.length=bn:=hbs.1;simp at hk h0 h1 h2 h3 h4;subst hk h0 h1 h2 h3 h4;have bk:=bounds_i64 wk;have b0:=bounds_i64 w0;have b1:=bounds_u64 w1;have b2:=bounds_u64 w2;have b3:=bounds_u64 w3;have b4:=bounds_u64 w4;obtain⟨m1,rfl⟩:∃m:Nat,n1=(m:Int):=⟨n1.toNat,by omega⟩;obtain⟨m2,rfl⟩:∃m:Nat,n2=(m:Int):=⟨n2.toNat,by omega⟩;obtain⟨m3,rfl⟩:∃m:Nat,n3=(m:Int):=⟨n3.toNat,by omega⟩;obtain⟨m4,rfl⟩:∃m:Nat,n4=(m:Int):=⟨n4.toNat,by omega⟩;have a0:=hat 0 (by omega);have a1:=hat 1 (by omega);have a2:=hat 2 (by omega);have a3:=hat 3 (by omega);have a4:=hat 4 (by omega);have a5:=hat 5 (by omega);have a6:=hat 6 (by omega);rw[Go.Deep.add_add]at a0 a1 a2 a3 a4 a5 a6;exact⟨⟨k,n0,m1,m2,m3,m4,bA,bc,bs⟩,⟨by dsimp only;omega,by dsimp only;omega,by dsimp only;omega,by dsimp only;omega,by dsimp only;omega,by dsimp only;omega,Nat.le_trans hbl hbc⟩,hbs,a0,a1,a2,a3,a4,a5,a6⟩)
   refine⟨ds,hd,fun hn=> ?_,by omega⟩;obtain⟨d,hd0⟩:∃d,ds[0]?=some d:=⟨ds[0],List.getElem?_eq_getElem hn⟩;obtain⟨_,_,h0,_⟩:=hp 0 d hd0;rw[Nat.zero_mul]at h0;obtain⟨b,o,rfl,hlt,e⟩:=aq4 h0;refine⟨b,o,rfl,hlt,fun j d hj=> ?_⟩;obtain⟨k1,k2,h0,h1,h2,h3,h4,h5,h6⟩:=hp j d hj;rw[e]at h0 h1 h2 h3 h4 h5 h6;exact⟨⟨h0,h1,h2,h3,h4,h5,h6⟩,k2,k1⟩
end
open Go.RowKit
theorem afm{w:World}{B n c:Nat}{a:Addr}{xs:List Value}(h:w.ownsRow B 114 2 (.slice (some a) n c) n xs):∃b,(some a:Option Addr)=some ⟨b,0,none⟩/\∃cur,w.heap[b]?=some (.cells cur 114 (0,0)):=by
 rcases h.2 with⟨h',_⟩ | ⟨g',cap,cur,h',_,hh,_⟩
 · cases h'
 · injection h' with e1;exact⟨g',e1,cur,hh⟩
section
variable {B:Nat} {w:World} {q g base cap ch:Nat} {Ah:Option Addr} {bs:List UInt8} {H:Hp} {A:Option Addr} {c:Nat} {l:List Hq}
theorem awh (h:Hs B w A c l) (hl:l.length<=1000) (xh cn cm ca:Nat) (xA:Option Addr) (bl xc:Nat) (p m rn:Nat) (rA:Option Addr) (rbl rc s0 s1 s2 s3 s4:Nat) (hv:PH w q g base cap Ah ch bs H) (hus:H.usableP p=(m,0)) (hlm:Lm l){i:Nat}{x:Hq}(hx:l[i]?=some x) (hu:(l.map Hq.p).Nodup) (hxh:x.p=xh) (xn:Nat) (hxn:x.b.length=xn) (hcn:cn<=m) (hm:m<=16384) (h16:p%16=0) (hpc:p+m<=cap) (hp16:cap<=16384) (hap:∀y∈l.take i++l.drop (i+1),y.p+y.b.length<=p\/p+m<=y.p) (hBw:B<=w.heap.size):
 Calls Tryz.prog 107 #[.pointer (some ⟨q,0,none⟩), .slice A l.length c, .agg #[.int .i64 (4), .int .u64 (xh:Int), .int .u64 (cn:Int), .int .u64 (cm:Int), .int .u64 (ca:Int), .slice xA bl xc], .agg #[.int .i64 (0), .int .u64 (p:Int), .int .u64 (rn:Int), .slice rA rbl rc, .int .i64 (s0:Int), .int .i64 (s1:Int), .int .i64 (s2:Int), .int .i64 (s3:Int), .int .i64 (s4:Int)], .int .i64 (cap:Int)] w fun e w'=>MdT B A ((l.take i++l.drop (i+1)).map Hq.two++ [(p,acP x.b m 165)]) w e w':=by
 have HX:=hE0 hx;have HXN:=hE0 hxn;have hx16:xn<=16384:=by rw[<-hxn];exact(hlm x (List.mem_of_getElem? hx)).2
 obtain⟨w1,ha1,n1,b1⟩:=acv w 43 (.int .i64 (4)) (.int .u64 (xh:Int)) (.int .u64 (cn:Int)) (.int .u64 (cm:Int)) (.int .u64 (ca:Int)) (.slice xA bl xc);obtain⟨w2,ha2,n2,b2⟩:=abx w1 50 (.int .i64 (0)) (.int .u64 (p:Int)) (.int .u64 (rn:Int)) (.slice rA rbl rc) (.int .i64 (s0:Int)) (.int .i64 (s1:Int)) (.int .i64 (s2:Int)) (.int .i64 (s3:Int)) (.int .i64 (s4:Int));have HB2:=hE0 (b1.out.trans (b2.out.mono b1.out.size));have m1:=hE0 ((b2.out.block _ (aaa n1.out)).trans n1.out);have HS2:=hE0 (h.below HB2.out);obtain⟨⟨c0,c1,c2,c3,c4,c5⟩,_,hlc⟩:=aa4 m1.out;obtain⟨⟨r0,r1,r2,r3,_⟩,_,hlr⟩:=aaS n2.out;have HU:=hE0 (acy (hv.below HB2.out) p (by omega));rw[hus]at HU;clear hus;have HF:=hE0 (by have:=afS HS2.out hl hx hu;rw[hxh]at this;exact this);obtain⟨L,hL⟩:=nmE (l.take i++l.drop (i+1));rw[hL]at hap ⊢;have HWO:=hE0 (fun W (hW:Below w2.heap.size w2 W)=>adF (HS2.out.below hW) i (aau hx) hl);rw[hL]at HWO;obtain⟨n,hn⟩:=nmE l.length;have HN:=hE0 hn;have hin:i<n:=by rw[<-hn];exact aau hx
 have hLl:L.length+1=n:=by rw[<-hL,List.length_append,List.length_take,List.length_drop];omega
 have hlm2:Lm L:=fun y hy=>hlm y (by
  rw[<-hL]at hy;rcases List.mem_append.1 hy with hy | hy
  · exact List.mem_of_mem_take hy
  · exact List.mem_of_mem_drop hy)
 rw[hn]at HF HWO hl ⊢;obtain⟨gl,rfl,_,hgl,_,d0,d1⟩:=HS2.out.at_ hx;rw[hxn]at d1;have HD1:=hE0 d1;have HGL:=hE0 hgl;have HQD:=hE0 (HS2.out.row x (List.mem_of_getElem? hx));have HGT:Hid (∃cs,w2.heap[gl]?=some (.cells cs 114 (0,0))):=by
  obtain⟨b9,e9,cur,h9⟩:=afm HS2.out.own;injection e9 with e9;injection e9 with e9;subst e9;exact⟨cur,h9⟩
 have HBW:=hE0 hBw;have HLM:Hid (Lm L):=hlm2;have HAP:Hid (∀y∈L,y.p+y.b.length<=p\/p+m<=y.p):=hap;have H16:Hid (p%16=0):=h16;have gm:(m:Int)%100000=(m:Int):=by omega
 have g5:decide ((m:Int)<(cn:Int))=false:=decide_eq_false (by omega);have g5n:decide (m<cn)=false:=decide_eq_false (by omega);clear h hn hv hap hlm hlm2 hBw hL hx hxn d0 d1 hgl h16;go_enter Tryz.func107,Tryz.ntmps107
 go_wp2_with (first | (rw[ha1.out]) | (rw[ha2.out]) | fail)
 refine HF.out.mono ?_;rintro e w' ⟨rfl,rfl⟩;clear HF;go_wp2_with fail
 refine HU.out.mono ?_;rintro e v3 ⟨rfl,hb3⟩;have HB23:=hE0 hb3;have HB3:=hE0 (HB2.out.trans (hb3.mono HB2.out.size));have n3:=hE0 ((hb3.block _ (aaa n2.out)).trans n2.out);have m3:=hE0 ((hb3.block _ (aaa m1.out)).trans m1.out);clear hb3 HU c0 c1 c2 c3 c4 c5 r0 r1 r2 r3 hlc hlr;obtain⟨⟨c0,c1,c2,c3,c4,c5⟩,_,hlc⟩:=aa4 m3.out;obtain⟨⟨r0,r1,r2,r3,_⟩,_,hlr⟩:=aaS n3.out;rw[show aju 0= .nilIface from rfl];go_wp2_with fail
 refine(HWO.out v3 HB23.out).mono ?_;rintro e v4 ⟨A7,c7,rfl,hls,hb4⟩;have H7:=hE0 (hls.less (Nat.le_trans HBW.out HB3.out.size));have H7L:Hid (∀k,am7 A7 k->v3.heap.size<=k):=fun k ⟨a,e,hk⟩=>by
  subst e;obtain⟨b9,e9,cur,h9⟩:=afm hls.own;injection e9 with e9;subst e9;rw[<-hk];exact(hls.own.lt b9 rfl).1
 have HA:=hE0 (afj hls (by omega) HLM.out p m cap H16.out hpc hp16 HAP.out);have HB34:=hE0 hb4;have HB4:=hE0 (HB3.out.trans (hb4.mono HB3.out.size));have n4:=hE0 ((hb4.block _ (aaa n3.out)).trans n3.out);have m4:=hE0 ((hb4.block _ (aaa m3.out)).trans m3.out);clear hls hb4 HWO c0 c1 c2 c3 c4 c5 r0 r1 r2 r3 hlc hlr;obtain⟨⟨c0,c1,c2,c3,c4,c5⟩,_,hlc⟩:=aa4 m4.out;obtain⟨⟨r0,r1,r2,r3,_⟩,_,hlr⟩:=aaS n4.out;go_wp2_with fail
 refine HA.out.mono ?_;rintro e v5 ⟨rfl,hb5⟩;have HB45:=hE0 hb5;have HB5:=hE0 (HB4.out.trans (hb5.mono HB4.out.size));have n5:=hE0 ((hb5.block _ (aaa n4.out)).trans n4.out);have m5:=hE0 ((hb5.block _ (aaa m4.out)).trans m4.out);have HB25:=hE0 ((HB23.out.trans (HB34.out.mono HB23.out.size)).trans (hb5.mono (Nat.le_trans HB23.out.size HB34.out.size)));clear hb5 HA c0 c1 c2 c3 c4 c5 r0 r1 r2 r3 hlc hlr;obtain⟨⟨c0,c1,c2,c3,c4,c5⟩,_,hlc⟩:=aa4 m5.out;obtain⟨⟨r0,r1,r2,r3,_⟩,_,hlr⟩:=aaS n5.out;go_upto_region 38 with(fail)
 clear gm g5 g5n;obtain⟨wd,hwd⟩:=nmE v5.drew;have HWD:=hE0 hwd;have HSD:Hid (v5.heap.size=wd.heap.size):=by rw[<-hwd];rfl
 have HBD:Hid (Below v5.heap.size v5 wd):=by rw[<-hwd];exact(Below.refl _ _).drew
 have HR1:=hE0 ((HBD.out.cell (p:=⟨w1.heap.size,1,none⟩) hlr).trans r1);have hl1d:w1.heap.size<wd.heap.size:=Nat.lt_of_lt_of_le hlr HBD.out.size;clear hwd;go_cut [23] from 189 (fun v wx=>∃gx gb,v= .pointer (some ⟨gx,0,none⟩)/\wx.heap[gx]?=some (.cells #[.int .u64 (p:Int), .slice (some ⟨gb,0,none⟩) m m] 114 (0,0))/\FillI wx gb (List.replicate m 0)/\v5.heap.size<=gx/\v5.heap.size<=gb/\Below v5.heap.size v5 wx)
 case first=>
  refine aaD wd.heap.size (.two [0,1,2,3] 4 (.one [5] 6 (.fin [])) 6 (.one [] 4 (.fin [5]))) [7] (by kernel_rfl) (by kernel_rfl) (by kernel_rfl) (fun _ _ _ _ _ h=>h) ?_;rw[HWD.out];have q0:∀z:LaterB wd.heap.size wd,z.val.cell? ⟨w1.heap.size,1,none⟩=some (.int .u64 (p:Int)):=fun z=>(z.ext.cell (p:=⟨w1.heap.size,1,none⟩) hl1d).trans HR1.out;refine abL (l:= ?seg1) ?hseg1 ?_
  case hseg1=>simp only[pick,lE1,lE2,lE3];rfl
  repeat (go_big_quiet_step (fail))
  refine wpQuiet_nil ?_;clear q0;refine⟨?wayA,?wayC⟩
  case wayA=>
   obtain⟨z1,hz1⟩:=nmE (wd.alloc (.cells ((List.replicate m (0:UInt8)).map iB).toArray 3));have bz1:=abE hz1;have f1:FillI z1 wd.heap.size (List.replicate m 0):=by rw[<-hz1];exact .of (heap_alloc_new wd _)
   refine aas (some 193) (w1:=z1) (v:= .slice (some ⟨wd.heap.size,0,none⟩) m m) rfl rfl rfl (by rw[<-hz1];exact ajp rfl rfl rfl (aet m (by omega) wd)) bz1 ⟨wd.heap.size,Nat.le_refl _,?_⟩;refine aax (l:= ?seg2) ?hseg2 ?_
   case hseg2=>simp only[pick,lE1,lE2,lE3];rfl
   simp only[Act.put,lE4,lE5,lE6];repeat (go_big_quiet_step (fail))
   refine wpQuiet_nil ?_;obtain⟨z2,hz2⟩:=nmE (z1.alloc (.cells #[.int .u64 0, .slice none 0 0] 114));have bz2:=abE hz2;have n2:=anE hz2;refine aas (some 23) (w1:=z2) (v:= .pointer (some ⟨z1.heap.size,0,none⟩)) rfl rfl rfl (by rw[<-hz2];exact adG _ _ rfl z1) (bz2.mono bz1.size) ⟨wd.heap.size,Nat.le_refl _,?_⟩;exact ahg
  case wayC=>
   obtain⟨z1,hz1⟩:=nmE (wd.alloc (.cells #[.int .u64 0, .slice none 0 0] 114));have bz1:=abE hz1;have n1:=anE hz1;refine aas (some 23) (w1:=z1) (v:= .pointer (some ⟨wd.heap.size,0,none⟩)) rfl rfl rfl (by rw[<-hz1];exact adG _ _ rfl wd) bz1 ⟨wd.heap.size,Nat.le_refl _,?_⟩;refine aax (l:= []) rfl (wpQuiet_nil ?_);obtain⟨z2,hz2⟩:=nmE (z1.alloc (.cells ((List.replicate m (0:UInt8)).map iB).toArray 3));have bz2:=abE hz2;have f2:FillI z2 z1.heap.size (List.replicate m 0):=by rw[<-hz2];exact .of (heap_alloc_new z1 _)
   have n2:=(bz2.block _ (aaa n1)).trans n1;refine aas (some 193) (w1:=z2) (v:= .slice (some ⟨z1.heap.size,0,none⟩) m m) rfl rfl rfl (by rw[<-hz2];exact ajp rfl rfl rfl (aet m (by omega) z1)) (bz2.mono bz1.size) ⟨wd.heap.size,Nat.le_refl _,?_⟩;refine aaW (l:= ?la4) (t:= ?tl4) ?hla4 ?htl4 ?_
   case hla4=>simp only[pick,lE1,lE2,lE3];rfl
   case htl4=>simp only[pick,lE1,lE2,lE3];rfl
   simp only[Act.put,lE4,lE5,lE6];repeat (go_big_quiet_step (fail))
   refine wpQuiet_nil ?_;have N2:=hE0 n2;have hne:z1.heap.size≠wd.heap.size:=by have:=aaa n1;omega
   obtain⟨z3,hz3,n3,b3,⟨x0,x1⟩,⟨e0,e1⟩,hlz⟩:=auJ N2 (.int .u64 (p:Int)) (.slice (some ⟨z1.heap.size,0,none⟩) m m);have F3:Hid (FillI z3 z1.heap.size (List.replicate m 0)):=hE0 (f2.keep (by rw[<-hz3.out,Below.heap_setCell _ _ _ _ hne,Below.heap_setCell _ _ _ _ hne]));have B3:=hE0 (b3.out wd.heap.size wd (Nat.le_refl _) (bz1.trans (bz2.mono bz1.size)));have G1:=hE0 bz1.size;clear hz1 hz2 n1 n2 f2 bz1 bz2 hne;go_wp2_with (first | (rw[hz3.out]) | fail)
   go_meet
   case rel=>exact⟨wd.heap.size,z1.heap.size,rfl,n3.out,F3.out,by rw[HSD.out];exact Nat.le_refl _,by rw[HSD.out];exact G1.out,HBD.out.trans (by rw[HSD.out];exact B3.out)⟩
 case rest=>
 obtain⟨gx,gb,rfl,nx,fb,lx,lb,hbx⟩:=hcut;have NX:=hE0 nx;have FB:=hE0 fb;have HBX:=hE0 hbx;clear nx fb hbx c0 c1 c2 c3 c4 c5 r0 r1 r2 r3 hlc hlr;go_wp2_with fail
 go_loopw [24] (fun i wr=>∃(j:Nat) (b':List UInt8),i= .int .i64 (j:Int)/\j<=m/\b'.length=m/\(∀k,k<j->b'[k]?=some (x.b.getD k 165))/\FillI wr gb b'/\wr.heap[gx]?=some (.cells #[.int .u64 (p:Int), .slice (some ⟨gb,0,none⟩) m m] 114 (0,0))/\Below v5.heap.size v5 wr) (fun i _=>m-(intOf i).toNat)
 case atStart=>exact⟨0,_,rfl,Nat.zero_le _,List.length_replicate,fun k hk=>absurd hk (Nat.not_lt_zero _),FB.out,NX.out,HBX.out⟩
 case round=>
  clear NX FB HBX;obtain⟨j,b',rfl,hj,hbl,hbv,fb,nx,hbx⟩:=hrel;have NX:=hE0 nx;have FB:=hE0 fb;have HBX:=hE0 hbx;have HBV:Hid (∀k,k<j->b'[k]?=some (x.b.getD k 165)):=hbv;have HBL:=hE0 hbl;obtain⟨⟨x0,x1⟩,_,hlx⟩:=agM nx;clear nx fb hbx hbv hbl;by_cases hlt:j<m
  · obtain⟨old,hold⟩:∃old,b'[j]?=some old:=⟨b'[j]'(by rw[HBL.out];exact hlt),List.getElem?_eq_getElem _⟩;obtain⟨d0,d1⟩:=FB.out.at_ hold;have hlb:=FB.out.lt;obtain⟨wz,hwz⟩:=nmE (wr.setCell ⟨gb,j,none⟩ (.int .i64 165));have F2:FillI wz gb (b'.set j 165):=by rw[<-hwz];exact FB.out.set j (by rw[HBL.out];exact hlt) 165
    have hoth:∀k,k≠gb->wz.heap[k]?=wr.heap[k]?:=fun k hk=>by rw[<-hwz];exact Below.heap_setCell _ _ _ _ hk
    have hsz:wz.heap.size=wr.heap.size:=by rw[<-hwz];simp[World.setCell]
    have NZ:=(hoth gx (FB.out.ne NX.out)).trans NX.out;have hB2r:=HB25.out.trans (HBX.out.mono HB25.out.size);obtain⟨cg,hcg⟩:=HGT.out;have hglb:gl≠gb:=FB.out.ne ((hB2r.block _ HGL.out).trans hcg);have DZ:wz.cell? ⟨gl,i*2+1,none⟩=some (.slice x.A xn x.c):=(World.cell?_of_block (w:=wr) (a:=⟨gl,i*2+1,none⟩) (hoth gl hglb)).trans ((hB2r.cell (p:=⟨gl,i*2+1,none⟩) HGL.out).trans HD1.out);have hglz:gl<wz.heap.size:=by rw[hsz];exact Nat.lt_of_lt_of_le HGL.out hB2r.size
    have HB2:=hE0 (show Below v5.heap.size v5 wz from by rw[<-hwz];exact HBX.out.setCell (p:=⟨gb,j,none⟩) lb (.int .i64 165));have HWZ:=hE0 hwz;have hF2:=F2;by_cases hjx:j<xn
    · have gj:decide ((j:Int)<(xn:Int))=true:=decide_eq_true (by omega);have gjn:decide (j<xn)=true:=decide_eq_true hjx;obtain⟨u,hu⟩:∃u,x.b[j]?=some u:=⟨x.b[j]'(by rw[HXN.out];exact hjx),List.getElem?_eq_getElem _⟩;obtain⟨go,hgo,hco⟩:=HQD.out.at_ hu;obtain⟨go2,cur2,hgo2,hgc,_⟩:=HQD.out (by rw[HXN.out];omega);rw[hgo]at hgo2;injection hgo2 with hgo2;injection hgo2 with hgo2;subst hgo2;have hgol:go<w2.heap.size:=aae hgc;have hgob:go≠gb:=by have:=HB25.out.size;omega
      have OZ:wz.cell? ⟨go,j,none⟩=some (iB u):=(World.cell?_of_block (w:=wr) (a:=⟨go,j,none⟩) (hoth go hgob)).trans ((hB2r.cell (p:=⟨go,j,none⟩) hgol).trans hco);obtain⟨v,hv⟩:=nmE u.toNat;have hiu:iB u= .int .i64 (v:Int):=by unfold iB;rw[hv]
      rw[hiu]at OZ;rw[hgo]at DZ;obtain⟨ve,hve⟩:=nmE wz.drew;have hbe:=adE hve;have hgoz:go<wz.heap.size:=by rw[hsz];exact Nat.lt_of_lt_of_le hgol hB2r.size
      obtain⟨⟨y0,y1⟩,_,hlz⟩:=agM NZ;have E1:=hE0 ((hbe.cell (p:=⟨gx,1,none⟩) hlz).trans y1);have E2:=hE0 ((hbe.cell (p:=⟨gl,i*2+1,none⟩) hglz).trans DZ);have E3:=hE0 ((hbe.cell (p:=⟨go,j,none⟩) hgoz).trans OZ);have l1:=Nat.lt_of_lt_of_le hlz hbe.size;have l2:=Nat.lt_of_lt_of_le hglz hbe.size;have l3:=Nat.lt_of_lt_of_le hgoz hbe.size;have FE:=F2.below hbe;have hset:(b'.set j 165)[j]?=some 165:=by rw[List.getElem?_set_self (by rw[HBL.out];exact hlt)]
      obtain⟨e0,e1⟩:=FE.at_ hset;have hlbe:=FE.lt;have F3:=hE0 (FE.set j (by rw[List.length_set,HBL.out];exact hlt) u);rw[hiu]at F3;have NX3:Hid ((ve.setCell ⟨gb,j,none⟩ (.int .i64 (v:Int))).heap[gx]?=some (.cells #[.int .u64 (p:Int), .slice (some ⟨gb,0,none⟩) m m] 114 (0,0))):=by
       have hnx:=(hbe.block _ (aaa NZ)).trans NZ;rw[Below.heap_setCell _ _ _ _ (FE.ne hnx)];exact hnx
      have HB3':=hE0 ((HB2.out.trans (hbe.mono HB2.out.size)).setCell (p:=⟨gb,j,none⟩) lb (.int .i64 (v:Int)));have HUU:=hE0 hu;have HVE:=hE0 hve;clear hold F2 hF2 hwz hoth NZ hB2r hcg hu hgo hgc hco OZ hv hiu hve hbe FE hset;go_wp2_with (first | (rw[HWZ.out]) | fail)
      refine aao ve.heap.size [] [0,1,2,3,4,5,6,7,8,9,10,11] [12] (by kernel_rfl) (by kernel_rfl) (by kernel_rfl) (fun _ _ _ _ _ h=>h) ?_;rw[HVE.out];have q1:∀z:LaterB ve.heap.size ve,z.val.cell? ⟨gx,1,none⟩=some (.slice (some ⟨gb,0,none⟩) m m):=fun z=>(z.ext.cell (p:=⟨gx,1,none⟩) l1).trans E1.out;have q2:∀z:LaterB ve.heap.size ve,z.val.cell? ⟨gl,i*2+1,none⟩=some (.slice (some ⟨go,0,none⟩) xn x.c):=fun z=>(z.ext.cell (p:=⟨gl,i*2+1,none⟩) l2).trans E2.out;have q3:∀z:LaterB ve.heap.size ve,z.val.cell? ⟨go,j,none⟩=some (.int .i64 (v:Int)):=fun z=>(z.ext.cell (p:=⟨go,j,none⟩) l3).trans E3.out;refine aaH (l:= ?rw) (t:= ?tw) ?hrw ?htw ?_
      case hrw=>simp only[pick,lE1,lE2,lE3];rfl
      case htw=>simp only[pick,lE1,lE2,lE3];rfl
      repeat (go_big_quiet_step (fail))
      refine wpQuiet_nil ?_;clear q1 q2 q3;go_wp2_with fail
      go_roundw
      case rel=>
       refine⟨j+1,(b'.set j 165).set j u,by go_num,by omega,by rw[List.length_set,List.length_set];exact HBL.out,fun k hk=> ?_,F3.out,NX3.out,HB3'.out⟩;rw[List.getElem?_set,List.getElem?_set];by_cases e:j=k
       · subst e;rw[if_pos rfl,if_pos (by rw[List.length_set,HBL.out];exact hlt),List.getD_eq_getElem?_getD,HUU.out];rfl
       · rw[if_neg e,if_neg e];exact HBV.out k (by omega)
      case measure=>simp only[intOf];omega
    · have gj:decide ((j:Int)<(xn:Int))=false:=decide_eq_false (by omega);have gjn:decide (j<xn)=false:=decide_eq_false hjx;have F2':=hE0 F2;have NZ':=hE0 NZ;clear hold F2 hF2 hwz hoth hB2r hcg NZ;go_wp2_with (first | (rw[HWZ.out]) | fail)
      go_roundw
      case rel=>
       refine⟨j+1,b'.set j 165,by go_num,by omega,by rw[List.length_set];exact HBL.out,fun k hk=> ?_,F2'.out,NZ'.out,HB2.out⟩;rw[List.getElem?_set];by_cases e:j=k
       · subst e;rw[if_pos rfl,if_pos (by rw[HBL.out];exact hlt),List.getD_eq_getElem?_getD,List.getElem?_eq_none (by rw[HXN.out];omega)];rfl
       · rw[if_neg e];exact HBV.out k (by omega)
      case measure=>simp only[intOf];omega
  · have hbr:b'=acP x.b m 165:=by
     have hjm:j=m:=by omega
     refine List.ext_getElem? fun k=> ?_;by_cases hk:k<m
     · rw[HBV.out k (by omega),aiU _ _ _ _ hk]
     · rw[List.getElem?_eq_none (by rw[HBL.out];omega),List.getElem?_eq_none (by rw[adc];omega)]
    subst hbr;obtain⟨wa,hwa,na,ba⟩:=apJ wr 114 (.int .u64 (p:Int)) (.slice (some ⟨gb,0,none⟩) m m);obtain⟨i0,hi,hz0,hz1,hz2⟩:=info_parts adK;have HBA:=hE0 (HB45.out.trans ((HBX.out.trans (ba.out.mono HBX.out.size)).mono HB45.out.size));have HSA:=hE0 (H7.out.below HBA.out);have FA:=hE0 (FB.out.below ba.out);have hBa:B<=wa.heap.size:=Nat.le_trans HBW.out (Nat.le_trans HB4.out.size HBA.out.size);have HNEW:Hid (∀j u,[Value.int .u64 (p:Int), .slice (some ⟨gb,0,none⟩) m m][j]?=some u->wa.cell? ((⟨wr.heap.size,0,none⟩:Addr).add j)=some u):=fun j u hu=>by
     have e:(⟨wr.heap.size,0,none⟩:Addr).add j=⟨wr.heap.size,j,none⟩:=by unfold Addr.add;split<;>simp_all
     rw[e,cell_of_row wa _ j _ _ (0,0) na.out];simpa using hu
    have HONE:Hid (∀u∈ [Value.int .u64 (p:Int), .slice (some ⟨gb,0,none⟩) m m],u.oneCell'=true):=fun u hu=>by
     simp at hu;rcases hu with rfl | rfl<;>rfl
    obtain⟨ll,hll⟩:=nmE L.length;have HLL:=hE0 hll;have HOA:Hid (wa.ownsRow B 114 2 (.slice A7 ll c7) ll (abc L)):=by have:=HSA.out.own;rw[hll]at this;exact this
    rw[hll]at hLl;rw[hll];clear hll;go_wp2_with (first
     | (rw[hwa.out])
     | (at_builtin;go_must (refine wpList_append_own _ rfl _ _ 110 rfl B 114 i0 _ 2 32 Tryz.underlying110 hi hz0 hz1 hz2 rfl (by decide) _ ll (abc L) rfl HOA.out ⟨wr.heap.size,0,none⟩ 1 1 [.int .u64 (p:Int), .slice (some ⟨gb,0,none⟩) m m] rfl rfl HNEW.out HONE.out (by unfold maxLen;omega) (by omega) hBa ?_);intro x5 w5 own5 gr5 at5
        have HX5:Hid (w5.ownsRow B 114 2 x5 (ll+1) (abc L++ [.int .u64 (p:Int), .slice (some ⟨gb,0,none⟩) m m])/\wa.grownBy w5 (Value.slice A7 ll c7).ownBlock):=⟨own5,gr5⟩;clear own5 gr5 at5)
     | fail)
    go_ret2
    obtain⟨o5,g5⟩:=HX5.out;rw[<-HLL.out]at o5 g5;obtain⟨A',c',rfl,h5,t5⟩:=H7.out.push HBA.out ⟨p,some ⟨gb,0,none⟩,m,acP x.b m 165⟩ FA.out.qrd x5 (by rw[show(acP x.b m 165).length=m from adc _ _ _];exact o5) g5;exact⟨A',c',_,rfl,h5,by rw[List.map_append];rfl,Tch.of_below (HB4.out.trans (t5.below (fun k hk=>Nat.le_trans HB3.out.size (H7L.out k hk)) HB4.out.size))⟩
end
end Go.Proofs.YtncadccbepjekaaGreatDoor
