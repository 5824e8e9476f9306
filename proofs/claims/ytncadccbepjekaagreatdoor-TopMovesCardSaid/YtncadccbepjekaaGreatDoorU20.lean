/- Texts of mine, joined. -/
import Derived.Test.YtncadccbepjekaaGreatDoorU17
import Derived.Test.YtncadccbepjekaaGreatDoorU18
set_option maxRecDepth 100000
set_option maxHeartbeats 4000000
namespace Go.Proofs.YtncadccbepjekaaGreatDoor
open Go.RowKit
theorem ar1 (a b:List UInt8):((amp a).toList==(amp b).toList)=decide (a=b):=by
 unfold amp;simp;by_cases h:a=b<;>simp[h]
theorem ahH (w:World) (A1 A2:Option Addr) (n1 c1 n2 c2 B:Nat) (x y:List UInt8) (h1:Rd w B A1 n1 x) (h2:Rd w B A2 n2 y) (t:Bool) (ht:decide (x=y)=t):
 Calls Tryz.prog 251 #[.slice A1 n1 c1, .slice A2 n2 c2] w fun e w'=>e= .returned (.bool t)/\w=w':=by
 have q1:=acg (c:=c1) h1;have q2:=acg (c:=c2) h2;have gy:=ar1 x y;obtain⟨S,hS⟩:=nmE (amp x);obtain⟨T,hT⟩:=nmE (amp y);rw[hS]at q1;rw[hT]at q2;rw[hS,hT,ht]at gy;clear h1 h2 hS hT ht;go_enter Tryz.func251,Tryz.ntmps251
 go_wp2
 go_ret
 exact⟨rfl,rfl⟩
theorem alL{fn:Func}{R:Ending->World->Prop}{a:Act}{w:World}{p u:Tmp}{g:Nat}{x y0 y1 y2:Value}(hres:fn.results= #[.cell p 146, .tmp u]) (hp:a.tmps.getD p undef= .pointer (some ⟨g,0,none⟩)) (hx:a.tmps.getD u undef=x) (hd:a.defers= [])
 (hg:w.heap[g]?=some (.cells #[y0,y1,y2] 146 (0,0))) (hR:R (.returned (.tuple #[.agg #[y0,y1,y2],x])) w):bodyPost Tryz.prog fn R .ret a w:=by
 obtain⟨c0,c1,c2⟩:=aal hg;refine bodyPost_ret (v:= .tuple #[.agg #[y0,y1,y2],x]) ?_ hd hR;rw[results_cell_tmp hres,hp,hx];simp[go_sem,c0,c1,c2]
theorem ar2{fn:Func}{R:Ending->World->Prop}{a:Act}{w:World}{p:Tmp}{g:Nat}{n s:Int}{k:Int}(hres:fn.results= #[.cell p 146]) (hp:a.tmps.getD p undef= .pointer (some ⟨g,0,none⟩)) (hd:a.defers= [])
 (hg:w.heap[g]?=some (.cells #[.int .u64 n, .int .u64 s, .int .u32 k] 146 (0,0))) (hR:R (.returned (.agg #[.int .u64 n, .int .u64 s, .int .u32 k])) w):bodyPost Tryz.prog fn R .ret a w:=by
 refine bodyPost_ret (v:= .agg #[.int .u64 n, .int .u64 s, .int .u32 k]) ?_ hd hR;exact results_cell_row hres _ _ g _ _ _ _ hp hg rfl rfl rfl
theorem ai5 (w:World) (A:Option Addr) (c:Nat) (b:List UInt8) (hr:Rd w w.heap.size A 512 b) (hc:512<=c) (G N S:Nat) (hG:slG b=G) (hN:slN b=N) (hS:slS b=S):
 Calls Tryz.prog 250 #[.slice A 512 c] w fun e w'=>e= .returned (.agg #[.int .u64 (G:Int), .int .u64 (N:Int), .int .u32 (S:Int)])/\Below w.heap.size w w':=by
 obtain⟨w1,hw1⟩:=nmE (w.alloc (.cells #[.int .u64 0, .int .u64 0, .int .u32 0] 146));have hb1:=abE hw1;have n1:=anE hw1;have hr1:=hr.below hb1;have HG:=hE0 (adY A 512 c w.heap.size b 8 w1 hr1 hc (by omega) (by omega));have HN:=hE0 (adY A 512 c w.heap.size b 16 w1 hr1 hc (by omega) (by omega));have HS:=hE0 (amr A 512 c w.heap.size b 24 w1 hr1 hc (by omega) (by omega));unfold slG at hG;unfold slN at hN;unfold slS at hS;rw[hG]at HG;rw[hN]at HN;rw[hS]at HS;obtain⟨z0,z1,z2⟩:=aal n1;obtain⟨f0,f1,f2⟩:=acP n1;have hl1:=aaa n1;have HW1:=hE0 hw1;have HM:=hE0 (aff n1 (.int .u64 (G:Int)) (.int .u64 (N:Int)) (.int .u32 (S:Int)));have HF:=hE0 (((hb1.setCell (p:=⟨w.heap.size,0,none⟩) (Nat.le_refl _) (.int .u64 (G:Int))).setCell (p:=⟨w.heap.size,1,none⟩) (Nat.le_refl _) (.int .u64 (N:Int))).setCell (p:=⟨w.heap.size,2,none⟩) (Nat.le_refl _) (.int .u32 (S:Int)));clear hw1 hb1 n1 hr hr1 hG hN hS;go_enter Tryz.func250,Tryz.ntmps250
 go_wp2_with (first | (rw[HW1.out]) | fail)
 refine HG.out.mono ?_;rintro e w2 ⟨rfl,rfl⟩;go_wp2_with fail
 refine HN.out.mono ?_;rintro e w2 ⟨rfl,rfl⟩;go_wp2_with fail
 refine HS.out.mono ?_;rintro e w2 ⟨rfl,rfl⟩;go_wp2_with fail
 (try simp only[Exit.inBlock,Exit.then])
 refine ar2 (g:=w.heap.size) Tryz.results250 ?_ ?_ HM.out ?_
 · rfl
 · rfl
 · exact⟨rfl,HF.out⟩
theorem ap9 (w:World) (A:Option Addr) (n c:Nat) (hn:n≠512):
 Calls Tryz.prog 205 #[.slice A n c] w fun e w'=>e= .returned (.tuple #[.agg #[.int .u64 0, .int .u64 0, .int .u32 0], .bool false])/\Below w.heap.size w w':=by
 obtain⟨w1,hw1⟩:=nmE (w.alloc (.cells #[.int .u64 0, .int .u64 0, .int .u32 0] 146));have hb1:=abE hw1;have n1:=anE hw1;obtain⟨z0,z1,z2⟩:=aal n1;obtain⟨f0,f1,f2⟩:=acP n1;have hl1:=aaa n1;have g1:(n !=512)=true:=by rw[bne_iff_ne];exact hn
 have g2:((n:Int) !=512)=true:=by rw[bne_iff_ne];omega
 have HW1:=hE0 hw1;have HM:=hE0 (aff n1 (.int .u64 0) (.int .u64 0) (.int .u32 0));have HF:=hE0 (((hb1.setCell (p:=⟨w.heap.size,0,none⟩) (Nat.le_refl _) (.int .u64 0)).setCell (p:=⟨w.heap.size,1,none⟩) (Nat.le_refl _) (.int .u64 0)).setCell (p:=⟨w.heap.size,2,none⟩) (Nat.le_refl _) (.int .u32 0));clear hw1 hb1 n1;go_enter Tryz.func205,Tryz.ntmps205
 go_wp2_with (first | (rw[HW1.out]) | fail)
 (try simp only[Exit.inBlock,Exit.then])
 refine alL (g:=w.heap.size) (x:= .bool false) Tryz.results205 ?_ ?_ ?_ HM.out ?_
 · rfl
 · rfl
 · rfl
 · exact⟨rfl,HF.out⟩
theorem aqa (w:World) (A:Option Addr) (c:Nat) (b:List UInt8) (hr:Rd w w.heap.size A 512 b) (hc:512<=c) (G N S:Nat) (hG:slG b=G) (hN:slN b=N) (hS:slS b=S) (y:Bool) (hy:decide (aoF G N S≠b)=y):
 Calls Tryz.prog 205 #[.slice A 512 c] w fun e w'=>e= .returned (.tuple #[.agg #[.int .u64 (if y=true then 0 else (G:Int)), .int .u64 (if y=true then 0 else (N:Int)), .int .u32 (if y=true then 0 else (S:Int))], .bool (!y)])/\Below w.heap.size w w':=by
 have hSl:S<4294967296:=by
  have h:=agv ((b.drop 24).take 4);have e:((b.drop 24).take 4).length=4:=by rw[List.length_take,List.length_drop,hr.1];rfl
  rw[e]at h;rw[<-hS];exact h
 obtain⟨w1,hw1⟩:=nmE (w.alloc (.cells #[.int .u64 0, .int .u64 0, .int .u32 0] 146));have hb1:=abE hw1;have n1:=anE hw1;have HNUM:=hE0 (ai5 w1 A c b ((hr.below hb1).more hb1.size) hc G N S hG hN hS);have HPUT:=hE0 (fun V=>apP V G N S hSl);obtain⟨P,hP⟩:=nmE (aoF G N S);rw[hP]at hy HPUT;have ht:decide (b=P)= !y:=by
  rw[<-hy];by_cases e:P=b
  · subst e;simp
  · rw[decide_eq_false (fun h=>e h.symm),decide_eq_true e];rfl
 have HT:=hE0 ht;have HR:=hE0 hr;have HB1:=hE0 hb1;have HN1:=hE0 n1;have HW1:=hE0 hw1;clear hw1 hb1 n1 hr hP hy hG hN hS ht;go_enter Tryz.func205,Tryz.ntmps205
 go_wp2_with (first | (rw[HW1.out]) | fail)
 refine HNUM.out.mono ?_;rintro e w2 ⟨rfl,hb2⟩;obtain⟨w3,hw3⟩:=nmE (w2.alloc (.cells #[.int .u64 0, .int .u64 0, .int .u32 0] 146));have hb3:=abE hw3;have n3:=anE hw3;obtain⟨w5,hw5⟩:=nmE ((((w3.setCell ⟨w2.heap.size,0,none⟩ (.int .u64 (G:Int))).setCell ⟨w2.heap.size,1,none⟩ (.int .u64 (N:Int))).setCell ⟨w2.heap.size,2,none⟩ (.int .u32 (S:Int))));have n5:w5.heap[w2.heap.size]?=some (.cells #[.int .u64 (G:Int), .int .u64 (N:Int), .int .u32 (S:Int)] 146 (0,0)):=by rw[<-hw5];exact aff n3 _ _ _
 have hb5:Below w2.heap.size w2 w5:=by rw[<-hw5];exact((hb3.setCell (p:=⟨w2.heap.size,0,none⟩) (Nat.le_refl _) _).setCell (p:=⟨w2.heap.size,1,none⟩) (Nat.le_refl _) _).setCell (p:=⟨w2.heap.size,2,none⟩) (Nat.le_refl _) _
 obtain⟨z0,z1,z2⟩:=aal n3;obtain⟨f0,f1,f2⟩:=acP n3;have hlz:=aaa n3;have hb25:=hb2.trans (hb5.mono hb2.size);have HNR:=hE0 ((hb25.block _ (aaa HN1.out)).trans HN1.out);have HB5:=hE0 (HB1.out.trans (hb25.mono HB1.out.size));have HN5:=hE0 n5;have HW3:=hE0 hw3;have HW5:=hE0 hw5;obtain⟨c0,c1,c2⟩:=aal n5;have hl5:=aaa n5;clear hb2 hw3 hb3 n3 hw5 n5 hb5 hb25 HNUM;go_wp2_with (first | (rw[HW3.out]) | (rw[HW5.out]) | fail)
 clear z0 z1 z2 f0 f1 f2 hlz c0 c1 c2 hl5;refine(HPUT.out w5).mono ?_;rintro e w6 ⟨A6,m6,c6,rfl,_,hr6,hb6⟩;have HB6:=hE0 (HB5.out.trans (hb6.mono HB5.out.size));have HEQ:=hE0 (ahH w6 A A6 512 c m6 c6 w6.heap.size b P ((HR.out.below HB6.out).more HB6.out.size) hr6 _ HT.out);have e6:=(hb6.block _ (aaa HN5.out)).trans HN5.out;have e7:=(hb6.block _ (aaa HNR.out)).trans HNR.out;clear hr6 hb6;go_wp2_with fail
 refine HEQ.out.mono ?_;rintro e w7 ⟨rfl,rfl⟩;obtain⟨r0,r1,r2⟩:=aal e6;have hle:=aaa e6;obtain⟨q0,q1,q2⟩:=aal e7;obtain⟨f0,f1,f2⟩:=acP e7;have hlq:=aaa e7;have HM:=hE0 (aff e7 (.int .u64 (if y=true then 0 else (G:Int))) (.int .u64 (if y=true then 0 else (N:Int))) (.int .u32 (if y=true then 0 else (S:Int))));have HF:=hE0 (((HB6.out.setCell (p:=⟨w.heap.size,0,none⟩) (Nat.le_refl _) (.int .u64 (if y=true then 0 else (G:Int)))).setCell (p:=⟨w.heap.size,1,none⟩) (Nat.le_refl _) (.int .u64 (if y=true then 0 else (N:Int)))).setCell (p:=⟨w.heap.size,2,none⟩) (Nat.le_refl _) (.int .u32 (if y=true then 0 else (S:Int))));clear e6 e7 HEQ
 cases y with
 | true=>
  simp only[if_true]at HM HF;go_wp2
  (try simp only[Exit.inBlock,Exit.then])
  refine alL (g:=w.heap.size) (x:= .bool false) Tryz.results205 ?_ ?_ ?_ HM.out ?_
  · rfl
  · rfl
  · rfl
  · exact⟨rfl,HF.out⟩
 | false=>
  simp only[Bool.false_eq_true,if_false]at HM HF;go_wp2
  (try simp only[Exit.inBlock,Exit.then])
  refine alL (g:=w.heap.size) (x:= .bool true) Tryz.results205 ?_ ?_ ?_ HM.out ?_
  · rfl
  · rfl
  · rfl
  · exact⟨rfl,HF.out⟩
def afh (b:List UInt8) (j:Nat):List UInt8:=((List.range j).map fun i=>agj b i).flatten
theorem ag6 (b:List UInt8) (j:Nat):afh b (j+1)=afh b j++agj b j:=by simp[afh,List.range_succ]
theorem aqb (b:List UInt8) (j:Nat):afh b j=b.take (512*j)++List.replicate (512*j-b.length) 0:=by
 induction j with
 | zero=>simp[afh]
 | succ j ih=>
  rw[ag6,ih];unfold agj;have e:512*(j+1)=512*j+512:=by omega
  rw[e,Nat.mul_comm j 512];by_cases h:512*j<=b.length
  · rw[show 512*j-b.length=0 by omega,List.replicate_zero,List.append_nil,<-List.append_assoc,List.take_add];congr 2;omega
  · rw[List.drop_eq_nil_of_le (by omega),List.take_nil,List.nil_append,List.take_of_length_le (by omega),List.take_of_length_le (by omega),List.append_assoc,List.replicate_append_replicate];congr 2;omega
theorem alM (b:List UInt8) (K:Nat) (hK:need b.length=K):(afh b K).take b.length=b:=by
 unfold need at hK;rw[aqb,show b.take (512*K)=b from List.take_of_length_le (by omega),List.take_left]
theorem abR (l:List (Nat × List UInt8)) (bs:List UInt8) (i:Nat) (hf:aj5 bs.length l):aaZ (abw bs l) [] i=aaZ bs l i:=by
 have sec_last:∀z:List UInt8,aaZ z [] i=sec z i:=fun z=>by
  rw[aeq z [] i (by simp)];unfold sec;rw[Nat.mul_comm]
 rw[sec_last];obtain⟨r,hr⟩:=nmE l.reverse;have hl:l=r.reverse:=by rw[<-hr,List.reverse_reverse]
 subst hl;clear hr;induction r with
 | nil=>exact(sec_last bs).symm
 | cons x r ih=>
  rw[List.reverse_cons]at hf ⊢;have hf':aj5 bs.length r.reverse:=fun y hy=>hf y (List.mem_append_left _ hy);have hx:=hf x (by simp);have hlen:=aaI r.reverse bs hf';rw[afz,ah5];by_cases h:x.1=i
  · rw[if_pos h,<-h];exact arZ _ x (by rw[hlen];exact hx.1) hx.2
  · rw[if_neg h,apW _ x i (by rw[hlen];exact hx.1) hx.2 h];exact ih hf'
theorem aci (z:List UInt8) (p:Nat) (b:List UInt8) (j i:Nat):aaZ z (aez p b j) i=if p<=i/\i<p+j then agj b (i-p) else aaZ z [] i:=by
 induction j with
 | zero=>rw[if_neg (by omega)];rfl
 | succ j ih=>
  rw[ako,ah5,ih];by_cases h:p+j=i
  · rw[if_pos h,if_pos (by omega),show i-p=j by omega]
  · rw[if_neg h];by_cases h2:p<=i/\i<p+j
    · rw[if_pos h2,if_pos (by omega)]
    · rw[if_neg h2,if_neg (by omega)]
theorem aeN{bs bs':List UInt8}{l l':List (Nat × List UInt8)}(p j:Nat) (h:∀i,i<j->aaZ bs l (p+i)=aaZ bs' l' (p+i)):adC bs l p j=adC bs' l' p j:=by
 induction j with
 | zero=>rfl
 | succ j ih=>rw[adh,adh,ih (fun i hi=>h i (by omega)),h j (by omega)]
theorem an0 (z:List UInt8) (p:Nat) (b:List UInt8) (K:Nat):adC z (aez p b K) p K=afh b K:=by
 have:∀j,j<=K->adC z (aez p b K) p j=afh b j:=fun j=>by
  induction j with
  | zero=>intro _;rfl
  | succ j ih=>
   intro hj;rw[adh,ag6,ih (by omega),aci,if_pos (by omega)];congr 2;omega
 exact this K (Nat.le_refl _)
section
variable {bs:List UInt8} {H:Hp}
theorem Rt.mid (h:Rt bs H) (hc:H.cap<=16384){A B:List Bk}{x:Bk}(hb:H.blks=A++x::B):(∀y∈A,32<=y.size/\y.off+y.size<=x.off)/\(∀y∈B,x.off+x.size<=y.off)/\aaB (x.size:Int)=true/\184<=x.off/\32<=x.size/\x.off+x.size<=bs.length:=by
 have hM:=h.md hc;have ht:=hM.tl;rw[hb]at ht;obtain⟨_,t2,_,_,t5,t6,tA,tB⟩:=agm ht;have hf:=hM.facts;have hx:=hf x (by rw[hb];simp);exact⟨fun y hy=>⟨(hf y (by rw[hb];simp[hy])).2,tA y hy⟩,tB,t2,t5,hx.2,t6⟩
theorem Rt.gave (h:Rt bs H) (hc:H.cap<=16384){A1 B1:List Bk}{p n:Option Bk}{x:Bk}(hb:H.blks=(A1++p.toList)++x::(n.toList++B1)) (hN:alu A1 p n B1){out:List UInt8}
 (hP:∀z∈H.blks,z.used=true->z≠x->∀i,Pay z i->out[i]?=bs[i]?):Held H bs (H.give (A1++p.toList).length) out:=by
 intro z hz hzu y hy hyu e i i1 i2 i3;obtain⟨tA,tB,_,_,t5,_⟩:=h.mid hc hb;obtain⟨gb,_⟩:=alw hb hN;by_cases hzx:z=x
 · exfalso;subst hzx;rw[gb]at hy;rcases List.mem_append.1 hy with hy | hy
   · have:=tA y (by simp[hy]);omega
   · rcases List.mem_cons.1 hy with rfl | hy
     · cases hyu
     · have:=tB y (by simp[hy]);omega
 · exact hP z hz hzu hzx i ⟨i1,i2⟩
theorem Rt.cutting (h:Rt bs H) (hc:H.cap<=16384){A B:List Bk}{xo xs:Nat}(hb:H.blks=A++⟨xo,xs,true⟩::B){s:Nat}(hs:aaB (s:Int)=true) (hle:s+32<=xs):
 ∃(b1 b2:List UInt8) (H1:Hp) (A1 B1:List Bk) (p n:Option Bk),aeo bs (xo:Int) (s:Int) true=some b1/\aeo b1 ((xo+s:Nat):Int) ((xs-s:Nat):Int) true=some b2/\b1.length=bs.length/\b2.length=bs.length/\
  H1.cap=H.cap/\Rt b2 H1/\H1.blks=(A1++p.toList)++⟨xo+s,xs-s,true⟩::(n.toList++B1)/\alu A1 p n B1/\H1.give (A1++p.toList).length=H.cut A.length s/\
  ∀out:List UInt8,(∀z∈H1.blks,z.used=true->z≠⟨xo+s,xs-s,true⟩->∀i,Pay z i->out[i]?=b2[i]?)->Held H bs (H.cut A.length s) out/\∀z∈H.blks,z.used=true->z.off≠xo->∀i,Pay z i->out[i]?=bs[i]?:=by
 obtain⟨s1,s2,l1,l2,hblk,hR1,P1,P2⟩:=h.cuts hc hb rfl hs hle;obtain⟨tA,tB,_,t4,t5,_⟩:=h.mid hc hb;dsimp only at s1 s2 l1 l2 hblk hR1 P1 P2 tA tB t4 t5;have q:=(aab _).1 hs;obtain⟨H1,hH1⟩:=nmE (((H.use A.length true).size A.length s).put (A.length+1) ⟨xo+s,xs-s,true⟩);rw[hH1]at hblk hR1;obtain⟨A1,p,n,B1,eA,eB,hN⟩:=alv (A++ [⟨xo,s,true⟩]) B;have hlen:(A1++p.toList).length=A.length+1:=by rw[<-eA];simp
 have hbx:aam H.blks A.length=⟨xo,xs,true⟩:=by rw[hb,ad9]
 have hcut:H1.give (A1++p.toList).length=H.cut A.length s:=by
  unfold Hp.cut;rw[hbx];dsimp only;rw[if_neg (by omega),hH1,hlen]
 have hb1:H1.blks=(A1++p.toList)++⟨xo+s,xs-s,true⟩::(n.toList++B1):=by rw[hblk,eA,eB]
 refine⟨_,_,H1,A1,B1,p,n,s1,s2,l1,l2,by rw[<-hH1];rfl,hR1,hb1,hN,hcut,fun out hP=> ?_⟩;have hz:∀z∈H.blks,z.used=true->z.off≠xo->∀i,Pay z i->out[i]?=bs[i]?:=fun z hz hzu hzo i hi=>by
  have hne:z≠⟨xo,xs,true⟩:=fun e=>hzo (by rw[e]);rw[<-P1 z hz hne i hi];rw[hb]at hz;rcases List.mem_append.1 hz with hz | hz
  · have:=tA z hz;exact hP z (by rw[hblk];simp[hz]) hzu (fun e=>by rw[e]at this;dsimp only at this;omega) i hi
  · rcases List.mem_cons.1 hz with hz | hz
    · exact absurd hz hne
    · have:=tB z hz;exact hP z (by rw[hblk];simp[hz]) hzu (fun e=>by rw[e]at this;dsimp only at this;omega) i hi
 refine⟨fun z hzm hzu y hy hyu e i i1 i2 i3=> ?_,hz⟩;by_cases hzo:z.off=xo
 · rw[<-hcut]at hy;obtain⟨gb,_⟩:=alw hb1 hN;rw[gb]at hy;have hy1:y=⟨xo,s,true⟩:=by
    rcases List.mem_append.1 hy with hy | hy
    · have hy:y∈A++ [⟨xo,s,true⟩]:=by rw[eA];simp[hy]
      rcases List.mem_append.1 hy with hy | hy
      · have:=tA y hy;omega
      · simpa using hy
    · rcases List.mem_cons.1 hy with rfl | hy
      · cases hyu
      · have hy:y∈B:=by rw[eB];simp[hy]
        have:=tB y hy;omega
   subst hy1;dsimp only at i3 e;rw[<-P2 i ⟨by dsimp only;omega,i3⟩];exact hP ⟨xo,s,true⟩ (by rw[hblk];simp) rfl (fun e=>by injection e with e1 e2;omega) i ⟨by dsimp only;omega,i3⟩
 · exact hz z hzm hzu hzo i ⟨i1,i2⟩
theorem Rt.uncut (h:Rt bs H){A B:List Bk}{xo xs:Nat}(hb:H.blks=A++⟨xo,xs,true⟩::B){s:Nat}(hlt:xs<s+32):Rt bs (H.cut A.length s)/\Held H bs (H.cut A.length s) bs:=by
 have hbx:aam H.blks A.length=⟨xo,xs,true⟩:=by rw[hb,ad9]
 have hcut:H.cut A.length s=H.use A.length true:=by
  unfold Hp.cut;rw[hbx];dsimp only;rw[if_pos (by omega)]
 refine⟨?_,fun _ _ _ _ _ _ _ _ _ _ _=>rfl⟩;rw[hcut];refine h.congr ?_ rfl rfl;rw[agS hb true,hb]
end
theorem atO{H:Hp}{i:Nat}(hi:i<H.blks.length):(H.use i true).use i true=H.use i true:=by
 have e:aam (H.use i true).blks i={aam H.blks i with used:=true}:=by
  show aam (H.blks.set i _) i=_;rw[acA _ _ _ _ hi,if_pos rfl]
 unfold Hp.use at e ⊢;dsimp only at e ⊢;rw[e,List.set_set]
theorem atP{H:Hp}{i s:Nat}(hi:i<H.blks.length):(H.use i true).cut i s=H.cut i s:=by
 have e:aam (H.use i true).blks i={aam H.blks i with used:=true}:=by
  show aam (H.blks.set i _) i=_;rw[acA _ _ _ _ hi,if_pos rfl]
 unfold Hp.cut;rw[e,atO hi]
theorem an1 (r:List Bk) (y:Bk):acp (r++ [y])=if y.used=true then 0 else y.size:=by
 have e:aam (r++ [y]) ((r++ [y]).length-1)=y:=by
  rw[show(r++ [y]).length-1=r.length by simp];exact ad9 r y []
 unfold acp;rw[if_neg (by simp),e]
section
variable {bs:List UInt8} {H:Hp}
theorem Rt.tail (h:Rt bs H) (hc:H.cap<=16384):∃A p,H.blks=A++p.toList/\(∀y,p=some y->y.used=false)/\frO (abN bs (bs.length:Int))=p/\acp H.blks=abc p.toList:=by
 have hM:=h.md hc;have hb:H.blks=H.blks++ []:=by simp
 rcases hM.ends hb (o:=bs.length) h.lenE.symm with⟨e1,e2⟩ | ⟨r,y,e1,e2⟩
 · refine⟨[],none,e1,fun y hy=>(by cases hy),?_,?_⟩
   · rw[e2];rfl
   · rw[e1];rfl
 · have e3:=an1 r y
   cases hu:y.used with
   | true=>
    rw[hu,if_pos rfl]at e3;refine⟨H.blks,none,by simp,fun y hy=>(by cases hy),?_,by rw[e1,e3];rfl⟩;rw[e2];show(if y.used=true then none else some y)=none;rw[hu,if_pos rfl]
   | false=>
    rw[hu,if_neg (by simp)]at e3;refine⟨r,some y,e1,?_,?_,by rw[e1,e3];simp[abc]⟩
    · intro z hz
      cases hz;exact hu
    rw[e2];show(if y.used=true then none else some y)=some y;rw[hu,if_neg (by simp)]
theorem ar3{s i:Nat}(hf:H.find s=some i):H.take s=(some (aam H.blks i).off,(H.out i).cut i s):=by
 unfold Hp.take;rw[hf]
theorem aqc{s:Nat}(hf:H.find s=none) (hcap:H.cap<lenB H.blks+s-acp H.blks):H.take s=(none,H):=by
 unfold Hp.take;rw[hf];dsimp only;rw[if_pos hcap]
theorem ar4{s:Nat}(hf:H.find s=none) (hcap:¬H.cap<lenB H.blks+s-acp H.blks){A:List Bk}{p:Option Bk}(hb:H.blks=A++p.toList) (ht:acp H.blks=abc p.toList)
 (hp:∀y,p=some y->y.off=184+abc A/\0<y.size):∃H',H.take s=(some (184+abc A),H')/\H'.blks=A++ [⟨184+abc A,s,true⟩]/\H'.lists=tkO H.lists p/\H'.cap=H.cap:=by
 refine⟨(H.take s).2,?_,?_,?_,?_⟩
 · have:(H.take s).1=some (184+abc A):=by
    unfold Hp.take;rw[hf];dsimp only;rw[if_neg hcap]
    cases p with
    | none=>
     have e:acp H.blks=0:=ht;rw[e,if_neg (by omega)];rw[hb];simp[lenB]
    | some y=>
     have e:acp H.blks=y.size:=by rw[ht];simp[abc]
     obtain⟨h1,h2⟩:=hp y rfl;rw[e,if_pos h2];have e2:H.blks.length-1=A.length:=by rw[hb];simp
     rw[e2,hb];show some (aam (A++y:: []) A.length).off=_;rw[ad9,h1]
   rw[<-this]
 · unfold Hp.take;rw[hf];dsimp only;rw[if_neg hcap]
   cases p with
   | none=>
    have e:acp H.blks=0:=ht;rw[e,if_neg (by omega)];have hb':H.blks=A:=by rw[hb];simp
    show H.blks.take H.blks.length++_::H.blks.drop H.blks.length=_;rw[List.take_length,List.drop_length,hb'];rfl
   | some y=>
    have e:acp H.blks=y.size:=by rw[ht];simp[abc]
    obtain⟨h1,h2⟩:=hp y rfl;rw[e,if_pos h2];have e2:H.blks.length-1=A.length:=by rw[hb];simp
    rw[e2];have hb2:(H.out A.length).blks=A++y:: []:=hb;have:=agS (amL hb2 s) true;show(((H.out A.length).size A.length s).use A.length true).blks=_;rw[this,<-h1]
 · unfold Hp.take;rw[hf];dsimp only;rw[if_neg hcap]
   cases p with
   | none=>
    have e:acp H.blks=0:=ht;rw[e,if_neg (by omega)];rfl
   | some y=>
    have e:acp H.blks=y.size:=by rw[ht];simp[abc]
    obtain⟨h1,h2⟩:=hp y rfl;rw[e,if_pos h2];have e2:H.blks.length-1=A.length:=by rw[hb];simp
    rw[e2];show(H.out A.length).lists=_;rw[agT hb];rfl
 · exact take_cap
theorem Rt.usedHeld (h:Rt bs H) (hc:H.cap<=16384){A B:List Bk}{xo xs:Nat}(hb:H.blks=A++⟨xo,xs,false⟩::B){b2 out:List UInt8}{H2 H3:Hp}(hb2:H2.blks=A++⟨xo,xs,true⟩::B)
 (h1:∀z∈H.blks,z.used=true->∀i,Pay z i->b2[i]?=bs[i]?) (h2:∀z∈H2.blks,z.used=true->z.off≠xo->∀i,Pay z i->out[i]?=b2[i]?):Held H bs H3 out:=by
 intro z hz hzu y _ _ _ i i1 i2 _;have hp:Pay z i:=⟨i1,i2⟩;obtain⟨tA,tB,_,t4,t5,_⟩:=h.mid hc hb;dsimp only at tA tB t4 t5;rw[<-h1 z hz hzu i hp];rw[hb]at hz;rcases List.mem_append.1 hz with hz | hz
 · have:=tA z hz;exact h2 z (by rw[hb2];simp[hz]) hzu (by omega) i hp
 · rcases List.mem_cons.1 hz with hz | hz
   · rw[hz]at hzu;cases hzu
   · have:=tB z hz;exact h2 z (by rw[hb2];simp[hz]) hzu (by omega) i hp
end
end Go.Proofs.YtncadccbepjekaaGreatDoor
