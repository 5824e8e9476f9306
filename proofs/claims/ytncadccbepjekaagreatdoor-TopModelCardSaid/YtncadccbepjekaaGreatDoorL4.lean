/- Texts of mine, joined. -/
import Derived.Laws.OwnMore
import Derived.Great.BuildSlice
import Derived.Test.YtncadccbepjekaaGreatDoorL3
set_option maxRecDepth 100000
set_option maxHeartbeats 2000000
namespace Go.Proofs.YtncadccbepjekaaGreatDoor
open Go.RowKit
section
variable {S:Nat->Prop} {w:World} {g h c:Nat} {W:Option Addr} {cw:Nat} {bs:List UInt8} {ws:List Wr} {left:Int} {off:Bool}
theorem anz (k:Dk S w g h c W cw bs ws left false) (hl:bs.length<=100000) (hws:ws.length<=1000000) (hleft:0<left) (hleft2:left<=9223372036854775807) (i:Nat) (hi:i*512+512<=bs.length) (A:Option Addr) (cA:Nat) (d:List UInt8) (hd:d.length=512) (hr:Rd w w.heap.size A 512 d) (hAg:∀a,A=some a->a.block≠g):
 Calls Tryz.prog 255 #[.pointer (some ⟨g,0,none⟩), .int .i64 (i:Int), .slice A 512 cA] w fun e w'=>e= .returned .nilIface/\(∃W' cw' b cb,Dk (ad2 S w w') w' g h c W' cw' bs (ws++ [⟨i,b,cb,d⟩]) (left-1) false)/\Tch S w w':=by
 have hA:A=none->cA=0:=fun e=>by
  obtain⟨_,_,e1,_⟩:=hr.2 (by omega);rw[e]at e1;cases e1
 have HH:=hE0 (ae6 k hl i hi);have c2:=k.c2;have c3:=k.c3;have hle0:(left==0)=false:=by rw[beq_eq_false_iff_ne];omega
 have f2:=k.thaw 2;obtain⟨w0,hw0⟩:=nmE ((w.setCell ⟨g,2,none⟩ (.int .i64 (left-1))).drew);have k0:Dk S w0 g h c W cw bs ws (left-1) false:=by rw[<-hw0];exact(k.set2 (left-1)).drew
 have hsz0:w0.heap.size=w.heap.size:=by rw[<-hw0];simp[World.setCell]
 have hb0:Tch (fun j=>j=g) w w0:=by rw[<-hw0];exact(Tch.set (S:=fun j=>j=g) w ⟨g,2,none⟩ _ rfl).drew
 have r0:Rd w0 w0.heap.size A d.length d:=by rw[hd];exact hr.tch hb0 hAg
 have HC:=abT A cA w0.heap.size d w0 r0 (Nat.le_refl _) hA (by omega);rw[hd]at HC;have HC:=hE0 HC;have K0:=hE0 k0;have HW0:=hE0 hw0;have HB0:Hid (Tch S w w0):=⟨hb0.os,hb0.tape,hb0.output,hb0.size,fun j hj hn=>hb0.block j hj (fun e=>hn (by rw[e];exact k.sg))⟩;have HD:=hE0 hd;have HSZ:=hE0 hsz0;clear hw0 k0 r0 hb0 hd k hr hA hsz0 hAg;go_enter Tryz.func255,Tryz.ntmps255
 go_wp2_with fail
 refine HH.out.mono ?_;rintro e w1 ⟨rfl,rfl⟩;go_wp2_with fail
 refine aao w0.heap.size [([0,1,2,3,4,5,6],7),([8],9)] [] [10,11,12,13] (by kernel_rfl) (by kernel_rfl) (by kernel_rfl) (fun _ _ _ _ _ h=>h) ?_;rw[HW0.out];clear c2 c3 hle0 f2;have q0:∀x:LaterB w0.heap.size w0,x.val.cell? ⟨g,1,none⟩=some (.slice W ws.length cw):=fun x=>(x.ext.cell (p:=⟨g,1,none⟩) K0.out.lt).trans K0.out.c1;refine tail_cons (l:= ?seg1) ?hseg1 ?_
 case hseg1=>simp only[pick,lE1,lE2,lE3];rfl
 repeat (go_big_quiet_step (fail))
 refine wpQuiet_nil ?_;clear q0;refine aar (vs:= #[.slice A 512 cA]) Tryz.call92 rfl rfl rfl (R:=fun r w'=>∃b cb,r= .slice (some ⟨b,0,none⟩) 512 cb/\w0.heap.size<=b/\Fil w' b d) (HC.out.mono ?_) w0.heap.size (Nat.le_refl _) ?_
 · rintro e w' ⟨A',c',rfl,ho,hb⟩;rw[HD.out]at ho;obtain⟨b,cb,e1,_,_⟩:=ahD ho (by omega);injection e1 with e1 _ e3;subst e1 e3;exact⟨_,by rw[HD.out],hb,b,c',rfl,(ho.lt b rfl).1,Fil.of_own ho⟩
 rintro r w1 hb1 ⟨b,cb,rfl,hbb,hfil⟩;refine tail_cons (l:= ?seg2) ?hseg2 ?_
 case hseg2=>simp only[pick,lE1,lE2,lE3];rfl
 simp only[Act.put,lE4,lE5,lE6];repeat (go_big_quiet_step (fail))
 refine wpQuiet_nil ?_;obtain⟨w3,hw3⟩:=nmE (w1.alloc (.cells #[.int .i64 (i:Int), .slice (some ⟨b,0,none⟩) 512 cb] 167));have hro:=apr w1 (i:Int) (some ⟨b,0,none⟩) 512 cb;rw[hw3]at hro;have hb13:=abE hw3;have hn3:=anE hw3;have hb3:Below w0.heap.size w0 w3:=hb1.trans (hb13.mono hb1.size);refine amm (w1:=w3) (v:= .slice (some ⟨w1.heap.size,0,none⟩) 1 1) rfl rfl ?rv1 (hb13.mono hb1.size) ?_
 case rv1=>exact aaQ rfl rfl hro
 refine⟨w0.heap.size,Nat.le_refl _,?_⟩;refine aaH (l:= ?la3) (t:= ?tl3) ?hla3 ?htl3 ?_
 case hla3=>rfl
 case htl3=>simp only[pick,lE1,lE2,lE3];rfl
 refine wpQuiet_nil ?_;simp only[Act.put,List.setIfInBounds_toArray];obtain⟨i0,hi0,hz0,hz1,hz2⟩:=info_parts apq;have hwcap:=K0.out.wcap;have hnew:∀j u,[Value.int .i64 (i:Int), .slice (some ⟨b,0,none⟩) 512 cb][j]?=some u->w3.cell? ((⟨w1.heap.size,0,none⟩:Addr).add j)=some u:=by
  intro j u hu;have e:(⟨w1.heap.size,0,none⟩:Addr).add j=⟨w1.heap.size,j,none⟩:=by unfold Addr.add;split<;>simp_all
  rw[e,cell_of_row w3 _ j _ _ (0,0) hn3];simpa using hu
 have hone:∀u∈ [Value.int .i64 (i:Int), .slice (some ⟨b,0,none⟩) 512 cb],u.oneCell'=true:=by
  intro u hu;simp at hu;rcases hu with rfl | rfl<;>rfl
 have k3:=K0.out.below hb3;refine wpList_append_own_at w3 rfl (.tmp 46) (.tmp 51) 126 rfl 0 167 i0 _ 2 32 Tryz.underlying126 hi0 hz0 hz1 hz2 rfl (by decide) (.slice W ws.length cw) ws.length (akX ws) rfl k3.wai ⟨w1.heap.size,0,none⟩ 1 1 _ rfl rfl hnew hone (by unfold maxLen;omega) (by omega) (Nat.zero_le _) ?_;intro v4 w4 own4 gr4 _ at4;have own4':w4.ownsRow 0 167 2 v4 (ws.length+1) (akX (ws++ [⟨i,b,cb,d⟩])):=by rw[agA];exact own4
 obtain⟨p1,p2,W',cw',rfl,p3,p4⟩:=K0.out.pushed hb3 ⟨i,b,cb,d⟩ hi hbb HD.out (hfil.keep (hb13.block b hfil.lt)) v4 own4' gr4 at4;have P3:=hE0 p3;have P4:=hE0 p4;clear p3 p4 own4 own4' gr4 at4 k3 hone hnew hi0 hz0 hz1 hz2 hn3 hro hw3;go_wp2
 go_ret
 refine⟨rfl,⟨W',cw',b,cb,P3.out.more fun j hj=> ?_⟩,HB0.out.trans P4.out (fun _ _ h=>h)⟩;rcases(P3.out.foot hj).1 with h1 | h1
 · exact .inl h1
 · exact .inr ⟨by have:=HSZ.out;omega,h1.2⟩
theorem anA (k:Dk S w g h c W cw bs ws left true) (hl:bs.length<=100000) (hleft:left≠0) (i:Nat) (hi:i*512+512<=bs.length) (A:Option Addr) (cA:Nat):
 Calls Tryz.prog 255 #[.pointer (some ⟨g,0,none⟩), .int .i64 (i:Int), .slice A 512 cA] w fun e w'=>e= .returned (.iface 130 (.int .i64 6))/\w=w':=by
 have HH:=hE0 (ae6 k hl i hi);have c2:=k.c2;have c3:=k.c3;have hle0:(left==0)=false:=by rw[beq_eq_false_iff_ne];exact hleft
 go_enter Tryz.func255,Tryz.ntmps255
 go_wp2_with fail
 with_reducible refine HH.out.mono ?_
 rintro e w1 ⟨rfl,rfl⟩;go_wp2
 go_ret
 exact⟨rfl,rfl⟩
theorem anB (k:Dk S w g h c W cw bs ws 0 off) (hl:bs.length<=100000) (i:Nat) (hi:i*512+512<=bs.length) (A:Option Addr) (cA:Nat):
 Calls Tryz.prog 255 #[.pointer (some ⟨g,0,none⟩), .int .i64 (i:Int), .slice A 512 cA] w fun e w'=>e= .returned (.iface 130 (.int .i64 6))/\Dk S w' g h c W cw bs ws 0 true/\Tch S w w':=by
 have HH:=hE0 (ae6 k hl i hi);have c2:=k.c2;have c3:=k.c3;have f3:=k.thaw 3;have K1:=hE0 (k.set3 true);have T1:=hE0 (Tch.set (S:=S) w ⟨g,3,none⟩ (.bool true) k.sg);clear k;go_enter Tryz.func255,Tryz.ntmps255
 go_wp2_with fail
 with_reducible refine HH.out.mono ?_
 rintro e w1 ⟨rfl,rfl⟩;go_wp2
 go_ret
 exact⟨rfl,K1.out,T1.out⟩
theorem anC (k:Dk S w g h c W cw bs ws left true):
 Calls Tryz.prog 209 #[.pointer (some ⟨g,0,none⟩)] w fun e w'=>e= .returned (.iface 130 (.int .i64 6))/\w=w':=by
 have c3:=k.c3;go_enter Tryz.func209,Tryz.ntmps209
 go_wp2
 go_ret
 exact⟨rfl,rfl⟩
end
def need (n:Nat):Nat:=(n+511)/512
def agB (b:List UInt8) (i:Nat):List UInt8:=(b.drop (i*512)).take 512++List.replicate (512-(b.length-i*512)) 0
theorem aeI (b:List UInt8) (i:Nat):(agB b i).length=512:=by
 simp[agB];omega
theorem Fill.over{B:Nat}{w0 w:World}{g:Nat}{t:TypeId}{bs:List UInt8}(h:Fill w g t bs) (hb:Below B w0 w) (hB:B<=g) (off:Nat) (cs:List UInt8):
 Fill (w.setRow g (((acb bs).toList.take off++(cs.map bv++(acb bs).toList.drop (off+(cs.map bv).length))).toArray)) g t (lay bs off cs)/\Below B w0 (w.setRow g (((acb bs).toList.take off++(cs.map bv++(acb bs).toList.drop (off+(cs.map bv).length))).toArray)):=by
 refine⟨?_,below_setRow hb hB _⟩;unfold Fill at h ⊢;rw[setRow_heap w g _ _ t _ h];simp[acb,lay]
section
variable {S:Nat->Prop} {w:World} {g h c:Nat} {W:Option Addr} {cw:Nat} {bs:List UInt8} {ws:List Wr} {left:Int} {off:Bool}
theorem ad4 (w:World) (n:Nat) (hn:n<=9223372036854775807) (m:Nat) (hm:need n=m):
 Calls Tryz.prog 253 #[.int .i64 (n:Int)] w fun e w'=>e= .returned (.int .i64 (m:Int))/\w=w':=by
 unfold need at hm;by_cases h:n%512=0
 · have s1:decide ((0:Int)<(n:Int)%512)=false:=decide_eq_false (by omega);have HM:Hid ((n:Int)/512=(m:Int)):=(show _=_ by omega);clear hm;go_enter Tryz.func253,Tryz.ntmps253
   go_wp2
   go_ret
   exact⟨app HM.out,rfl⟩
 · have s1:decide ((0:Int)<(n:Int)%512)=true:=decide_eq_true (by omega);have HM:Hid ((n:Int)/512+1=(m:Int)):=(show _=_ by omega);clear hm;go_enter Tryz.func253,Tryz.ntmps253
   go_wp2
   go_ret
   exact⟨app HM.out,rfl⟩
theorem aj5 (k:Dk S w g h c W cw bs ws left off) (N:Nat) (hN:bs.length=512*N) (hN2:N<=128) (p n:Nat) (hfit:p+need n<=N):
 Calls Tryz.prog 252 #[.pointer (some ⟨g,0,none⟩), .int .i64 (p:Int), .int .i64 (n:Int)] w fun e w'=>e= .returned (.bool true)/\w=w':=by
 have HS:=ad3 k (by omega);rw[show bs.length/512=N by omega]at HS;have HS:=hE0 HS;obtain⟨m,hm⟩:=nmE (need n);have HE:=hE0 (ad4 w n (by unfold need at hfit;omega) m hm);rw[hm]at hfit;have h1:(p:Int)<=(N:Int):=by omega
 have h2:(m:Int)<=(N:Int)-(p:Int):=by omega
 clear hm k hN;go_enter Tryz.func252,Tryz.ntmps252
 go_wp2_with fail
 with_reducible refine HS.out.mono ?_
 rintro e w1 ⟨rfl,rfl⟩;go_wp2_with fail
 with_reducible refine HE.out.mono ?_
 rintro e w1 ⟨rfl,rfl⟩;go_wp2_with fail
 with_reducible refine HS.out.mono ?_
 rintro e w1 ⟨rfl,rfl⟩;go_wp2
 go_ret
 exact⟨rfl,rfl⟩
end
theorem alm (w:World) (A:Addr) (cA:Nat) (b:List UInt8) (hr:Rd w w.heap.size (some A) b.length b) (_hb:b.length<=1000000) (hpos:0<b.length):
 Calls Tryz.prog 256 #[.slice (some A) b.length cA] w fun e w'=>e= .returned (.slice (some ⟨w.heap.size,0,none⟩) 512 512)/\Fill w' w.heap.size 5 (agB b 0)/\Below w.heap.size w w':=by
 obtain⟨z,hz⟩:=nmE (List.replicate 512 (0:UInt8));have hzl:z.length=512:=by rw[<-hz];simp
 have hmk:∀W:World,(Instr.makeSlice 37 (.int .i64 512) (.int .i64 512)).run Tryz.prog W= .ok (.slice (some ⟨W.heap.size,0,none⟩) 512 512) (W.alloc (.cells (acb z) 5)):=fun W=>by
  have:=run_make_row' (P:=Tryz.prog) 37 5 (.int .u8 0) 1 Tryz.underlying37 afo rfl .i64 .i64 512 (by omega) (by omega) W;rw[acK,hz]at this;exact this
 obtain⟨w0,hw0⟩:=nmE (w.alloc (.cells (acb z) 5));have hf:Fill w0 w.heap.size 5 z:=by rw[<-hw0];exact Fill.made w 5 _
 have hbl:=abE hw0;have rs:=hr.below hbl;have hn:((b.take 512).map bv).length=Nat.min b.length 512:=by rw[List.length_map,List.length_take];exact Nat.min_comm _ _
 have hsrc:∀j v,((b.take 512).map bv)[j]?=some v->w0.cell? (A.add j)=some v:=fun j v hj=>adm rs j v (by
  rw[List.map_take]at hj;rcases Nat.lt_or_ge j 512 with h | h
  · rwa [List.getElem?_take_of_lt h]at hj
  · rw[List.getElem?_eq_none (by simp;omega)]at hj;cases hj)
 have hov:=hf.over hbl (Nat.le_refl _) 0 (b.take 512);have e1:lay z 0 (b.take 512)=agB b 0:=by
  rw[<-hz];simp only[lay,agB,List.take_zero,List.nil_append,Nat.zero_mul,List.drop_zero,Nat.zero_add,List.drop_replicate,List.length_take,Nat.sub_zero];congr 2;omega
 rw[e1]at hov;have HOV:=hE0 hov;have HSRC:=hE0 hsrc;have HN:=hE0 hn;have HF:=hE0 hf;have HFIT:Hid (0+((b.take 512).map bv).length<=(acb z).size):=(show _<=_ by rw[adP,hzl,List.length_map,List.length_take];omega);have HW0:=hE0 hw0;clear hov hsrc hn hf hbl rs hr e1 hz hzl hw0;go_enter Tryz.func256,Tryz.ntmps256
 go_wp2_with (rw[HW0.out];(refine wpList_copy_own rfl (.tmp 5) (.tmp 6) 37 37 rfl 5 Tryz.underlying37 (by kernel_rfl) w.heap.size 0 512 512 A b.length cA rfl rfl _ 5 HF.out ((b.take 512).map bv) HN.out HSRC.out HFIT.out (afG _) ?_);generalize w0.setRow _ _=w2 at HOV ⊢)
 go_ret
 exact⟨rfl,HOV.out.1,HOV.out.2⟩
def wk (K:Nat) (left:Int) (off:Bool):Nat:=if off=true then 0 else if left<0 then K else min K left.toNat
def ab1 (left:Int) (j:Nat):Int:=if left<0 then left else left-j
def agC (p:Nat) (b:List UInt8) (j:Nat):List (Nat × List UInt8):=(List.range j).map fun i=>(p+i,agB b i)
theorem aj6 (p:Nat) (b:List UInt8) (j:Nat):agC p b (j+1)=agC p b j++ [(p+j,agB b j)]:=by simp[agC,List.range_succ]
theorem apu (b:List UInt8) (i:Nat):agB (b.drop (i*512)) 0=agB b i:=by simp[agB]
theorem agD (p:Nat) (b:List UInt8) (j:Nat):(agC p b j).length=j:=by simp[agC]
theorem ahU (left:Int):ab1 left 0=left:=by unfold ab1;split<;>omega
theorem anD (left:Int) (j:Nat) (h:(j:Int)<=left\/left<0):ab1 (ab1 left j) 1=ab1 left (j+1):=by
 unfold ab1;by_cases h0:left<0
 · simp[h0]
 · have:¬(left-(j:Int)<0):=by omega
   simp[h0,this];omega
section
variable {S:Nat->Prop} {w:World} {g h c:Nat} {W:Option Addr} {cw:Nat} {bs:List UInt8} {ws:List Wr} {left:Int} {off:Bool}
theorem aln (k:Dk S w g h c W cw bs ws left false) (hl:bs.length<=100000) (hws:ws.length<=1000000) (hl0:left≠0) (hl2:left<=9223372036854775807) (i:Nat) (hi:i*512+512<=bs.length) (A:Option Addr) (cA:Nat) (d:List UInt8) (hd:d.length=512) (hr:Rd w w.heap.size A 512 d) (hAg:∀a,A=some a->a.block≠g):
 Calls Tryz.prog 255 #[.pointer (some ⟨g,0,none⟩), .int .i64 (i:Int), .slice A 512 cA] w fun e w'=>e= .returned .nilIface/\(∃W' cw' b cb,Dk (ad2 S w w') w' g h c W' cw' bs (ws++ [⟨i,b,cb,d⟩]) (ab1 left 1) false)/\Tch S w w':=by
 by_cases h0:left<0
 · have e:ab1 left 1=left:=by simp[ab1,h0]
   rw[e];exact anx k hl hws h0 i hi A cA d hd hr
 · have e:ab1 left 1=left-1:=by simp[ab1,h0]
   rw[e];exact anz k hl hws (by omega) hl2 i hi A cA d hd hr hAg
theorem anF (k:Dk S w g h c W cw bs ws left off) (hl:bs.length<=100000) (hbad:off=true\/left=0) (i:Nat) (hi:i*512+512<=bs.length) (A:Option Addr) (cA:Nat):
 Calls Tryz.prog 255 #[.pointer (some ⟨g,0,none⟩), .int .i64 (i:Int), .slice A 512 cA] w fun e w'=>e= .returned (.iface 130 (.int .i64 6))/\Dk S w' g h c W cw bs ws left true/\Tch S w w':=by
 by_cases h0:left=0
 · subst h0;exact anB k hl i hi A cA
 · obtain rfl:off=true:=by rcases hbad with h | h;exact h;exact absurd h h0
   refine(anA k hl h0 i hi A cA).mono ?_;rintro e w' ⟨rfl,rfl⟩;exact⟨rfl,k,Tch.refl _ _⟩
theorem Dk.regrow{S:Nat->Prop}{w w1 w2:World}(k:Dk (ad2 (ad2 S w w1) w1 w2) w2 g h c W cw bs ws left off) (h1:w.heap.size<=w1.heap.size) (h2:w1.heap.size<=w2.heap.size):Dk (ad2 S w w2) w2 g h c W cw bs ws left off:=k.more fun j hj=>by
 rcases(k.foot hj).1 with(h | h) | h
 · exact .inl h
 · exact .inr ⟨h.1,by omega⟩
 · exact .inr ⟨by omega,h.2⟩
theorem Tch.regrow{S:Nat->Prop}{w w1 w2:World}(h:Tch S w w1) (h2:Tch (ad2 S w w1) w1 w2):Tch S w w2:=h.trans h2 fun i hi hg=>by
 rcases hg with h | h
 · exact h
 · omega
theorem anG (k:Dk S w g h c W cw bs ws left off) (N:Nat) (hN:bs.length=512*N) (hN2:N<=128) (hws:ws.length<=100000) (hl2:left<=9223372036854775807) (p:Nat) (A:Option Addr) (cA:Nat) (b:List UInt8) (hr:Rd w w.heap.size A b.length b) (hA:b.length<=cA) (hAm:cA<=9223372036854775807) (hAS:0<b.length->∀a,A=some a->¬S a.block) (K:Nat) (hK:need b.length=K) (hfit:p+K<=N) (m:Nat) (hm:wk K left off=m):
 Calls Tryz.prog 208 #[.pointer (some ⟨g,0,none⟩), .int .i64 (p:Int), .slice A b.length cA] w fun e w'=>e= .returned (if m<K then .iface 130 (.int .i64 6) else .nilIface)/\(∃W' cw' vs,Dk (ad2 S w w') w' g h c W' cw' bs vs (ab1 left m) (off || decide (m<K))/\vs.map Wr.two=ws.map Wr.two++agC p b m)/\Tch S w w':=by
 have hmK:m<=K:=by rw[<-hm];unfold wk;split;omega;split;omega;omega
 have hbl:b.length<=65536:=by unfold need at hK;omega
 have hon:off=true->m=0:=fun e=>by rw[<-hm];unfold wk;simp[e]
 have hml:off=false->(m:Int)<=left\/left<0:=fun e=>by
  rw[<-hm];unfold wk;by_cases h0:left<0
  · exact .inr h0
  · left;simp[e,h0];omega
 have hmlt:off=false->m<K->left=(m:Int):=fun e h=>by
  rw[<-hm]at h ⊢;unfold wk at h ⊢;by_cases h0:left<0
  · simp[e,h0]at h
  · simp[e,h0]at h ⊢;omega
 have HF:=hE0 (aj5 k N hN hN2 p b.length (by rw[hK];exact hfit));have HE:=hE0 (ad4 w b.length (by omega) K hK);have k0:Dk (ad2 S w w) w g h c W cw bs ws (ab1 left 0) off:=by rw[ahU];exact k.more fun j hj=> .inl (k.foot hj).1
 have HK:=hE0 hK;have HNN:=hE0 hN;have HR:=hE0 hr;clear hK hN hr hm k;go_enter Tryz.func208,Tryz.ntmps208
 go_wp2_with fail
 with_reducible refine HF.out.mono ?_
 rintro e w1 ⟨rfl,rfl⟩;go_wp2_with fail
 with_reducible refine HE.out.mono ?_
 rintro e w1 ⟨rfl,rfl⟩;clear HF HE;go_wp2
 go_loopw [19] (fun i wr=>∃j:Nat,j<=m/\i= .int .i64 j/\(∃W' cw' vs,Dk (ad2 S w wr) wr g h c W' cw' bs vs (ab1 left j) off/\vs.map Wr.two=ws.map Wr.two++agC p b j)/\Tch S w wr) (fun i _=>K-(intOf i).toNat)
 case atStart=>exact⟨0,Nat.zero_le _,rfl,⟨W,cw,ws,k0,by simp[agC]⟩,Tch.refl _ _⟩
 case round=>
  obtain⟨j,hj,rfl,⟨W',cw',vs,kr,hvs⟩,ht⟩:=hrel;have hvl:vs.length=ws.length+j:=by have:=congrArg List.length hvs;simpa[agD]using this
  by_cases hlt:j<K
  · have hjb:j*512<b.length:=by have:=HK.out;unfold need at this;omega
    have rr:=HR.out.tch ht (hAS (by omega));obtain⟨bA,oA,rfl,hbA,_⟩:=rr.2 (by omega);obtain⟨cs,hcs⟩:=nmE (b.drop (j*512));have hcl:cs.length=b.length-j*512:=by rw[<-hcs];simp
    have rs:=rr.sub (j*512) (b.length-j*512) (by omega);rw[List.take_of_length_le (by simp),hcs,<-hcl]at rs;have HP:=alm wr ⟨bA,oA+j*512,none⟩ (cA-j*512) cs rs (by omega) (by omega);rw[hcl,<-hcs,apu]at HP;have HP:=hE0 HP;have HKR:=hE0 kr;have HVS:=hE0 hvs;have HT:=hE0 ht;have hne:¬cA=j*512:=by omega
    clear rr rs hcs kr hvs ht k0;go_wp2_with fail
    with_reducible refine HP.out.mono ?_
    rintro e w2 ⟨rfl,hf,hb⟩;have rf:=hf.reads;rw[aeI]at rf;have k2:=HKR.out.below hb;by_cases hjm:j<m
    · have hof:off=false:=by
       cases off
       · rfl
       · have:=hon rfl;omega
      subst hof;have hml':=hml rfl;have hl0:ab1 left j≠0:=by unfold ab1;split<;>omega
      have hl3:ab1 left j<=9223372036854775807:=by unfold ab1;split<;>omega
      have HW:=aln k2 (by have:=HNN.out;omega) (by omega) hl0 hl3 (p+j) (by have:=HNN.out;omega) (some ⟨wr.heap.size,0,none⟩) 512 (agB b j) (aeI b j) rf (fun a e=>by
       injection e with e;subst e;have:=HKR.out.lt;dsimp only;omega)
      rw[anD left j (by omega),Int.natCast_add]at HW;have HW:=hE0 HW;have HSZ:=hE0 hb.size;have T2:Hid (Tch (ad2 S w wr) wr w2):=Tch.of_below hb;have HSR:=hE0 HT.out.size;clear hf hb rf k2 hl0 hl3 hne hcl;go_wp2_with fail
      with_reducible refine HW.out.mono ?_
      rintro e w3 ⟨rfl,⟨W3,cw3,b3,cb3,k3⟩,t3⟩;have t23:=T2.out.trans t3 (fun i _ h=>h);have t03:=HT.out.regrow t23;have k3':Dk (ad2 S w w3) w3 g h c W3 cw3 bs (vs++ [⟨p+j,b3,cb3,agB b j⟩]) (ab1 left (j+1)) false:=k3.more fun i hi=>by
       have h1:=HSR.out;have h2:=HSZ.out;have h3:=t3.size;rcases(k3.foot hi).1 with(h | h) | h
       · exact .inl h
       · exact .inr ⟨h.1,by omega⟩
       · exact .inr ⟨by omega,h.2⟩
      have e3:(vs++ [(⟨p+j,b3,cb3,agB b j⟩:Wr)]).map Wr.two=ws.map Wr.two++agC p b (j+1):=by rw[List.map_append,HVS.out,aj6,List.append_assoc];rfl
      have K3:=hE0 k3';have E3:=hE0 e3;have T3:=hE0 t03;clear k3 t3 t23 t03 k3' e3 HW T2;go_wp2
      go_roundw
      case rel=>exact⟨j+1,by omega,by go_num,⟨W3,cw3,_,K3.out,E3.out⟩,T3.out⟩
      case measure=>simp[intOf];omega
    · obtain rfl:j=m:=by omega
      have hbad:off=true\/ab1 left j=0:=by
       cases off
       · right;have:=hmlt rfl hlt;unfold ab1;split<;>omega
       · exact .inl rfl
      have HW:=anF k2 (by have:=HNN.out;omega) hbad (p+j) (by have:=HNN.out;omega) (some ⟨wr.heap.size,0,none⟩) 512;rw[Int.natCast_add]at HW;have HW:=hE0 HW;have HSZ:=hE0 hb.size;have T2:Hid (Tch (ad2 S w wr) wr w2):=Tch.of_below hb;clear hf hb rf k2 hne hcl;go_wp2_with fail
      with_reducible refine HW.out.mono ?_
      rintro e w3 ⟨rfl,k3,t3⟩;have t03:=HT.out.regrow (T2.out.trans t3 (fun i _ h=>h));have k3':Dk (ad2 S w w3) w3 g h c W' cw' bs vs (ab1 left j) true:=by
       exact k3.more fun i hi=>by
        have h2:=HSZ.out;have h3:=t3.size;rcases(k3.foot hi).1 with h | h
        · exact .inl h
        · exact .inr ⟨h.1,by omega⟩
      have K3:=hE0 k3';have T3:=hE0 t03;clear k3 t3 t03 k3' HW T2;go_wp2
      go_ret
      exact⟨rfl,⟨W',cw',_,K3.out,HVS.out⟩,T3.out⟩
  · obtain rfl:j=K:=by omega
    obtain rfl:m=j:=by omega
    have K3:=hE0 kr;have T3:=hE0 ht;have HVS:=hE0 hvs;clear kr ht hvs k0;go_wp2
    go_ret
    exact⟨rfl,⟨W',cw',_,K3.out,HVS.out⟩,T3.out⟩
end
def adw (bs:List UInt8) (l:List (Nat × List UInt8)) (p j:Nat):List UInt8:=((List.range j).map fun i=>abB bs l (p+i)).flatten
theorem adb (bs:List UInt8) (l:List (Nat × List UInt8)) (p j:Nat):adw bs l p (j+1)=adw bs l p j++abB bs l (p+j):=by simp[adw,List.range_succ]
theorem acY (bs:List UInt8) (l:List (Nat × List UInt8)) (i:Nat) (hf:aps bs.length l) (hi:i*512+512<=bs.length):(abB bs l i).length=512:=by
 unfold abB;split
 · rename_i x h;exact(hf x (List.mem_reverse.1 (List.mem_of_find?_eq_some h))).2
 · rw[List.length_take,List.length_drop];omega
theorem afL (bs:List UInt8) (l:List (Nat × List UInt8)) (p:Nat) (hf:aps bs.length l) (j:Nat) (h:(p+j)*512<=bs.length):(adw bs l p j).length=512*j:=by
 induction j with
 | zero=>simp[adw]
 | succ j ih=>
  have h1:=ih (by omega);have h2:=acY bs l (p+j) hf (by omega);rw[adb,List.length_append,h1,h2];omega
theorem arR (J x:List UInt8) (m:Nat) (hx:x.length=512):lay (J++List.replicate m 0) J.length (x.take m)=J++(x++List.replicate (m-512) 0).take m:=by
 unfold lay;rw[List.take_left];congr 1;have e:m-min m x.length=min (m-x.length) (m-512):=by omega
 rw[List.drop_append,List.drop_of_length_le (by omega),List.nil_append,Nat.add_sub_cancel_left,List.length_take,List.drop_replicate,List.take_append,List.take_replicate,e]
def ad5 (bs:List UInt8) (l:List (Nat × List UInt8)) (p n j:Nat):List UInt8:=(adw bs l p j++List.replicate (n-512*j) 0).take n
theorem alo (bs:List UInt8) (l:List (Nat × List UInt8)) (p n j:Nat) (hf:aps bs.length l) (hj:512*j<n) (hi:(p+j)*512+512<=bs.length):
 lay (ad5 bs l p n j) (j*512) ((abB bs l (p+j)).take (n-j*512))=ad5 bs l p n (j+1):=by
 have hl:=afL bs l p hf j (by omega);have hx:=acY bs l (p+j) hf hi;have e:j*512=(adw bs l p j).length:=by omega
 unfold ad5;rw[List.take_of_length_le (by simp;omega),adb,List.append_assoc,List.take_append,List.take_of_length_le (by omega:(adw bs l p j).length<=n),hl,show n-j*512=n-512*j by omega,e,arR _ _ _ hx];congr 4
theorem aiT (bs:List UInt8) (l:List (Nat × List UInt8)) (p n j:Nat) (hf:aps bs.length l) (hi:(p+j)*512<=bs.length):(ad5 bs l p n j).length=n:=by
 have hl:=afL bs l p hf j hi;simp[ad5,hl];omega
theorem Fill.own{w:World}{g:Nat}{bs:List UInt8}{base:Nat}(h:Fill w g 5 bs) (hB:base<=g) (hm:bs.length<=1000000):w.ownsRow base 5 1 (.slice (some ⟨g,0,none⟩) bs.length bs.length) bs.length (bs.map bv):=by
 refine⟨by simp, .inr ⟨g,bs.length,acb bs,rfl,hB,h,Nat.le_refl _,by unfold maxLen;omega,by rw[adP];simp,?_⟩⟩;rw[Nat.mul_one];simp only[acb];rw[List.take_of_length_le (by simp)]
section
variable {S:Nat->Prop} {w:World} {g h c:Nat} {W:Option Addr} {cw:Nat} {bs:List UInt8} {ws:List Wr} {left:Int} {off:Bool}
theorem apv (k:Dk S w g h c W cw bs ws left off) (N:Nat) (hN:bs.length=512*N) (hN2:N<=128) (p n K:Nat) (hK:need n=K) (hfit:p+K<=N) (ho:off=true->n=0) (out:List UInt8) (hout:(adw bs (ws.map Wr.two) p K).take n=out):
 Calls Tryz.prog 206 #[.pointer (some ⟨g,0,none⟩), .int .i64 (p:Int), .int .i64 (n:Int)] w fun e w'=>arp out w e w':=by
 have hbl:n<=65536:=by unfold need at hK;omega
 have HF:=hE0 (aj5 k N hN hN2 p n (by rw[hK];exact hfit));have HE:=hE0 (fun w=>ad4 w n (by omega) K hK);have hfs:=k.fits;obtain⟨z,hz⟩:=nmE (List.replicate n (0:UInt8));have hmk:∀W:World,(Instr.makeSlice 37 (.int .i64 (n:Int)) (.int .i64 (n:Int))).run Tryz.prog W= .ok (.slice (some ⟨W.heap.size,0,none⟩) n n) (W.alloc (.cells (acb z) 5)):=fun W=>by
  have:=run_make_row' (P:=Tryz.prog) 37 5 (.int .u8 0) 1 Tryz.underlying37 afo rfl .i64 .i64 n (by omega) (by omega) W;rw[acK,hz]at this;exact this
 obtain⟨w0,hw0⟩:=nmE (w.alloc (.cells (acb z) 5));have hf:Fill w0 w.heap.size 5 z:=by rw[<-hw0];exact Fill.made w 5 _
 have hbl0:=abE hw0;have e0:z=ad5 bs (ws.map Wr.two) p n 0:=by simp[ad5,adw,<-hz]
 have hend:ad5 bs (ws.map Wr.two) p n K=out:=by
  have:n-512*K=0:=by unfold need at hK;omega
  rw[<-hout];simp[ad5,this]
 have hlen:=fun j hj=>aiT bs (ws.map Wr.two) p n j hfs hj;rw[e0]at hf;have HF0:=hE0 hf;have HB0:=hE0 hbl0;have HW0:=hE0 hw0;have HKK:=hE0 k;have HNN:=hE0 hN;have HK:=hE0 hK;have HFS:=hE0 hfs;have HEND:=hE0 hend;have HLEN:=hE0 hlen;obtain⟨gb,hgb⟩:=nmE w.heap.size;have HGB:=hE0 hgb;clear hz hw0 hf hbl0 e0 k hN hK hout hfs hend hlen;go_enter Tryz.func206,Tryz.ntmps206
 go_wp2_with fail
 with_reducible refine HF.out.mono ?_
 rintro e w1 ⟨rfl,rfl⟩;clear HF;go_wp2_with fail
 rw[HW0.out]
 with_reducible refine(HE.out w0).mono ?_
 rintro e w1 ⟨rfl,rfl⟩;clear HE hmk HW0;clear hgb;go_wp2
 go_loopw [26] (fun i wr=>∃j:Nat,j<=K/\i= .int .i64 j/\Fill wr gb 5 (ad5 bs (ws.map Wr.two) p n j)/\Below gb w wr) (fun i _=>K-(intOf i).toNat)
 case atStart=>exact⟨0,Nat.zero_le _,rfl,by rw[<-HGB.out];exact HF0.out,by rw[<-HGB.out];exact HB0.out⟩
 case round=>
  obtain⟨j,hj,rfl,hf,hb⟩:=hrel;by_cases hlt:j<K
  · have hjn:512*j<n:=by have:=HK.out;unfold need at this;omega
    have hNb:=HNN.out;have hof:off=false:=by
     cases off
     · rfl
     · have:=ho rfl;omega
    subst hof;obtain⟨P,hP⟩:=nmE (ad5 bs (ws.map Wr.two) p n j);have hPl:P.length=n:=by rw[<-hP];exact HLEN.out j (by omega)
    have hst:=alo bs (ws.map Wr.two) p n j HFS.out hjn (by omega);have hxl:=acY bs (ws.map Wr.two) (p+j) HFS.out (by omega);have hrd:=amB (HKK.out.below (HGB.out▸hb)) (by omega) (p+j) (by omega);obtain⟨x,hx⟩:=nmE (abB bs (ws.map Wr.two) (p+j));rw[hP,hx]at hst;rw[hP]at hf;rw[hx]at hxl hrd;rw[Int.natCast_add]at hrd;have HRD:=hE0 hrd;have HST:=hE0 hst;have HFI:=hE0 hf;have HB:=hE0 hb;have hne:¬n=j*512:=by omega
    have HXL:=hE0 hxl;have HPL:=hE0 hPl;clear hrd hst hf hb hx hP hNb hxl hPl;go_wp2_with fail
    with_reducible refine HRD.out.mono ?_
    rintro e w2 ⟨A',c',rfl,hown,hb2⟩;rw[HXL.out]at hown ⊢;obtain⟨hr2,_⟩:=(⟨(aix hown),trivial⟩:_/\True);obtain⟨A2,c2,e2,_,hr2⟩:=hr2;injection e2 with e2 _ e3;subst e2 e3;obtain⟨b2,o2,rfl,_,_⟩:=hr2.2 (by omega);have hlt2:=HFI.out.lt;have hf2:=HFI.out.below hb2 hlt2;have hov:=hf2.over ((HB.out.trans (hb2.mono (by omega)))) (Nat.le_refl _) (j*512) (x.take (n-j*512));rw[HST.out]at hov;have HOV:=hE0 hov;have HN2:Hid (((x.take (n-j*512)).map bv).length=Nat.min 512 (n-j*512)):=(show _=_ by rw[List.length_map,List.length_take,HXL.out];exact Nat.min_comm _ _);have HSRC:Hid (∀i v,((x.take (n-j*512)).map bv)[i]?=some v->w2.cell? ((⟨b2,o2,none⟩:Addr).add i)=some v):=fun i v hi=>adm hr2 i v (by
     rw[List.map_take]at hi;rcases Nat.lt_or_ge i (n-j*512)with h | h
     · rwa [List.getElem?_take_of_lt h]at hi
     · rw[List.getElem?_eq_none (by simp;omega)]at hi;cases hi)
    have HFIT:Hid (j*512+((x.take (n-j*512)).map bv).length<=(acb P).size):=(show _<=_ by rw[HN2.out,adP,HPL.out];have:=Nat.min_le_right 512 (n-j*512);simp only[Nat.min_def]at this ⊢;omega);have HF2:=hE0 hf2;clear hown hb2 hr2 hf2 hov HRD HST;go_wp2_with (refine wpList_copy_own rfl (.tmp 43) (.tmp 44) 37 37 rfl 5 Tryz.underlying37 (by kernel_rfl) gb (j*512) (n-j*512) (n-j*512) ⟨b2,o2,none⟩ 512 _ rfl rfl _ 5 HF2.out ((x.take (n-j*512)).map bv) HN2.out HSRC.out HFIT.out (afG _) ?_;generalize w2.setRow _ _=w3 at HOV ⊢)
    go_roundw
    case rel=>exact⟨j+1,by omega,by go_num,HOV.out.1,HOV.out.2⟩
    case measure=>simp[intOf];omega
  · obtain rfl:j=K:=by omega
    rw[HEND.out]at hf;have hol:out.length=n:=by rw[<-HEND.out];exact HLEN.out j (by have:=HNN.out;omega)
    have HO:=hE0 (hf.own (base:=gb) (Nat.le_refl _) (by omega));have HB:=hE0 hb;have HOL:=hE0 hol;clear hf hb hol;go_wp2
    go_ret2
    refine⟨some ⟨gb,0,none⟩,out.length,?_,HGB.out▸HO.out,HGB.out▸HB.out⟩;rw[HOL.out];rfl
end
def Wr.one (x:Wr):Value:= .slice (some ⟨x.b,0,none⟩) 512 x.c
structure Rq (S:Nat->Prop) (w:World) (g:Nat) (L:Option Addr) (cl:Nat) (W:Option Addr) (cw:Nat) (ls ws:List Wr) (left:Int) (off:Bool):Prop where
 obj:w.heap[g]?=some (.cells #[.slice L ls.length cl, .slice W ws.length cw, .bool off, .int .i64 left] 64 (0,0))
 lrow:w.ownsRow 0 37 1 (.slice L ls.length cl) ls.length (ls.map Wr.one)
 wrow:w.ownsRow 0 170 2 (.slice W ws.length cw) ws.length (akX ws)
 lf:∀x∈ls,x.d.length=512/\Fil w x.b x.d
 wf:∀x∈ws,x.s<ls.length/\x.d.length=512/\Fil w x.b x.d
 sg:S g
 sl:∀a,L=some a->S a.block
 sw:∀a,W=some a->S a.block
 sx:∀x∈ls,S x.b
 sy:∀x∈ws,S x.b
section
variable {S S':Nat->Prop} {w w':World} {g:Nat} {L:Option Addr} {cl:Nat} {W:Option Addr} {cw:Nat} {ls ws:List Wr} {left:Int} {off:Bool}
end
def avJ (ls:List Wr):List UInt8:=(ls.map Wr.d).flatten
section
variable {S:Nat->Prop} {w:World} {g:Nat} {L:Option Addr} {cl:Nat} {W:Option Addr} {cw:Nat} {ls ws:List Wr} {left:Int} {off:Bool} {K:Option Addr} {ck:Nat} {kb:List Bool}
end
def sec (bs:List UInt8) (s:Nat):List UInt8:=(bs.drop (512*s)).take 512
theorem arS (bs:List UInt8) (x:Nat × List UInt8) (h:x.1*512+512<=bs.length) (h2:x.2.length=512):sec (adv bs x) x.1=x.2:=by
 have e:(bs.take (x.1*512)).length=512*x.1:=by simp;omega
 unfold sec adv lay;rw[List.drop_append,e,List.drop_eq_nil_of_le (by omega),List.nil_append,Nat.sub_self,List.drop_zero,<-h2];exact List.take_left
theorem apw (bs:List UInt8) (x:Nat × List UInt8) (s:Nat) (h:x.1*512+512<=bs.length) (h2:x.2.length=512) (hs:x.1≠s):sec (adv bs x) s=sec bs s:=by
 apply List.ext_getElem?;intro i;unfold sec adv lay;rcases Nat.lt_or_ge i 512 with hi | hi
 · rw[List.getElem?_take_of_lt hi,List.getElem?_take_of_lt hi,List.getElem?_drop,List.getElem?_drop];have e:(bs.take (x.1*512)).length=x.1*512:=by simp;omega
   rcases Nat.lt_or_ge s x.1 with h3 | h3
   · rw[List.getElem?_append_left (by omega),List.getElem?_take_of_lt (by omega)]
   · rw[List.getElem?_append_right (by omega),e,List.getElem?_append_right (by omega),h2,List.getElem?_drop];have e2:x.1*512+512+(512*s+i-x.1*512-512)=512*s+i:=by omega
     rw[e2]
 · rw[List.getElem?_eq_none (by simp;omega),List.getElem?_eq_none (by simp;omega)]
theorem ahV (bs:List UInt8) (l:List (Nat × List UInt8)) (x:Nat × List UInt8) (i:Nat):abB bs (l++ [x]) i=if x.1=i then x.2 else abB bs l i:=by
 unfold abB;rw[List.reverse_append,List.reverse_singleton,List.singleton_append,List.find?_cons];by_cases h:x.1=i
 · rw[if_pos h];simp[h]
 · rw[if_neg h];have:(x.1==i)=false:=by rw[beq_eq_false_iff_ne];exact h
   rw[this]
structure Two (Sd Sr:Nat->Prop) (B:Nat) (w:World) (g h c:Nat) (W:Option Addr) (cw gr:Nat) (L:Option Addr) (cl:Nat) (V:Option Addr) (cv:Nat) (bs:List UInt8) (ls ws vs:List Wr) (left:Int) (off:Bool) (n:Nat):Prop where
 d:Dk Sd w g h c W cw bs ws left off
 r:Rq Sr w gr L cl V cv ls vs left off
 sd:∀j,Sd j->B<=j/\j<w.heap.size/\¬Sr j
 sr:∀j,Sr j->B<=j/\j<w.heap.size
 hj:avJ ls=bs
 hw:vs.map Wr.two=ws.map Wr.two
 l1: -1<=left
 l2:left<=9223372036854775807
 hn:ws.length<=n
 hl:ls.length<=128
 hB:B<=w.heap.size
section
variable {Sd Sr:Nat->Prop} {B:Nat} {w w1 w2:World} {g h c:Nat} {W:Option Addr} {cw gr:Nat} {L:Option Addr} {cl:Nat} {V:Option Addr} {cv:Nat} {bs:List UInt8} {ls ws vs:List Wr} {left:Int} {off:Bool} {n:Nat}
end
def ae7 (b:List UInt8) (j:Nat):List UInt8:=((List.range j).map fun i=>agB b i).flatten
theorem agE (b:List UInt8) (j:Nat):ae7 b (j+1)=ae7 b j++agB b j:=by simp[ae7,List.range_succ]
theorem apx (b:List UInt8) (j:Nat):ae7 b j=b.take (512*j)++List.replicate (512*j-b.length) 0:=by
 induction j with
 | zero=>simp[ae7]
 | succ j ih=>
  rw[agE,ih];unfold agB;have e:512*(j+1)=512*j+512:=by omega
  rw[e,Nat.mul_comm j 512];by_cases h:512*j<=b.length
  · rw[show 512*j-b.length=0 by omega,List.replicate_zero,List.append_nil,<-List.append_assoc,List.take_add];congr 2;omega
  · rw[List.drop_eq_nil_of_le (by omega),List.take_nil,List.nil_append,List.take_of_length_le (by omega),List.take_of_length_le (by omega),List.append_assoc,List.replicate_append_replicate];congr 2;omega
theorem alp (b:List UInt8) (K:Nat) (hK:need b.length=K):(ae7 b K).take b.length=b:=by
 unfold need at hK;rw[apx,show b.take (512*K)=b from List.take_of_length_le (by omega),List.take_left]
theorem aeJ (l:List (Nat × List UInt8)) (bs:List UInt8) (i:Nat) (hf:aps bs.length l):abB (aeH bs l) [] i=abB bs l i:=by
 have sec_last:∀z:List UInt8,abB z [] i=sec z i:=fun z=>by
  rw[ahT z [] i (by simp)];unfold sec;rw[Nat.mul_comm]
 rw[sec_last];obtain⟨r,hr⟩:=nmE l.reverse;have hl:l=r.reverse:=by rw[<-hr,List.reverse_reverse]
 subst hl;clear hr;induction r with
 | nil=>exact(sec_last bs).symm
 | cons x r ih=>
  rw[List.reverse_cons]at hf ⊢;have hf':aps bs.length r.reverse:=fun y hy=>hf y (List.mem_append_left _ hy);have hx:=hf x (by simp);have hlen:=abY r.reverse bs hf';rw[ahS,ahV];by_cases h:x.1=i
  · rw[if_pos h,<-h];exact arS _ x (by rw[hlen];exact hx.1) hx.2
  · rw[if_neg h,apw _ x i (by rw[hlen];exact hx.1) hx.2 h];exact ih hf'
theorem adc (z:List UInt8) (p:Nat) (b:List UInt8) (j i:Nat):abB z (agC p b j) i=if p<=i/\i<p+j then agB b (i-p) else abB z [] i:=by
 induction j with
 | zero=>rw[if_neg (by omega)];rfl
 | succ j ih=>
  rw[aj6,ahV,ih];by_cases h:p+j=i
  · rw[if_pos h,if_pos (by omega),show i-p=j by omega]
  · rw[if_neg h];by_cases h2:p<=i/\i<p+j
    · rw[if_pos h2,if_pos (by omega)]
    · rw[if_neg h2,if_neg (by omega)]
theorem agF{bs bs':List UInt8}{l l':List (Nat × List UInt8)}(p j:Nat) (h:∀i,i<j->abB bs l (p+i)=abB bs' l' (p+i)):adw bs l p j=adw bs' l' p j:=by
 induction j with
 | zero=>rfl
 | succ j ih=>rw[adb,adb,ih (fun i hi=>h i (by omega)),h j (by omega)]
theorem anH (z:List UInt8) (p:Nat) (b:List UInt8) (K:Nat):adw z (agC p b K) p K=ae7 b K:=by
 have:∀j,j<=K->adw z (agC p b K) p j=ae7 b j:=fun j=>by
  induction j with
  | zero=>intro _;rfl
  | succ j ih=>
   intro hj;rw[adb,agE,ih (by omega),adc,if_pos (by omega)];congr 2;omega
 exact this K (Nat.le_refl _)
theorem apy{w:World}{base n c:Nat}{A:Option Addr}{bs:List UInt8}(h:w.ownsRow base 5 1 (.slice A n c) n (bs.map bv)):n<=c/\c<=maxLen:=by
 rcases h.2 with⟨h',h0⟩ | ⟨_,_,_,h',_,_,h1,h2,_⟩
 · injection h' with _ _ e;rw[h0,e];exact⟨Nat.le_refl _,Nat.zero_le _⟩
 · injection h' with _ _ e;rw[e];exact⟨h1,h2⟩
section
variable {S:Nat->Prop} {w:World} {g:Nat} {L:Option Addr} {cl:Nat} {W:Option Addr} {cw:Nat} {ls ws:List Wr} {left:Int} {off:Bool}
end
def ae8:List Rk->List Value
 | []=> []
 | x::r=> .int .i64 x.o:: .int .i64 x.s:: .bool x.u::ae8 r
theorem aj7:∀(l:List Rk) (i:Nat) (x:Rk),l[i]?=some x->(ae8 l)[i*3]?=some (.int .i64 x.o)/\(ae8 l)[i*3+1]?=some (.int .i64 x.s)/\(ae8 l)[i*3+2]?=some (.bool x.u)
 | [],_,_,h=>by simp at h
 | y::r,0,x,h=>by
  simp at h;subst h;exact⟨rfl,rfl,rfl⟩
 | y::r,i+1,x,h=>by
  have:=aj7 r i x (by simpa using h);have e:(i+1)*3=i*3+1+1+1:=by omega
  rw[e];exact⟨by simpa[ae8]using this.1,by simpa[ae8]using this.2.1,by simpa[ae8]using this.2.2⟩
def avK (l:List Rk):Prop:=∀x∈l,(0<=x.o/\x.o<=1000000000)/\(0<=x.s/\x.s<=20000)
section
variable {B g n:Nat} {N:Int} {A1 A2:Option Addr} {c1 c2:Nat} {l:List Rk} {d:List (List UInt8)} {xs:List Value} {w w3 w4 w':World}
theorem aj8{w:World}{B c:Nat}{A:Option Addr}{l:List Rk}(h:w.ownsRow B 112 3 (.slice A l.length c) l.length (ae8 l)) (hl:avK l):RkRd w w.heap.size A l:=fun hn=>by
 rcases h.2 with⟨hv,h0⟩ | ⟨b,cap,cur,hv,hbg,hg,hnc,hcm,hsz,htk⟩
 · omega
 · injection hv with e1 e2 e3;subst e1;refine⟨b,0,rfl,aaa hg,fun j x hx=> ?_⟩;have hj:j<l.length:=(List.getElem?_eq_some_iff.1 hx).1;obtain⟨q0,q1,q2⟩:=aj7 l j x hx;have hb:=hl x (List.mem_of_getElem? hx);have hc:∀(i:Nat) (v:Value),i<l.length*3->(ae8 l)[i]?=some v->w.cell? ⟨b,i,none⟩=some v:=fun i v hi hv=>by
    rw[cell_of_row _ _ _ _ _ _ hg];rw[<-htk,List.getElem?_take,if_pos hi]at hv;rw[<-hv];simp
   simp only[Nat.zero_add];exact⟨hc _ _ (by omega) q0,hc _ _ (by omega) q1,hc _ _ (by omega) q2,by omega,by omega⟩
end
section
variable {B g:Nat} {N:Int} {A1 A2:Option Addr} {c1 c2:Nat} {l:List Rk} {d:List (List UInt8)} {xs:List Value} {w:World}
end
def abw (b:List UInt8) (i j:Nat):Bool:=ab2 ((b.drop j).take 4)==abZ 0 ((b.drop i).take (j-i))
def aaR:List UInt8->Nat->Nat->Option (List Rk)
 | _,0,_=>some []
 | b,k+1,o=>match adM (ab2 (b.take 8))with
  | none=>none
  | some (s,u)=>(aaR (b.drop 8) k (o+s)).map (⟨(o:Int),(s:Int),u⟩:: ·)
def aaP:List Rk->Nat
 | []=>0
 | x::l=>(if x.u then x.s.toNat-16 else 0)+aaP l
def af9:List Rk->List UInt8->List (List UInt8)
 | [],_=> []
 | x::l,b=>if x.u then b.take (x.s.toNat-16)::af9 l (b.drop (x.s.toNat-16)) else af9 l b
def acS (b:List UInt8):Nat:=ab2 ((b.drop 8).take 8)
def acZ (b:List UInt8):Nat:=ab2 ((b.drop 16).take 8)
def adx (b:List UInt8):Nat:=
 if b.length<28 then 3 else if b.take 8≠imMarkB then 3 else if abw b 0 24=false then 9
 else if ab0 (acS b:Int)=false then 3 else if 1024<acZ b then 3 else 0
def atA (n:Nat) (o:Option (List Rk)):Nat × List Rk:=match o with
 | none=>(3,[])
 | some l=>if abh (n:Int) 184 false l=false then (3,[]) else (0,l)
def abD (b:List UInt8) (n k:Nat):Nat × List Rk:=
 if b.length<32+8*k then (3,[]) else if abw b 28 (28+8*k)=false then (9,[])
 else atA n (aaR (b.drop 28) k 184)
def aeK (b:List UInt8) (l:List Rk):Nat × List (List UInt8):=
 if b.length≠32+8*l.length+aaP l+8 then (3,[])
 else if abw b (32+8*l.length) (32+8*l.length+aaP l)=false then (9,[])
 else if abw b 0 (32+8*l.length+aaP l+4)=false then (9,[])
 else (0,af9 l (b.drop (32+8*l.length)))
theorem afz:∀{k:Nat}{b:List UInt8}{o:Nat}{l:List Rk},aaR b k o=some l->l.length=k
 | 0,b,o,l,h=>by
  rw[aaR]at h;injection h with h;rw[<-h];rfl
 | k+1,b,o,l,h=>by
  rw[aaR]at h;split at h
  · cases h
  · rename_i s u e
    cases hm:aaR (b.drop 8) k (o+s)with
    | none=>rw[hm]at h;cases h
    | some l'=>
     rw[hm]at h;injection h with h;rw[<-h,List.length_cons,afz hm]
theorem agG:∀{k:Nat}{b:List UInt8}{o:Nat}{l:List Rk},aaR b k o=some l->aaR b (k+1) o=match adM (ab2 ((b.drop (8*k)).take 8))with
  | none=>none
  | some (s,u)=>some (l++ [⟨((o+(l.map (·.s.toNat)).sum:Nat):Int),(s:Int),u⟩])
 | 0,b,o,l,h=>by
  rw[aaR]at h;injection h with h;subst h;rw[aaR,Nat.mul_zero,List.drop_zero]
  cases hu:adM (ab2 (b.take 8))with
  | none=>rfl
  | some x=>simp[aaR]
 | k+1,b,o,l,h=>by
  rw[aaR]at h;split at h
  · cases h
  · rename_i s u e
    cases hm:aaR (b.drop 8) k (o+s)with
    | none=>rw[hm]at h;cases h
    | some l'=>
     rw[hm]at h;injection h with h;subst h;have ih:=agG hm;rw[aaR,e];dsimp only;rw[ih,List.drop_drop,show 8+8*k=8*(k+1) from by omega]
     cases hu:adM (ab2 ((b.drop (8*(k+1))).take 8))with
     | none=>rfl
     | some x=>simp[Nat.add_assoc]
theorem alq{k:Nat}:∀{j:Nat}{b:List UInt8}{o:Nat},aaR b k o=none->aaR b (k+j) o=none:=by
 induction k with
 | zero=>intro j b o h;rw[aaR]at h;cases h
 | succ k ih=>
  intro j b o h;rw[show k+1+j=(k+j)+1 from by omega];rw[aaR]at h ⊢;split at h
  · rfl
  · rename_i s u e
    cases hm:aaR (b.drop 8) k (o+s)with
    | none=>rw[ih hm];rfl
    | some l'=>rw[hm]at h;cases h
theorem atC{a m:List UInt8}(h:a≠m):((anh a).toList==m)=false:=by
 unfold anh;rw[beq_eq_false_iff_ne];simpa using h
def atD (b:List UInt8):Value:=if adx b=0 then .tuple #[.int .i64 (acS b:Int), .int .i64 (acZ b:Int), .nilIface] else .tuple #[.int .i64 0, .int .i64 0, .iface 130 (.int .i64 (adx b:Int))]
theorem anI (w:World) (A:Option Addr) (n c B:Nat) (b:List UInt8) (hr:Rd w B A n b) (hnc:n<=c) (hc:c<=9223372036854775807) (hn:n<=900000):
 Calls Tryz.prog 275 #[.slice A n c] w fun e w'=>e= .returned (atD b)/\w=w':=by
 have hbl:b.length=n:=hr.1;unfold atD adx;rw[hbl];by_cases h28:n<28
 · rw[if_pos h28];have g1:decide (n<28)=true:=decide_eq_true h28;clear hr hbl;go_enter Tryz.func275,Tryz.ntmps275
   go_wp2
   go_ret3
   exact⟨rfl,rfl⟩
 rw[if_neg h28];have g1:decide (n<28)=false:=decide_eq_false h28;by_cases hm:b.take 8≠imMarkB
 · rw[if_pos hm];obtain⟨g,off,rfl,_⟩:=hr.2 (by omega);obtain⟨sx,hsx⟩:=nmE (anh (b.take 8));have q1:(convert 37 9 (.slice (some ⟨g,off,none⟩) 8 c)).run Tryz.prog w= .ok (.string sx) w:=by
    have h:=hr.sub 0 8 (by omega);rw[List.drop_zero,Nat.add_zero]at h;rw[<-hsx];exact adS (c:=c) h
   have e1:=atC hm;rw[hsx]at e1;unfold imMarkB at e1;have g3:(8:Int)<=(c:Int):=by omega
   clear hr hbl hm hsx;go_enter Tryz.func275,Tryz.ntmps275
   go_wp2
   go_ret3
   exact⟨rfl,rfl⟩
 have hm':b.take 8=imMarkB:=Decidable.byContradiction hm;rw[if_neg hm];by_cases hs:abw b 0 24=false
 · rw[if_pos hs];have HS:=hE0 (act w A n c B b 0 24 hr hnc hc hn (by omega) (by omega) false hs);obtain⟨g,off,rfl,_⟩:=hr.2 (by omega);have q1:(convert 37 9 (.slice (some ⟨g,off,none⟩) 8 c)).run Tryz.prog w= .ok (.string ⟨#[67,78,84,76,1,0,0,0]⟩) w:=by
    have h:=hr.sub 0 8 (by omega);rw[List.drop_zero,hm',Nat.add_zero]at h;have h2:=adS (c:=c) h;rw[alg]at h2;exact h2
   have g3:(8:Int)<=(c:Int):=by omega
   clear hr hbl hm hm' hs;go_enter Tryz.func275,Tryz.ntmps275
   go_wp2_with fail
   refine HS.out.mono ?_;rintro e w2 ⟨rfl,rfl⟩;go_wp2
   go_ret3
   exact⟨rfl,rfl⟩
 have hs':abw b 0 24=true:=by simpa using hs
 rw[if_neg hs];by_cases hl:ab0 (acS b:Int)=false\/1024<acZ b
 · have e:(if (if ab0 (acS b:Int)=false then 3 else if 1024<acZ b then 3 else 0)=0 then Value.tuple #[.int .i64 (acS b:Int), .int .i64 (acZ b:Int), .nilIface] else .tuple #[.int .i64 0, .int .i64 0, .iface 130 (.int .i64 (((if ab0 (acS b:Int)=false then 3 else if 1024<acZ b then 3 else 0):Nat):Int))])= .tuple #[.int .i64 0, .int .i64 0, .iface 130 (.int .i64 3)]:=by
    rcases hl with hl | hl
    · rw[if_pos hl];rfl
    · rw[if_pos hl];split<;>rfl
   rw[e];have HS:=hE0 (act w A n c B b 0 24 hr hnc hc hn (by omega) (by omega) true hs');have HG1:=hE0 (adQ A n c B b 8 w hr hnc (by omega) (by omega));have HG2:=hE0 (adQ A n c B b 16 w hr hnc (by omega) (by omega));unfold acS acZ at hl;have hN2:ab2 ((b.drop 8).take 8)<18446744073709551616:=adO _ (List.length_take_le _ _);have hK2:ab2 ((b.drop 16).take 8)<18446744073709551616:=adO _ (List.length_take_le _ _);obtain⟨N,hN⟩:=nmE (ab2 ((b.drop 8).take 8));obtain⟨K,hK⟩:=nmE (ab2 ((b.drop 16).take 8));rw[hN]at HG1 hl hN2;rw[hK]at HG2 hl hK2;obtain⟨g,off,rfl,_⟩:=hr.2 (by omega);have q1:(convert 37 9 (.slice (some ⟨g,off,none⟩) 8 c)).run Tryz.prog w= .ok (.string ⟨#[67,78,84,76,1,0,0,0]⟩) w:=by
    have h:=hr.sub 0 8 (by omega);rw[List.drop_zero,hm',Nat.add_zero]at h;have h2:=adS (c:=c) h;rw[alg]at h2;exact h2
   have g3:(8:Int)<=(c:Int):=by omega
   clear hr hbl hm hm' hs hs' hN hK e;obtain⟨y,hy⟩:=nmE (ab0 (N:Int));have HL:=hE0 (agy w N hN2 y hy);rw[hy]at hl;clear hy
   cases y with
   | false=>
    clear hl;go_enter Tryz.func275,Tryz.ntmps275
    go_wp2_with fail
    refine HS.out.mono ?_;rintro e w2 ⟨rfl,rfl⟩;go_wp2_with fail
    refine HG1.out.mono ?_;rintro e w2 ⟨rfl,rfl⟩;go_wp2_with fail
    refine HG2.out.mono ?_;rintro e w2 ⟨rfl,rfl⟩;go_wp2_with fail
    refine HL.out.mono ?_;rintro e w2 ⟨rfl,rfl⟩;go_wp2
    go_ret3
    exact⟨rfl,rfl⟩
   | true=>
    have hk:1024<K:=hl.resolve_left (by simp);have g2:decide (1024<K)=true:=decide_eq_true hk;clear hl;go_enter Tryz.func275,Tryz.ntmps275
    go_wp2_with fail
    refine HS.out.mono ?_;rintro e w2 ⟨rfl,rfl⟩;go_wp2_with fail
    refine HG1.out.mono ?_;rintro e w2 ⟨rfl,rfl⟩;go_wp2_with fail
    refine HG2.out.mono ?_;rintro e w2 ⟨rfl,rfl⟩;go_wp2_with fail
    refine HL.out.mono ?_;rintro e w2 ⟨rfl,rfl⟩;go_wp2
    go_ret3
    exact⟨rfl,rfl⟩
 have hl1:ab0 (acS b:Int)=true:=by
  cases h:ab0 (acS b:Int)with
  | true=>rfl
  | false=>exact absurd (Or.inl h) hl
 have hl2:acZ b<=1024:=by
  refine Nat.le_of_not_lt fun h=>hl (Or.inr h)
 have e:(if ab0 (acS b:Int)=false then 3 else if 1024<acZ b then 3 else 0)=0:=by rw[hl1,if_neg (by simp),if_neg (by omega)]
 rw[e,if_pos rfl];exact apb w A n c B b hr hnc hc hn (by omega) hm' hs' _ _ rfl rfl hl1 hl2
def RkC (cs:Array Value) (l:List Rk):Prop:=∀j x,l[j]?=some x->cs[j*3]?=some (.int .i64 x.o)/\cs[j*3+1]?=some (.int .i64 x.s)/\cs[j*3+2]?=some (.bool x.u)/\
 (-9223372036854775808<=x.o/\x.o<=9223372036854775807)/\(-9223372036854775808<=x.s/\x.s<=9223372036854775807)
theorem RkC.rd{w:World}{g:Nat}{cs:Array Value}{t:TypeId}{l:List Rk}(h:RkC cs l) (hg:w.heap[g]?=some (.cells cs t (0,0))):RkRd w w.heap.size (some ⟨g,0,none⟩) l:=fun _=>by
 refine⟨g,0,rfl,aaa hg,fun j x hx=> ?_⟩;obtain⟨h0,h1,h2,h3⟩:=h j x hx;simp only[Nat.zero_add];exact⟨(cell_of_row _ _ _ _ _ _ hg).trans h0,(cell_of_row _ _ _ _ _ _ hg).trans h1,(cell_of_row _ _ _ _ _ _ hg).trans h2,h3⟩
theorem RkC.snoc{cs:Array Value}{l:List Rk}{k:Nat}(h:RkC cs l) (hs:cs.size=3*k) (hl:l.length<k) (o s:Int) (u:Bool) (ho: -9223372036854775808<=o/\o<=9223372036854775807) (hsb: -9223372036854775808<=s/\s<=9223372036854775807):
 RkC (((cs.setIfInBounds (l.length*3) (.int .i64 o)).setIfInBounds (l.length*3+1) (.int .i64 s)).setIfInBounds (l.length*3+2) (.bool u)) (l++ [⟨o,s,u⟩]):=by
 intro j x hx;by_cases hj:j<l.length
 · rw[List.getElem?_append_left hj]at hx;obtain⟨h0,h1,h2,h3⟩:=h j x hx;simp only[Array.getElem?_setIfInBounds];rw[if_neg (by omega),if_neg (by omega),if_neg (by omega),if_neg (by omega),if_neg (by omega),if_neg (by omega),if_neg (by omega),if_neg (by omega),if_neg (by omega)];exact⟨h0,h1,h2,h3⟩
 · rw[List.getElem?_append_right (by omega)]at hx;have e:j=l.length:=by
    have:=(List.getElem?_eq_some_iff.1 hx).1;simp at this;omega
   subst e;simp at hx;subst hx;simp only[Array.getElem?_setIfInBounds];simp[hs];refine⟨?_,?_,?_,ho,hsb⟩<;>omega
theorem atE (W:World) (k:Nat) (hk:k<=1024):∃cs,cs.size=3*k/\(Instr.makeSlice 56 (.int .i64 (k:Int)) (.int .i64 (k:Int))).run Tryz.prog W= .ok (.slice (some ⟨W.heap.size,0,none⟩) k k) (W.alloc (.cells cs 112)):=by
 obtain⟨i0,hi,hz0,hz1,hz2⟩:=info_parts atx;have h:=run_makeSlice (P:=Tryz.prog) W 56 112 i0 _ Tryz.underlying56 hi hz0 .i64 .i64 k k (by omega) (by omega) (by rw[hz1];omega) (by rw[hz2];omega) (by omega);refine⟨_,?_,h⟩;rw[size_madeCells,hz1];omega
def auI (x:Nat × List Rk) (A:Option Addr):Value:=if x.1=0 then .tuple #[.slice A x.2.length x.2.length, .nilIface] else .tuple #[.slice none 0 0, .iface 130 (.int .i64 (x.1:Int))]
theorem arT{w:World}{g i k:Nat}{cs:Array Value}{t:TypeId}(hg:w.heap[g]?=some (.cells cs t (0,0))) (hs:cs.size=3*k) (hi:i<k):
 (∃y,w.cell? ⟨g,i*3,none⟩=some y)/\(∃y,w.cell? ⟨g,i*3+1,none⟩=some y)/\(∃y,w.cell? ⟨g,i*3+2,none⟩=some y)/\
 w.frozen? ⟨g,i*3,none⟩=false/\w.frozen? ⟨g,i*3+1,none⟩=false/\w.frozen? ⟨g,i*3+2,none⟩=false:=
 ⟨⟨_,(cell_of_row _ _ _ _ _ _ hg).trans (Array.getElem?_eq_getElem (by omega))⟩,⟨_,(cell_of_row _ _ _ _ _ _ hg).trans (Array.getElem?_eq_getElem (by omega))⟩,⟨_,(cell_of_row _ _ _ _ _ _ hg).trans (Array.getElem?_eq_getElem (by omega))⟩,
  frozen_of_row w g _ _ _ hg,frozen_of_row w g _ _ _ hg,frozen_of_row w g _ _ _ hg⟩
theorem apz{w:World}{g i:Nat}{cs:Array Value}{t:TypeId}(hg:w.heap[g]?=some (.cells cs t (0,0))) (x0 x1 x2:Value):
 (((w.setCell ⟨g,i*3,none⟩ x0).setCell ⟨g,i*3+1,none⟩ x1).setCell ⟨g,i*3+2,none⟩ x2).heap[g]?=some (.cells (((cs.setIfInBounds (i*3) x0).setIfInBounds (i*3+1) x1).setIfInBounds (i*3+2) x2) t (0,0)):=by
 have h1:=heap_setCell_same w g (i*3) _ _ x0 hg;have h2:=heap_setCell_same _ g (i*3+1) _ _ x1 h1;exact heap_setCell_same _ g (i*3+2) _ _ x2 h2
theorem aj9 (w:World) (A:Option Addr) (n c B N k:Nat) (b:List UInt8) (hr:Rd w B A n b) (hBw:B<=w.heap.size) (hnc:n<=c) (hc:c<=9223372036854775807) (hn:n<=900000) (hN:ab0 (N:Int)=true) (hk:k<=1024):
 Calls Tryz.prog 276 #[.slice A n c, .int .i64 (N:Int), .int .i64 (k:Int)] w fun e w'=>∃A2,e= .returned (auI (abD b N k) A2)/\RkRd w' w'.heap.size A2 (abD b N k).2/\Below w.heap.size w w':=by
 have hbl:b.length=n:=hr.1;have HT:=hE0 (fun W (j:Nat) (hj:j<=1024)=>aiQ W j (by omega));have hT:=(HT.out w k hk);obtain⟨E,hE⟩:=nmE (28+k*8);rw[hE]at hT;have hEb:E<=10000:=by omega
 unfold abD;rw[hbl,show 32+8*k=E+4 from by omega,show 28+8*k=E from by omega];by_cases h1:n<E+4
 · rw[if_pos h1];have g1:decide (n<E+4)=true:=decide_eq_true h1;have g1':decide ((n:Int)<(E:Int)+4)=true:=decide_eq_true (by omega);clear HT hr hbl hE;go_enter Tryz.func276,Tryz.ntmps276
   go_wp2_with fail
   refine hT.mono ?_;rintro e w2 ⟨rfl,rfl⟩;go_wp2
   go_ret2
   exact⟨none,rfl,fun h=>absurd h (by simp),Below.refl _ _⟩
 rw[if_neg h1];have g1:decide (n<E+4)=false:=decide_eq_false h1;have g1':decide ((n:Int)<(E:Int)+4)=false:=decide_eq_false (by omega);obtain⟨sy,hsy⟩:∃y,abw b 28 E=y:=⟨_,rfl⟩;have HS:=hE0 (act w A n c B b 28 E hr hnc hc hn (by omega) (by omega) sy hsy);rw[hsy]
 cases sy with
 | false=>
  rw[if_pos rfl];clear HT hr hbl hE hsy;go_enter Tryz.func276,Tryz.ntmps276
  go_wp2_with fail
  refine hT.mono ?_;rintro e w2 ⟨rfl,rfl⟩;go_wp2_with fail
  refine HS.out.mono ?_;rintro e w2 ⟨rfl,rfl⟩;go_wp2
  go_ret2
  exact⟨none,rfl,fun h=>absurd h (by simp),Below.refl _ _⟩
 | true=>
  rw[if_neg (by simp)];obtain⟨r,hres⟩:=nmE (atA N (aaR (b.drop 28) k 184));rw[hres];have HRES:=hE0 hres;clear hres;obtain⟨cs0,hs0,hmk⟩:=atE w k hk;obtain⟨w1,hw1⟩:=nmE (w.alloc (.cells cs0 112));have hb1:=abE hw1;have n1:=anE hw1;have HR:=hE0 ((hr.more hBw));have HN1:=hE0 n1;have HB1:=hE0 hb1;have HW1:=hE0 hw1;have HS0:=hE0 hs0;obtain⟨h184,h16,_⟩:=(aaV (N:Int)).1 hN;have HEE:=hE0 hE;clear hr hbl hsy hw1 hb1 n1 hN hE;go_enter Tryz.func276,Tryz.ntmps276
  go_wp2_with fail
  refine hT.mono ?_;rintro e w2 ⟨rfl,rfl⟩;go_wp2_with fail
  refine HS.out.mono ?_;rintro e w2 ⟨rfl,rfl⟩;go_wp2_with (first | (rw[HW1.out]) | fail)
  go_loopw [10,34] (fun o t wr=>∃(j:Nat) (l:List Rk) (cs:Array Value) (z:Nat),o= .int .i64 (z:Int)/\t= .int .i64 (j:Int)/\j<=k/\z=184+(l.map (·.s.toNat)).sum/\z<=184+20000*j/\aaR (b.drop 28) j 184=some l/\wr.heap[w.heap.size]?=some (.cells cs 112 (0,0))/\cs.size=3*k/\RkC cs l/\Below w.heap.size w wr) (fun _ t _=>k-(intOf t).toNat)
  case atStart=>exact⟨0,[],cs0,184,rfl,rfl,Nat.zero_le _,rfl,by omega,rfl,HN1.out,HS0.out,fun j x hx=>by simp at hx,HB1.out⟩
  case round=>
   obtain⟨j,l,cs,z,rfl,rfl,hj,hz,hzb,hbk,hg,hsz,hrk,hb⟩:=hrel;have hll:=afz hbk;by_cases hlt:j<k
   · have hT2:=HT.out wr j (by omega);obtain⟨p,hp⟩:=nmE (28+j*8);rw[hp]at hT2;have hG:=adQ A n c w.heap.size b p wr (HR.out.below hb) hnc (by omega) (by have:=HEE.out;omega);have hv:ab2 ((b.drop p).take 8)<18446744073709551616:=adO _ (List.length_take_le _ _);have hsn:=agG hbk;rw[List.drop_drop,show 28+8*j=p from by omega]at hsn;obtain⟨v,hvv⟩:=nmE (ab2 ((b.drop p).take 8));rw[hvv]at hG hv hsn;have hU:=abl (w:=wr) v hv;obtain⟨un,hun⟩:=nmE (adM v);rw[hun]at hU hsn;have HG:=hE0 hG;have HU:=hE0 hU;have HT2:=hE0 hT2;have HSN:=hE0 hsn;have HB:=hE0 hb;have hp2:p<=10000:=by omega
     clear hG hU hT2 hsn hb hvv hv
     cases un with
     | none=>
      have HE0:Hid (aaR (b.drop 28) k 184=none):=(show _=none by
       have h:=alq (j:=k-(j+1)) HSN.out;rw[show j+1+(k-(j+1))=k from by omega]at h;exact h)
      have HR3:Hid (r=(3,[])):=(show _=_ by rw[<-HRES.out,HE0.out];rfl);clear HSN hbk hg hsz hrk hz hll hun hp;unfold aoO at HU;go_wp2_with fail
      refine HT2.out.mono ?_;rintro e w2 ⟨rfl,rfl⟩;go_wp2_with fail
      refine HG.out.mono ?_;rintro e w2 ⟨rfl,rfl⟩;go_wp2_with fail
      refine HU.out.mono ?_;rintro e w2 ⟨rfl,rfl⟩;go_wp2
      go_ret2
      exact⟨none,by rw[HR3.out];rfl,by rw[HR3.out];exact fun h=>absurd h (by simp),HB.out⟩
     | some x=>
      obtain⟨s,u⟩:=x;have hs3:=(aab _).1 (ac4 hun).1;have hsn:=HSN.out;dsimp only at hsn;rw[<-hz]at hsn;have HRK:=hE0 (hrk.snoc hsz (by omega) (z:Int) (s:Int) u (by omega) (by omega));have HGG:=hE0 (apz (i:=j) hg (.int .i64 (z:Int)) (.int .i64 (s:Int)) (.bool u));obtain⟨⟨y0,c0⟩,⟨y1,c1⟩,⟨y2,c2⟩,f0,f1,f2⟩:=arT hg hsz hlt;rw[hll]at HRK;have HZ:Hid (((z+s:Nat))=184+((l++ [(⟨(z:Int),(s:Int),u⟩:Rk)]).map (·.s.toNat)).sum):=(show _=_ by
       simp[hz,Nat.add_assoc])
      have HSNN:=hE0 hsn;have HSZ:=hE0 hsz;have hgl:=aaa hg;have HBS:=hE0 (((HB.out.setCell (p:=⟨w.heap.size,j*3,none⟩) (Nat.le_refl _) (.int .i64 (z:Int))).setCell (p:=⟨w.heap.size,j*3+1,none⟩) (Nat.le_refl _) (.int .i64 (s:Int))).setCell (p:=⟨w.heap.size,j*3+2,none⟩) (Nat.le_refl _) (.bool u));clear HSN hbk hg hsz hrk hz hll hun hsn hp;unfold aoO at HU;go_wp2_with fail
      refine HT2.out.mono ?_;rintro e w2 ⟨rfl,rfl⟩;go_wp2_with fail
      refine HG.out.mono ?_;rintro e w2 ⟨rfl,rfl⟩;go_wp2_with fail
      refine HU.out.mono ?_;rintro e w2 ⟨rfl,rfl⟩;go_wp2
      go_roundw
      case rel=>exact⟨j+1,_,_,z+s,by go_num,by go_num,by omega,HZ.out,by omega,HSNN.out,HGG.out,by simp[HSZ.out],HRK.out,HBS.out⟩
      case measure=>simp only[intOf];omega
   · have e:j=k:=by omega
     subst e;have hrd:=hrk.rd hg;have HRD:=hE0 hrd;obtain⟨y,hy⟩:=nmE (abh (N:Int) 184 false l);have HROW:=hE0 (ajY wr (some ⟨w.heap.size,0,none⟩) j l hrd (by omega) (N:Int) ⟨h184,h16⟩ y hy);rw[hll]at HROW;have HB:=hE0 hb;have hres:=HRES.out;rw[hbk]at hres;unfold atA at hres;dsimp only at hres;rw[hy]at hres;have HR3:=hE0 hres;clear hres;have HLL:=hE0 hll;clear hrd hy hb hbk hrk hg hsz hz hll
     cases y with
     | false=>
      go_wp2_with fail
      refine HROW.out.mono ?_;rintro e w3 ⟨rfl,hb3⟩;have HF:=hE0 (HB.out.trans (hb3.mono HB.out.size));clear hb3;go_wp2
      go_ret2
      have e:r=(3,[]):=by rw[<-HR3.out];rfl
      exact⟨none,by rw[e];rfl,by rw[e];exact fun h=>absurd h (by simp),HF.out⟩
     | true=>
      go_wp2_with fail
      refine HROW.out.mono ?_;rintro e w3 ⟨rfl,hb3⟩;have HF:=hE0 (HB.out.trans (hb3.mono HB.out.size));have HRF:=hE0 ((HRD.out.below hb3).more hb3.size);clear hb3;go_wp2
      go_ret2
      have e:r=(0,l):=by rw[<-HR3.out];rfl
      exact⟨some ⟨w.heap.size,0,none⟩,by rw[e];unfold auI;rw[if_pos rfl];dsimp only;rw[HLL.out];rfl,by rw[e];exact HRF.out,HF.out⟩
def auW (x:Nat × List (List UInt8)) (A:Option Addr) (c:Nat):Value:=if x.1=0 then .tuple #[.slice A x.2.length c, .nilIface] else .tuple #[.slice none 0 0, .iface 130 (.int .i64 (x.1:Int))]
theorem aiU:∀{l:List Rk},(∀x∈l,aaG x.s=true)->aaP l<=20000*l.length
 | [],_=>Nat.le_refl _
 | x::l,h=>by
  have h1:=aiU fun y hy=>h y (List.mem_cons_of_mem _ hy);have h2:=(aab _).1 (h x List.mem_cons_self);unfold aaP;rw[List.length_cons];split<;>omega
theorem amC{s:Int}(h:aaG s=true):∃q:Nat,s=((q+16:Nat):Int)/\s.toNat-16=q/\q<=20000:=by
 have h2:=(aab _).1 h;exact⟨s.toNat-16,by omega,rfl,by omega⟩
theorem agH{P:Prop}(h:P:=by
 obtain⟨b2,o,rfl,hbb,hcl⟩:=HL.out (by rw[HM.out];omega);obtain⟨p0,p1,p2,hxo,hxs⟩:=hcl j x hx;have r0:=(hb.cell (p:=⟨b2,o+j*3,none⟩) hbb).trans p0;have r1:=(hb.cell (p:=⟨b2,o+j*3+1,none⟩) hbb).trans p1;have r2:=(hb.cell (p:=⟨b2,o+j*3+2,none⟩) hbb).trans p2;have hsx:=HSZ.out x (List.mem_of_getElem? hx);rw[aeF hx]at hz;unfold aaP at hz;obtain⟨xo,xs,xu⟩:=x;dsimp only at p0 p1 p2 r0 r1 r2 hz hxo hxs hsx;obtain⟨q,hq1,hq2,hq3⟩:=amC hsx;have hxb:16<=xs/\xs<=20016:=by omega
 rw[hq2]at hz;obtain⟨w4,hw4⟩:=nmE (wr.alloc (.cells #[.int .i64 xo, .int .i64 xs, .bool xu] 112));have hb4:Below w.heap.size w w4:=by rw[<-hw4];exact hb.alloc hb.size _
 have n4:=anE hw4;obtain⟨d0,d1,d2⟩:=aam n4;have hl4:=aaa n4;have HHELD:=hE0 (ael w4 xo xs xu hsx);have HW4:=hE0 hw4;have HB4:=hE0 hb4;have HZ:=hE0 hz;clear hx hb p0 p1 p2 hb4 n4 hw4 hcl hz
 cases xu with
 | false=>
  have HF:Hid (z+aaP (l.drop (j+1))=T):=(show _=T by have:=HZ.out;simpa using this);clear hq1 hq2;go_wp2_with (first | (rw[HW4.out]) | fail)
  go_roundw
  case rel=>exact⟨j+1,z,rfl,by go_num,by omega,HF.out,HB4.out⟩
  case measure=>simp only[intOf];omega
 | true=>
  have HF:Hid (z+q+aaP (l.drop (j+1))=T):=(show _=T by have:=HZ.out;rw[if_pos rfl]at this;omega);have HQ:=hE0 hq1;clear hq1 hq2;go_wp2_with (first | (rw[HW4.out]) | fail)
  refine HHELD.out.mono ?_;rintro e w5 ⟨rfl,hb5⟩;have HB5:=hE0 (HB4.out.trans (hb5.mono HB4.out.size));clear hb5;go_wp2_with fail
  go_roundw
  case rel=>exact⟨j+1,z+q,by have:=HQ.out;go_num,by go_num,by omega,HF.out,HB5.out⟩
  case measure=>simp only[intOf];omega
 ):P:=h
theorem anJ (w:World) (A A2:Option Addr) (n c B k2:Nat) (b:List UInt8) (l:List Rk) (hr:Rd w B A n b) (hnc:n<=c) (hc:c<=9223372036854775807) (hn:n<=900000) (hl:RkRd w w.heap.size A2 l) (hBw:B<=w.heap.size) (hll:l.length<=1024) (hs:∀x∈l,aaG x.s=true) (hbad:(aeK b l).1≠0):
 Calls Tryz.prog 277 #[.slice A n c, .slice A2 l.length k2] w fun e w'=>e= .returned (auW (aeK b l) none 0)/\(aeK b l).2= []/\Below w.heap.size w w':=by
 have hbl:b.length=n:=hr.1;have hh:=aiU hs;obtain⟨D,hD⟩:=nmE (aeK b l);rw[hD]at hbad ⊢;unfold aeK at hD;rw[hbl]at hD;obtain⟨m,hm⟩:=nmE l.length;rw[hm]at hll hh hD ⊢;obtain⟨E,hE⟩:=nmE (28+m*8);obtain⟨T,hT⟩:=nmE (E+4+aaP l);have hTE:E+4<=T:=by omega
 rw[show 32+8*m=E+4 from by omega,hT]at hD;have HT:=aiQ w m (by omega);rw[hE]at HT;have HTT:=hE0 HT;have HR:=hE0 (hr.more hBw);have HL:=hE0 hl;have HSZ:=hE0 hs;have HM:=hE0 hm;have HTL:=hE0 hT;have hEb:E<=10000:=by omega
 have hTb:T<=30000000:=by omega
 have HDD:=hE0 hD;clear hr hl hs hm hT HT hD hE hh hbl;go_enter Tryz.func277,Tryz.ntmps277
 go_wp2_with fail
 refine HTT.out.mono ?_;rintro e w2 ⟨rfl,rfl⟩;go_wp2_with fail
 go_loopw [7,20] (fun o t wr=>∃(j z:Nat),o= .int .i64 (z:Int)/\t= .int .i64 (j:Int)/\j<=m/\z+aaP (l.drop j)=T/\Below w.heap.size w wr) (fun _ t _=>m-(intOf t).toNat)
 case atStart=>exact⟨0,E+4,by go_num,rfl,Nat.zero_le _,HTL.out,Below.refl _ _⟩
 case round=>
  obtain⟨j,z,rfl,rfl,hj,hz,hb⟩:=hrel;have hzT:z<=T:=by omega
  by_cases hlt:j<m
  · obtain⟨x,hx⟩:∃x,l[j]?=some x:=⟨l[j]'(by rw[HM.out];exact hlt),List.getElem?_eq_getElem _⟩;exact agH
  · have hd:l.drop j= []:=List.drop_eq_nil_of_le (by rw[HM.out];omega);rw[hd]at hz;have hz2:z=T:=hz;subst hz2;have HB:=hE0 hb;have hR:=HR.out.below hb;have hDD:=HDD.out;clear hb hz hd;by_cases h1:n≠z+8
    · rw[if_pos h1]at hDD;have g1:((n:Int) !=(z:Int)+8)=true:=by rw[bne_iff_ne];omega
      have HD3:=hE0 hDD;clear hDD hR;go_wp2
      go_ret2
      exact⟨by rw[<-HD3.out];rfl,by rw[<-HD3.out],HB.out⟩
    · rw[if_neg h1]at hDD;have h1':n=z+8:=Decidable.byContradiction h1;have g1:((n:Int) !=(z:Int)+8)=false:=by rw[bne_eq_false_iff_eq];omega
      obtain⟨y1,hy1⟩:∃y,abw b (E+4) z=y:=⟨_,rfl⟩;obtain⟨y2,hy2⟩:∃y,abw b 0 (z+4)=y:=⟨_,rfl⟩;rw[hy1,hy2]at hDD;have HS1:=hE0 (act wr A n c w.heap.size b (E+4) z hR hnc hc hn (by omega) (by omega) y1 hy1);have HS2:=hE0 (act wr A n c w.heap.size b 0 (z+4) hR hnc hc hn (by omega) (by omega) y2 hy2);rw[show((E+4:Nat):Int)=(E:Int)+4 from by omega]at HS1;rw[show((z+4:Nat):Int)=(z:Int)+4 from by omega]at HS2;have HD3:=hE0 hDD;clear hDD hR hy1 hy2 h1 h1'
      cases y1 with
      | false=>
       go_wp2_with fail
       refine HS1.out.mono ?_;rintro e w5 ⟨rfl,rfl⟩;go_wp2
       go_ret2
       exact⟨by rw[<-HD3.out];rfl,by rw[<-HD3.out];rfl,HB.out⟩
      | true=>
       cases y2 with
       | false=>
        go_wp2_with fail
        refine HS1.out.mono ?_;rintro e w5 ⟨rfl,rfl⟩;go_wp2_with fail
        refine HS2.out.mono ?_;rintro e w5 ⟨rfl,rfl⟩;go_wp2
        go_ret2
        exact⟨by rw[<-HD3.out];rfl,by rw[<-HD3.out];rfl,HB.out⟩
       | true=>
        exact absurd (by rw[<-HD3.out];rfl) hbad
theorem apA (w:World) (A A2:Option Addr) (n c B k2:Nat) (b:List UInt8) (l:List Rk) (hr:Rd w B A n b) (hnc:n<=c) (hc:c<=9223372036854775807) (hn:n<=900000) (hl:RkRd w w.heap.size A2 l) (hBw:B<=w.heap.size) (hll:l.length<=1024) (hs:∀x∈l,aaG x.s=true) (hbad:(aeK b l).1=0):
 Calls Tryz.prog 277 #[.slice A n c, .slice A2 l.length k2] w fun e w'=>∃A3 c3,e= .returned (auW (aeK b l) A3 c3)/\(∃xs,w'.ownsRow w.heap.size 37 1 (.slice A3 (aeK b l).2.length c3) (aeK b l).2.length xs/\DtO w' (aeK b l).2 xs)/\Below w.heap.size w w':=by
 have hbl:b.length=n:=hr.1;have hh:=aiU hs;obtain⟨D,hD⟩:=nmE (aeK b l);rw[hD]at hbad ⊢;unfold aeK at hD;rw[hbl]at hD;obtain⟨m,hm⟩:=nmE l.length;rw[hm]at hll hh hD ⊢;obtain⟨E,hE⟩:=nmE (28+m*8);obtain⟨T,hT⟩:=nmE (E+4+aaP l);have hTE:E+4<=T:=by omega
 rw[show 32+8*m=E+4 from by omega,hT]at hD;have HT:=aiQ w m (by omega);rw[hE]at HT;have HTT:=hE0 HT;have HR:=hE0 (hr.more hBw);have HL:=hE0 hl;have HSZ:=hE0 hs;have HM:=hE0 hm;have HTL:=hE0 hT;have hEb:E<=10000:=by omega
 have hTb:T<=30000000:=by omega
 have HDD:=hE0 hD;clear hr hl hs hm hT HT hD hE hh hbl;go_enter Tryz.func277,Tryz.ntmps277
 go_wp2_with fail
 refine HTT.out.mono ?_;rintro e w2 ⟨rfl,rfl⟩;go_wp2_with fail
 go_loopw [7,20] (fun o t wr=>∃(j z:Nat),o= .int .i64 (z:Int)/\t= .int .i64 (j:Int)/\j<=m/\z+aaP (l.drop j)=T/\Below w.heap.size w wr) (fun _ t _=>m-(intOf t).toNat)
 case atStart=>exact⟨0,E+4,by go_num,rfl,Nat.zero_le _,HTL.out,Below.refl _ _⟩
 case round=>
  obtain⟨j,z,rfl,rfl,hj,hz,hb⟩:=hrel;have hzT:z<=T:=by omega
  by_cases hlt:j<m
  · obtain⟨x,hx⟩:∃x,l[j]?=some x:=⟨l[j]'(by rw[HM.out];exact hlt),List.getElem?_eq_getElem _⟩;exact agH
  · have hd:l.drop j= []:=List.drop_eq_nil_of_le (by rw[HM.out];omega);rw[hd]at hz;have hz2:z=T:=hz;subst hz2;have HB:=hE0 hb;have hR:=HR.out.below hb;have hDD:=HDD.out;clear hb hz hd;have h1:n=z+8:=by
     refine Decidable.byContradiction fun h=> ?_;rw[if_pos h]at hDD;rw[<-hDD]at hbad;exact absurd hbad (by decide)
    rw[if_neg (fun h=>h h1)]at hDD;have g1:((n:Int) !=(z:Int)+8)=false:=by rw[bne_eq_false_iff_eq];omega
    have hy1:abw b (E+4) z=true:=by
     cases h:abw b (E+4) z with
     | true=>rfl
     | false=>
      rw[h,if_pos rfl]at hDD;rw[<-hDD]at hbad;exact absurd hbad (by decide)
    rw[if_neg (by rw[hy1];simp)]at hDD;have hy2:abw b 0 (z+4)=true:=by
     cases h:abw b 0 (z+4)with
     | true=>rfl
     | false=>
      rw[h,if_pos rfl]at hDD;rw[<-hDD]at hbad;exact absurd hbad (by decide)
    rw[if_neg (by rw[hy2];simp)]at hDD;have HS1:=hE0 (act wr A n c w.heap.size b (E+4) z hR hnc hc hn (by omega) (by omega) true hy1);have HS2:=hE0 (act wr A n c w.heap.size b 0 (z+4) hR hnc hc hn (by omega) (by omega) true hy2);rw[show((E+4:Nat):Int)=(E:Int)+4 from by omega]at HS1;rw[show((z+4:Nat):Int)=(z:Int)+4 from by omega]at HS2;obtain⟨F,hF⟩:=nmE (af9 l (b.drop (E+4)));rw[hF]at hDD;have HD3:=hE0 hDD;have HFF:=hE0 hF;have HTL2:=hE0 HTL.out;have hzn:z+8<=n:=by omega
    have hEz:E+4<=z:=hTE;obtain⟨g,off,rfl,hgB,_⟩:=HR.out.2 (by omega);clear hDD hR hy1 hy2 h1 hbad HTL hF;go_wp2_with fail
    refine HS1.out.mono ?_;rintro e w5 ⟨rfl,rfl⟩;go_wp2_with fail
    refine HS2.out.mono ?_;rintro e w5 ⟨rfl,rfl⟩;go_wp2_with fail
    have HBr:=HB;clear HB HS1 HS2 HTT;go_loopw [6,10,52] (fun o v t W=>∃(j p:Nat) (d:List (List UInt8)) (xs:List Value) (A3:Option Addr) (c3:Nat),o= .int .i64 (p:Int)/\v= .slice A3 d.length c3/\t= .int .i64 (j:Int)/\j<=m/\E+4<=p/\p+aaP (l.drop j)=z/\d++af9 (l.drop j) (b.drop p)=F/\W.ownsRow w.heap.size 37 1 (.slice A3 d.length c3) d.length xs/\DtO W d xs/\d.length<=j/\Below w.heap.size w W) (fun _ _ t _=>m-(intOf t).toNat)
    case atStart=>exact⟨0,E+4,[],[],none,0,by go_num,rfl,rfl,Nat.zero_le _,Nat.le_refl _,HTL2.out,HFF.out,World.ownsRow_nil _ _ _ _,fun i y h=>by simp at h,Nat.le_refl _,HBr.out⟩
    case round=>
     obtain⟨j,p,d,xs,A3,c3,rfl,rfl,rfl,hj,hp,hpz,hcut,hown,hdo,hdl,hb⟩:=hrel;by_cases hlt:j<m
     · obtain⟨x,hx⟩:∃x,l[j]?=some x:=⟨l[j]'(by rw[HM.out];exact hlt),List.getElem?_eq_getElem _⟩;obtain⟨b2,o,rfl,hbb,hcl⟩:=HL.out (by rw[HM.out];omega);obtain⟨p0,p1,p2,hxo,hxs⟩:=hcl j x hx;have r0:=(hb.cell (p:=⟨b2,o+j*3,none⟩) hbb).trans p0;have r1:=(hb.cell (p:=⟨b2,o+j*3+1,none⟩) hbb).trans p1;have r2:=(hb.cell (p:=⟨b2,o+j*3+2,none⟩) hbb).trans p2;have hsx:=HSZ.out x (List.mem_of_getElem? hx);rw[aeF hx]at hpz hcut;unfold aaP at hpz;unfold af9 at hcut;obtain⟨xo,xs',xu⟩:=x;dsimp only at p0 p1 p2 r0 r1 r2 hpz hxo hxs hsx hcut;obtain⟨q,hq1,hq2,hq3⟩:=amC hsx;have hxb:16<=xs'/\xs'<=20016:=by omega
       rw[hq2]at hpz hcut;obtain⟨w4,hw4⟩:=nmE (wr.alloc (.cells #[.int .i64 xo, .int .i64 xs', .bool xu] 112));have hb04:=abE hw4;have hb4:Below w.heap.size w w4:=hb.trans (hb04.mono hb.size);have n4:=anE hw4;obtain⟨d0,d1,d2⟩:=aam n4;have hl4:=aaa n4;have hown4:=ab7 hown hb04 (acR hown);have hdo4:DtO w4 d xs:=by rw[<-hw4];exact hdo.grown (World.grownBy_alloc wr _ none) (fun k h=>by cases h)
       have HW4:=hE0 hw4;have HN4:=hE0 n4;have HB4:=hE0 hb4;have HO4:=hE0 hown4;have HD4:=hE0 hdo4;clear hx hb p0 p1 p2 hb4 hb04 n4 hw4 hcl hown hdo hown4 hdo4
       cases xu with
       | false=>
        have HF:Hid (p+aaP (l.drop (j+1))=z):=(show _=z by simpa using hpz);have HC:Hid (d++af9 (l.drop (j+1)) (b.drop p)=F):=(show _=_ by simpa using hcut);clear hq1 hq2 hpz hcut;go_wp2_with (first | (rw[HW4.out]) | fail)
        go_roundw
        case rel=>exact⟨j+1,p,d,xs,A3,c3,rfl,rfl,by go_num,by omega,hp,HF.out,HC.out,HO4.out,HD4.out,by omega,HB4.out⟩
        case measure=>simp only[intOf];omega
       | true=>
        rw[if_pos rfl]at hpz hcut;have hpq:p+q<=z:=by omega
        have HF:Hid (p+q+aaP (l.drop (j+1))=z):=(show _=z by omega);have HC:Hid ((d++ [(b.drop p).take q])++af9 (l.drop (j+1)) (b.drop (p+q))=F):=(show _=_ by
         rw[<-hcut,List.append_assoc,List.drop_drop];rfl)
        have hyl:((b.drop p).take q).length=q:=(HR.out.sub p q (by omega)).1;obtain⟨y,hy⟩:=nmE ((b.drop p).take q);rw[hy]at HC hyl;have HHELD:=hE0 (fun(V:World)=>ael V xo xs' true hsx);rw[show xs'-16=(q:Int) from by omega]at HHELD;have hcl:∀V:World,Below w.heap.size w V->Calls Tryz.prog 92 #[.slice (some ⟨g,off+p,none⟩) q (c-p)] V fun e w'=>aoH y V e w':=fun V hV=>by
         have h:=HR.out.sub p q (by omega);rw[hy]at h;have h2:=abT (some ⟨g,off+p,none⟩) (c-p) w.heap.size y V (by rw[hyl];exact h.below hV) hV.size (fun e=>by cases e) (by omega);rw[hyl]at h2;exact h2
        have HCL:=hE0 hcl;have HYL:=hE0 hyl;have hg1:(p:Int)<(c:Int):=by omega
        have hg2:(p:Int)+(q:Int)<=(c:Int):=by omega
        obtain⟨i0,hi,hz0,hz1,hz2⟩:=info_parts apd;clear hq1 hq2 hpz hcut hy hcl hyl;go_wp2_with (first | (rw[HW4.out]) | fail)
        refine(HHELD.out w4).mono ?_;rintro e w5 ⟨rfl,hb5⟩;have HN5:=hE0 ((hb5.block _ (aaa HN4.out)).trans HN4.out);have HB5:=hE0 (HB4.out.trans (hb5.mono HB4.out.size));have HO5:=hE0 (ab7 HO4.out hb5 (acR HO4.out));have HD5:=hE0 (HD4.out.stay hb5);clear hb5 d0 d1 d2 hl4;go_wp2_with fail
        refine(HCL.out w5 HB5.out).mono ?_;rintro e w6 ⟨A6,k6,rfl,ho6,hb6⟩;rw[HYL.out]at ho6 ⊢;have hO6:=ab7 HO5.out hb6 (acR HO5.out);have hD6:=HD5.out.stay hb6;have n6:=(hb6.block _ (aaa HN5.out)).trans HN5.out;have hB6:=HB5.out.trans (hb6.mono HB5.out.size);obtain⟨w7,hw7⟩:=nmE (w6.alloc (.cells #[.slice A6 q k6] 37));have hb7:=abE hw7;have n7:=anE hw7;have m7:=(hb7.block _ (aaa n6)).trans n6;have hO7:=ab7 hO6 hb7 (acR hO6);have hD7:=hD6.stay hb7;have ho7:=ab7 ho6 hb7 (acR ho6);have hB7:=hB6.trans (hb7.mono hB6.size);have hlx:xs.length=d.length:=by have:=hO7.1;omega
        have hrow:=apc hO7;have HRUN:=hE0 (fun V:World=>aj2 V A6 q k6);have HW7:=hE0 hw7;have HNEW:Hid (∀j u,[Value.slice A6 q k6][j]?=some u->w7.cell? ((⟨w6.heap.size,0,none⟩:Addr).add j)=some u):=fun j u hu=>by
         have e:(⟨w6.heap.size,0,none⟩:Addr).add j=⟨w6.heap.size,j,none⟩:=by unfold Addr.add;split<;>simp_all
         rw[e,cell_of_row w7 _ j _ _ (0,0) n7];simpa using hu
        have HONE:Hid (∀u∈ [Value.slice A6 q k6],u.oneCell'=true):=fun u hu=>by
         simp at hu;rcases hu with rfl;rfl
        have hB7s:w.heap.size<=w7.heap.size:=hB7.size;have HO7:=hE0 hO7;have HD7:=hE0 hD7;have Ho7:=hE0 ho7;have HB7:=hE0 hB7;have HN7:=hE0 m7;have HROW:=hE0 hrow;have HLX:=hE0 hlx;have HGE:=hE0 (aj1 hO7);have hdb:d.length<=2000:=by omega
        have hne:∀k,(Value.slice A3 d.length c3).ownBlock=some k->k≠wr.heap.size:=fun k hk e=>by
         obtain⟨cs,fz,h⟩:=hrow k hk;rw[e,m7]at h;injection h with h;injection h with _ h _;exact absurd h (by decide)
        have HNE:=hE0 hne;have hl7:=aaa m7;clear ho6 hb6 hO6 hD6 n6 hB6 hw7 hb7 n7 m7 hO7 hD7 ho7 hB7 hlx hrow hne HCL;go_wp2_with (first
         | (rw[HRUN.out])
         | (rw[HW7.out])
         | (at_builtin;go_must (refine wpList_append_own _ rfl _ _ 57 rfl w.heap.size 37 i0 _ 1 24 Tryz.underlying57 hi hz0 hz1 hz2 rfl (by decide) _ d.length xs rfl HO7.out ⟨w6.heap.size,0,none⟩ 1 1 [.slice A6 q k6] rfl rfl HNEW.out HONE.out (by unfold maxLen;omega) (by omega) hB7s ?_);intro x8 w8 own8 gr8 at8
            have gr8':w7.grownBy w8 (Value.slice A3 d.length c3).ownBlock:=gr8;have e8:=(gr8'.block _ hl7 (fun e=>HNE.out _ e.symm rfl)).trans HN7.out;obtain⟨c80,c81,c82⟩:=aam e8;have hl8:=aaa e8;have HB8:Hid (Below w.heap.size w w8):=HB7.out.grown gr8' hB7s (fun k hk=>HGE.out k hk);have OWN8:Hid (w8.ownsRow w.heap.size 37 1 x8 (d.length+1) (xs++ [.slice A6 q k6])):=own8;have Ho8:Hid (w8.ownsRow w5.heap.size 5 1 (.slice A6 q k6) q (y.map bv)):=acO Ho7.out gr8' (fun k hk hrk=>by obtain⟨cs,fz,h⟩:=HROW.out k hrk;exact acB Ho7.out hk h (by decide));have HD8:Hid (DtO w8 d xs):=HD7.out.grown gr8' (fun k hk=>by obtain⟨cs,fz,h⟩:=HROW.out k hk;exact⟨cs,_,fz,by decide,h⟩);clear own8 gr8 gr8' at8 e8)
         | fail)
        refine(HHELD.out w8).mono ?_;rintro e w9 ⟨rfl,hb9⟩;obtain⟨A8,c8,rfl,_⟩:=aeG OWN8.out;have HO9:=hE0 (ab7 OWN8.out hb9 (acR OWN8.out));have Ho9:=adu (ab7 Ho8.out hb9 (acR Ho8.out)) (Nat.zero_le _);have HD9:=HD8.out.stay hb9;have HB9:=hE0 (HB8.out.trans (hb9.mono HB8.out.size));have HDS:Hid (DtO w9 (d++ [y]) (xs++ [.slice A6 q k6])):=(show DtO _ _ _ by
         have e:=HYL.out;subst e;exact HD9.snoc HLX.out (by omega) Ho9)
        clear Ho9 HD9 hb9;go_wp2_with fail
        go_roundw
        case rel=>exact⟨j+1,p+q,d++ [y],_,A8,c8,by go_num,by rw[List.length_append,List.length_singleton],by go_num,by omega,by omega,HF.out,HC.out,by rw[List.length_append,List.length_singleton];exact HO9.out,HDS.out,by rw[List.length_append,List.length_singleton];omega,HB9.out⟩
        case measure=>simp only[intOf];omega
     · have hd:l.drop j= []:=List.drop_eq_nil_of_le (by rw[HM.out];omega);rw[hd]at hcut;have hcut2:d=F:=by
        have:af9 [] (b.drop p)= []:=by unfold af9;rfl
        rw[this,List.append_nil]at hcut;exact hcut
       have HE:Hid (D=(0,d)):=(show D=(0,d) by rw[<-HD3.out,hcut2]);have HRD:=hE0 (And.intro hown hdo);have HBF:=hE0 hb;clear hcut hcut2 hd hown hdo hb;go_wp2
       go_ret2
       exact⟨A3,c3,by rw[HE.out];rfl,by rw[HE.out];exact⟨xs,HRD.out⟩,HBF.out⟩
def ae9 (b:List UInt8):Nat × Nat × List Rk × List (List UInt8):=
 if adx b≠0 then (adx b,0,[],[])
 else if (abD b (acS b) (acZ b)).1≠0 then ((abD b (acS b) (acZ b)).1,0,[],[])
 else if (aeK b (abD b (acS b) (acZ b)).2).1≠0 then ((aeK b (abD b (acS b) (acZ b)).2).1,0,[],[])
 else (0,acS b,(abD b (acS b) (acZ b)).2,(aeK b (abD b (acS b) (acZ b)).2).2)
def ajt (c:Nat):Value:=if c=0 then .nilIface else .iface 130 (.int .i64 (c:Int))
theorem amD{b:List UInt8}(h:adx b=0):ab0 (acS b:Int)=true/\acZ b<=1024:=by
 unfold adx at h;split at h
 · cases h
 split at h
 · cases h
 split at h
 · cases h
 split at h
 · cases h
 rename_i h1;split at h
 · cases h
 rename_i h2;exact⟨by cases e:ab0 (acS b:Int)<;>simp_all,Nat.le_of_not_lt h2⟩
theorem amE{b:List UInt8}{n k:Nat}(h:(abD b n k).1=0):(abD b n k).2.length=k/\∀x∈(abD b n k).2,aaG x.s=true:=by
 unfold abD at h ⊢;split
 · rename_i h1;rw[if_pos h1]at h;cases h
 rename_i h1;rw[if_neg h1]at h;split
 · rename_i h2;rw[if_pos h2]at h;cases h
 rename_i h2;rw[if_neg h2]at h
 cases e:aaR (b.drop 28) k 184 with
 | none=>rw[e]at h;cases h
 | some l=>
  rw[e]at h;unfold atA at h ⊢;dsimp only at h ⊢;split
  · rename_i h3;rw[if_pos h3]at h;cases h
  · rename_i h3;exact⟨afz e,ae1 (by simpa using h3)⟩
theorem anK (w:World) (A:Option Addr) (n c B:Nat) (b:List UInt8) (hr:Rd w B A n b) (hB:B<=w.heap.size) (hnc:n<=c) (hc:c<=9223372036854775807) (hn:n<=900000):
 Calls Tryz.prog 254 #[.slice A n c] w fun e w'=>∃A1 A2 c1 c2,e= .returned (.tuple #[.agg #[.int .i64 ((ae9 b).2.1:Int), .slice A1 (ae9 b).2.2.1.length c1, .slice A2 (ae9 b).2.2.2.length c2],ajt (ae9 b).1])/\RkRd w' w'.heap.size A1 (ae9 b).2.2.1/\DtRd w' w'.heap.size A2 (ae9 b).2.2.2/\(∀a,A2=some a->w.heap.size<=a.block)/\Below w.heap.size w w':=by
 obtain⟨G,hG⟩:=nmE (ae9 b);rw[hG];unfold ae9 at hG;obtain⟨w1,hw1⟩:=nmE (w.alloc (.cells #[.int .i64 0, .slice none 0 0, .slice none 0 0] 107));have hb1:=abE hw1;have n1:=anE hw1;have HR1:=hE0 ((hr.more hB).below hb1);have hHH:=anI w1 A n c _ b HR1.out hnc hc hn;unfold atD at hHH;have HN1:=hE0 n1;have HB1:=hE0 hb1;have HW1:=hE0 hw1;clear hr hw1 hb1 n1;by_cases hh:adx b≠0
 · rw[if_pos hh]at hG;rw[if_neg hh]at hHH;obtain⟨k,hk⟩:=nmE (adx b);rw[hk]at hG hHH hh;have HG:=hE0 hG;have HH:=hE0 hHH;have hk0:(k:Int)≠0:=by omega
   clear hG hHH hk;have HKK:=hE0 hh;have n1:=HN1.out;have hl1:=aaa n1;obtain⟨f0,f1,f2⟩:=acQ n1;obtain⟨z0,z1,z2⟩:=aam n1;have HM:=hE0 (ae5 n1 (.int .i64 0) (.slice none 0 0) (.slice none 0 0));have HF:=hE0 (((HB1.out.setCell (p:=⟨w.heap.size,0,none⟩) (Nat.le_refl _) (.int .i64 0)).setCell (p:=⟨w.heap.size,1,none⟩) (Nat.le_refl _) (.slice none 0 0)).setCell (p:=⟨w.heap.size,2,none⟩) (Nat.le_refl _) (.slice none 0 0));have N1':=hE0 n1;clear n1;go_enter Tryz.func254,Tryz.ntmps254
   go_wp2_with (first | (rw[HW1.out]) | fail)
   refine HH.out.mono ?_;rintro e w2 ⟨rfl,rfl⟩;go_wp2
   (try simp only[Exit.inBlock,Exit.then])
   refine aj0 (g:=w.heap.size) (x:= .iface 130 (.int .i64 (k:Int))) Tryz.results254 ?_ ?_ ?_ HM.out ?_
   · rfl
   · rfl
   · rfl
   · refine⟨none,none,0,0,?_,?_,?_,fun _ h=>(by cases h),HF.out⟩
     · rw[<-HG.out];unfold ajt;dsimp only;rw[if_neg HKK.out];rfl
     · rw[<-HG.out];exact fun h=>absurd h (by simp)
     · rw[<-HG.out];exact fun h=>absurd h (by simp)
 have hh0:adx b=0:=Decidable.byContradiction hh;obtain⟨hlo,hcn⟩:=amD hh0;rw[if_neg hh]at hG;rw[if_pos hh0]at hHH;have HH:=hE0 hHH;have hBL:=aj9 w1 A n c _ (acS b) (acZ b) b HR1.out (by have:=HB1.out.size;omega) hnc hc hn hlo hcn;clear hHH;by_cases hb0:(abD b (acS b) (acZ b)).1≠0
 · rw[if_pos hb0]at hG;have eV:∀A,auI (abD b (acS b) (acZ b)) A= .tuple #[.slice none 0 0, .iface 130 (.int .i64 ((abD b (acS b) (acZ b)).1:Int))]:=fun A=>by unfold auI;rw[if_neg hb0]
   simp only[eV]at hBL;clear eV;obtain⟨k,hk⟩:=nmE ((abD b (acS b) (acZ b)).1);rw[hk]at hG hBL hb0;have HG:=hE0 hG;have HBL:=hE0 hBL;have HKK:=hE0 hb0;clear hG hBL hk hb0 hh hh0 hlo;go_enter Tryz.func254,Tryz.ntmps254
   go_wp2_with (first | (rw[HW1.out]) | fail)
   refine HH.out.mono ?_;rintro e w2 ⟨rfl,rfl⟩;go_wp2_with fail
   refine HBL.out.mono ?_;rintro e w2 ⟨A2,rfl,_,hb2⟩;have n1:=(hb2.block _ (aaa HN1.out)).trans HN1.out;have hl1:=aaa n1;obtain⟨f0,f1,f2⟩:=acQ n1;obtain⟨z0,z1,z2⟩:=aam n1;have HM:=hE0 (ae5 n1 (.int .i64 0) (.slice none 0 0) (.slice none 0 0));have HF:=hE0 ((((HB1.out.trans (hb2.mono HB1.out.size)).setCell (p:=⟨w.heap.size,0,none⟩) (Nat.le_refl _) (.int .i64 0)).setCell (p:=⟨w.heap.size,1,none⟩) (Nat.le_refl _) (.slice none 0 0)).setCell (p:=⟨w.heap.size,2,none⟩) (Nat.le_refl _) (.slice none 0 0));have N1':=hE0 n1;clear n1;clear hb2;go_wp2
   (try simp only[Exit.inBlock,Exit.then])
   refine aj0 (g:=w.heap.size) (x:= .iface 130 (.int .i64 (k:Int))) Tryz.results254 ?_ ?_ ?_ HM.out ?_
   · rfl
   · rfl
   · rfl
   · refine⟨none,none,0,0,?_,?_,?_,fun _ h=>(by cases h),HF.out⟩
     · rw[<-HG.out];unfold ajt;dsimp only;rw[if_neg HKK.out];rfl
     · rw[<-HG.out];exact fun h=>absurd h (by simp)
     · rw[<-HG.out];exact fun h=>absurd h (by simp)
 have hb1':(abD b (acS b) (acZ b)).1=0:=Decidable.byContradiction hb0;obtain⟨hlen,hszs⟩:=amE hb1';rw[if_neg hb0]at hG;have eV:∀A,auI (abD b (acS b) (acZ b)) A= .tuple #[.slice A (abD b (acS b) (acZ b)).2.length (abD b (acS b) (acZ b)).2.length, .nilIface]:=fun A=>by unfold auI;rw[if_pos hb1']
 simp only[eV]at hBL;clear eV;obtain⟨l,hl⟩:=nmE ((abD b (acS b) (acZ b)).2);rw[hl]at hG hBL hlen hszs;have hll:l.length<=1024:=by omega
 have HBL:=hE0 hBL;have HSZ:=hE0 hszs;clear hBL hl hb0 hb1' hszs;by_cases hd0:(aeK b l).1≠0
 · rw[if_pos hd0]at hG;have HDB:=hE0 (fun V A2 k2 (hV:Below w.heap.size w V) (hr2:Rd V w.heap.size A n b) (hrk:RkRd V V.heap.size A2 l)=>anJ V A A2 n c w.heap.size k2 b l hr2 hnc hc hn hrk hV.size hll HSZ.out hd0);unfold auW at HDB;rw[if_neg hd0]at HDB;obtain⟨k,hk⟩:=nmE ((aeK b l).1);rw[hk]at hG HDB hd0;have HG:=hE0 hG;have HKK:=hE0 hd0;obtain⟨ll,hlll⟩:=nmE l.length;rw[hlll]at HBL HDB;clear hG hk hd0 hh hh0 hlo hlen hll hlll;go_enter Tryz.func254,Tryz.ntmps254
   go_wp2_with (first | (rw[HW1.out]) | fail)
   refine HH.out.mono ?_;rintro e w2 ⟨rfl,rfl⟩;go_wp2_with fail
   refine HBL.out.mono ?_;rintro e w2 ⟨A2,rfl,hrk2,hb2⟩;have HD:=hE0 (HDB.out w2 A2 ll (HB1.out.trans (hb2.mono HB1.out.size)) (HR1.out.below (hb2.mono HB1.out.size)) hrk2);have HB2:=hE0 hb2;have N2:=hE0 ((hb2.block _ (aaa HN1.out)).trans HN1.out);clear hb2 hrk2 HDB;go_wp2_with fail
   refine HD.out.mono ?_;rintro e w3 ⟨rfl,_,hb3⟩;have hb2:=HB2.out.trans (hb3.mono HB2.out.size);have n1:=(hb3.block _ (aaa N2.out)).trans N2.out;have hl1:=aaa n1;obtain⟨f0,f1,f2⟩:=acQ n1;obtain⟨z0,z1,z2⟩:=aam n1;have HM:=hE0 (ae5 n1 (.int .i64 0) (.slice none 0 0) (.slice none 0 0));have HF:=hE0 ((((HB1.out.trans (hb2.mono HB1.out.size)).setCell (p:=⟨w.heap.size,0,none⟩) (Nat.le_refl _) (.int .i64 0)).setCell (p:=⟨w.heap.size,1,none⟩) (Nat.le_refl _) (.slice none 0 0)).setCell (p:=⟨w.heap.size,2,none⟩) (Nat.le_refl _) (.slice none 0 0));have N1':=hE0 n1;clear n1;clear hb2 hb3;go_wp2
   (try simp only[Exit.inBlock,Exit.then])
   refine aj0 (g:=w.heap.size) (x:= .iface 130 (.int .i64 (k:Int))) Tryz.results254 ?_ ?_ ?_ HM.out ?_
   · rfl
   · rfl
   · rfl
   · refine⟨none,none,0,0,?_,?_,?_,fun _ h=>(by cases h),HF.out⟩
     · rw[<-HG.out];unfold ajt;dsimp only;rw[if_neg HKK.out];rfl
     · rw[<-HG.out];exact fun h=>absurd h (by simp)
     · rw[<-HG.out];exact fun h=>absurd h (by simp)
 have hd1:(aeK b l).1=0:=Decidable.byContradiction hd0;rw[if_neg hd0]at hG;have HDB:=hE0 (fun V A2 k2 (hV:Below w.heap.size w V) (hr2:Rd V w.heap.size A n b) (hrk:RkRd V V.heap.size A2 l)=>apA V A A2 n c w.heap.size k2 b l hr2 hnc hc hn hrk hV.size hll HSZ.out hd1);have eV:∀A c,auW (aeK b l) A c= .tuple #[.slice A (aeK b l).2.length c, .nilIface]:=fun A c=>by unfold auW;rw[if_pos hd1]
 simp only[eV]at HDB;clear eV;obtain⟨d,hd⟩:=nmE ((aeK b l).2);rw[hd]at hG HDB;obtain⟨ll,hlll⟩:=nmE l.length;obtain⟨dl,hdll⟩:=nmE d.length;rw[hlll]at HBL HDB;rw[hdll]at HDB;have HG:=hE0 hG;have HLL:=hE0 hlll;have HDL:=hE0 hdll;obtain⟨N,hN⟩:=nmE (acS b);obtain⟨K,hK⟩:=nmE (acZ b);rw[hN,hK]at HH HBL;rw[hN]at HG;clear hG hd hd0 hd1 hh hh0 hlo hlen hll hlll hdll hN hK hcn;go_enter Tryz.func254,Tryz.ntmps254
 go_wp2_with (first | (rw[HW1.out]) | fail)
 refine HH.out.mono ?_;rintro e w2 ⟨rfl,rfl⟩;go_wp2_with fail
 refine HBL.out.mono ?_;rintro e w2 ⟨A2,rfl,hrk2,hb2⟩;have HD:=hE0 (HDB.out w2 A2 ll (HB1.out.trans (hb2.mono HB1.out.size)) (HR1.out.below (hb2.mono HB1.out.size)) hrk2);have HB2:=hE0 hb2;have HRK2:=hE0 hrk2;have N2:=hE0 ((hb2.block _ (aaa HN1.out)).trans HN1.out);clear hb2 hrk2 HDB;go_wp2_with fail
 refine HD.out.mono ?_;rintro e w3 ⟨A3,c3,rfl,hdt3,hb3⟩;have n2:=(hb3.block _ (aaa N2.out)).trans N2.out;have hl2:=aaa n2;obtain⟨f0,f1,f2⟩:=acQ n2;obtain⟨z0,z1,z2⟩:=aam n2;have HM:=hE0 (ae5 n2 (.int .i64 (N:Int)) (.slice A2 ll ll) (.slice A3 dl c3));have hB3:=HB1.out.trans ((HB2.out.trans (hb3.mono HB2.out.size)).mono HB1.out.size);have HF:=hE0 (((hB3.setCell (p:=⟨w.heap.size,0,none⟩) (Nat.le_refl _) (.int .i64 (N:Int))).setCell (p:=⟨w.heap.size,1,none⟩) (Nat.le_refl _) (.slice A2 ll ll)).setCell (p:=⟨w.heap.size,2,none⟩) (Nat.le_refl _) (.slice A3 dl c3));have N2':=hE0 n2;have HRK3:=hE0 ((HRK2.out.below hb3).more hb3.size);have HDT3:=hE0 hdt3;have HG3:Hid (∀a,A3=some a->w.heap.size<=a.block):=(show ∀a,_->_ from fun a e=>by
  obtain⟨xs,ho,_⟩:=hdt3;have h1:=aj1 ho a.block (by rw[e];rfl);have h2:=HB1.out.size;have h3:=HB2.out.size;omega)
 clear hb3 n2 hB3 HBL HH hdt3;go_wp2
 (try simp only[Exit.inBlock,Exit.then])
 refine aj0 (g:=w.heap.size) (x:= .nilIface) Tryz.results254 ?_ ?_ ?_ HM.out ?_
 · rfl
 · rfl
 · rfl
 · refine⟨A2,A3,ll,c3,?_,?_,?_,HG3.out,HF.out⟩
   · rw[<-HG.out];dsimp only;rw[HLL.out,HDL.out];rfl
   · rw[<-HG.out];refine(HRK3.out.off N2'.out fun k hk=> ?_).more (by simp);rw[heap_setCell_other _ _ _ _ hk,heap_setCell_other _ _ _ _ hk,heap_setCell_other _ _ _ _ hk]
   · rw[<-HG.out];obtain⟨xs,ho,hdo⟩:=HDT3.out;rw[<-HDL.out]at ho;have g0:=acu w3 w.heap.size 0 (.int .i64 (N:Int));have g1:=acu (w3.setCell ⟨w.heap.size,0,none⟩ (.int .i64 (N:Int))) w.heap.size 1 (.slice A2 ll ll);have g2:=acu ((w3.setCell ⟨w.heap.size,0,none⟩ (.int .i64 (N:Int))).setCell ⟨w.heap.size,1,none⟩ (.slice A2 ll ll)) w.heap.size 2 (.slice A3 dl c3);have k0:=N2'.out;have k1:=heap_setCell_same w3 w.heap.size 0 _ _ (.int .i64 (N:Int)) k0;have k2:=heap_setCell_same _ w.heap.size 1 _ _ (.slice A2 ll ll) k1;have o1:=acO ho g0 (fun k hk hrk=>by injection hrk with hrk;subst hrk;exact acB ho hk k0 (by decide));have o2:=acO o1 g1 (fun k hk hrk=>by injection hrk with hrk;subst hrk;exact acB o1 hk k1 (by decide));have o3:=acO o2 g2 (fun k hk hrk=>by injection hrk with hrk;subst hrk;exact acB o2 hk k2 (by decide));have d1:=hdo.grown g0 (fun k hrk=>by injection hrk with hrk;subst hrk;exact⟨_,_,_,by decide,k0⟩);have d2:=d1.grown g1 (fun k hrk=>by injection hrk with hrk;subst hrk;exact⟨_,_,_,by decide,k1⟩);have d3:=d2.grown g2 (fun k hrk=>by injection hrk with hrk;subst hrk;exact⟨_,_,_,by decide,k2⟩);exact d3.rd o3
theorem aka{b:List UInt8}{i j:Nat}(hj:j+4<=b.length):decide (ahO ((b.drop i).take (j-i))=(b.drop j).take 4)=abw b i j:=by
 have hl:((b.drop j).take 4).length=4:=by rw[List.length_take,List.length_drop];omega
 unfold abw ahO;have h1:=acm 4 (abZ 0 ((b.drop i).take (j-i)));rw[Nat.mod_eq_of_lt (by have:=aeh 0 ((b.drop i).take (j-i));omega)]at h1;have h2:=agl ((b.drop j).take 4);rw[hl]at h2;by_cases h:aaJ 4 (abZ 0 ((b.drop i).take (j-i)))=(b.drop j).take 4
 · rw[decide_eq_true h,<-h,h1];exact(beq_self_eq_true _).symm
 · rw[decide_eq_false h];symm
   rw[beq_eq_false_iff_ne];intro e;rw[<-e,h2]at h;exact h rfl
def avD:List Rk->List (List UInt8)
 | []=> []
 | x::l=>if x.u then List.replicate (x.s.toNat-16) 0::avD l else avD l
theorem amF:∀{l:List Rk}{b:List UInt8}{j:Nat}{y:List UInt8},aaP l<=b.length->(af9 l b)[j]?=some y->y=(b.drop ((af9 l b).take j).flatten.length).take y.length/\(avD l)[j]?=some (List.replicate y.length 0)/\((af9 l b).take j).flatten.length+y.length<=aaP l
 | [],b,j,y,_,h=>by simp[af9]at h
 | x::l,b,j,y,hl,h=>by
  unfold aaP at hl;unfold af9 at h ⊢;unfold avD aaP
  cases hu:x.u with
  | false=>
   rw[hu]at hl h;simp only[Bool.false_eq_true,if_false,Nat.zero_add]at hl h ⊢;exact amF hl h
  | true=>
   rw[hu]at hl h;simp only[if_true]at hl h ⊢
   cases j with
   | zero=>
    simp at h;subst h;have hln:(b.take (x.s.toNat-16)).length=x.s.toNat-16:=by rw[List.length_take];omega
    rw[hln];simp
   | succ j=>
    rw[List.getElem?_cons_succ]at h;have hd:aaP l<=(b.drop (x.s.toNat-16)).length:=by rw[List.length_drop];omega
    obtain⟨h1,h2,h3⟩:=amF hd h;have hln:(b.take (x.s.toNat-16)).length=x.s.toNat-16:=by rw[List.length_take];omega
    refine⟨?_,by rw[List.getElem?_cons_succ];exact h2,?_⟩
    · rw[List.take_succ_cons,List.flatten_cons,List.length_append,hln,<-List.drop_drop];exact h1
    · rw[List.take_succ_cons,List.flatten_cons,List.length_append,hln];omega
theorem agI:∀{l:List Rk}{b:List UInt8},aaP l<=b.length->(af9 l b).flatten=b.take (aaP l)
 | [],b,_=>by simp[af9,aaP]
 | x::l,b,hl=>by
  unfold aaP at hl;unfold af9 aaP
  cases hu:x.u with
  | false=>
   rw[hu]at hl;simp only[Bool.false_eq_true,if_false,Nat.zero_add]at hl ⊢;exact agI hl
  | true=>
   rw[hu]at hl;simp only[if_true]at hl ⊢;rw[List.flatten_cons,agI (by rw[List.length_drop];omega),List.take_add]
section
variable {b:List UInt8} {n N K:Nat} {l:List Rk}
structure HeadOk (b:List UInt8) (n N K:Nat):Prop where
 hn:b.length=n
 h28:28<=n
 hm:b.take 8=imMarkB
 hs:abw b 0 24=true
 hN:acS b=N
 hK:acZ b=K
theorem HeadOk.bad (h:HeadOk b n N K) (hb:¬(184<=N/\N<=16384/\N%16=8/\K<=1024/\32+8*K<=n)):ae9 b=(3,0,[],[]):=by
 obtain⟨e1,e2,e3,e4,e5,e6⟩:=h;subst e5 e6;by_cases h1:ab0 (acS b:Int)=true/\acZ b<=1024
 · have hh:adx b=0:=by
    unfold adx;rw[if_neg (by omega),if_neg (by simpa using e3),if_neg (by rw[e4];simp),if_neg (by rw[h1.1];simp),if_neg (by omega)]
   have:=(aaV _).1 h1.1;have hbl:abD b (acS b) (acZ b)=(3,[]):=by
    unfold abD;rw[if_pos (by omega)]
   unfold ae9;rw[if_neg (by rw[hh];simp),if_pos (by rw[hbl];simp),hbl]
 · have hh:adx b=3:=by
    unfold adx;rw[if_neg (by omega),if_neg (by simpa using e3),if_neg (by rw[e4];simp)];by_cases h2:ab0 (acS b:Int)=false
    · rw[if_pos h2]
    · rw[if_neg h2,if_pos]
      cases h3:ab0 (acS b:Int)with
      | false=>exact absurd h3 h2
      | true=>exact Nat.lt_of_not_le fun h4=>h1 ⟨h3,h4⟩
   unfold ae9;rw[if_pos (by rw[hh];simp),hh]
structure apB (n N K:Nat):Prop where
 n0:184<=N
 n1:N<=16384
 n2:N%16=8
 n3:K<=1024
 n4:32+8*K<=n
theorem HeadOk.zero (h:HeadOk b n N K) (k:apB n N K):adx b=0:=by
 obtain⟨e1,e2,e3,e4,e5,e6⟩:=h;obtain⟨k0,k1,k2,k3,k4⟩:=k;subst e5 e6;unfold adx;rw[if_neg (by omega),if_neg (by simpa using e3),if_neg (by rw[e4];simp),if_neg,if_neg (by omega)];rw[(aaV _).2 (by omega)];simp
theorem HeadOk.tags (h:HeadOk b n N K) (k:apB n N K) (ht:abw b 28 (28+8*K)=false):ae9 b=(9,0,[],[]):=by
 have hz:=h.zero k;obtain⟨e1,e2,e3,e4,e5,e6⟩:=h;have:=k.n4;subst e5 e6;have hbl:abD b (acS b) (acZ b)=(9,[]):=by
  unfold abD;rw[if_neg (by omega),if_pos ht]
 unfold ae9;rw[if_neg (by rw[hz];simp),if_pos (by rw[hbl];simp),hbl]
theorem HeadOk.blks (h:HeadOk b n N K) (k:apB n N K) (ht:abw b 28 (28+8*K)=true):abD b (acS b) (acZ b)=atA N (aaR (b.drop 28) K 184):=by
 obtain⟨e1,e2,e3,e4,e5,e6⟩:=h;have:=k.n4;subst e5 e6;unfold abD;rw[if_neg (by omega),if_neg (by rw[ht];simp)]
theorem HeadOk.row (h:HeadOk b n N K) (k:apB n N K) (ht:abw b 28 (28+8*K)=true) (hb:aaR (b.drop 28) K 184=some l) (hr:abh (N:Int) 184 false l=true):ae9 b=if (aeK b l).1≠0 then ((aeK b l).1,0,[],[]) else (0,N,l,(aeK b l).2):=by
 have hz:=h.zero k;have hbl:=h.blks k ht;rw[hb]at hbl;have hbl2:abD b (acS b) (acZ b)=(0,l):=by
  rw[hbl];unfold atA;dsimp only;rw[if_neg (by rw[hr];simp)]
 unfold ae9;rw[if_neg (by rw[hz];simp),if_neg (by rw[hbl2];simp),hbl2,h.hN]
theorem avE (h:b.length=n) (hl:l.length=K) (hn:n=32+8*K+aaP l+8) (y1 y2:Bool) (h1:abw b (32+8*K) (32+8*K+aaP l)=y1) (h2:abw b 0 (32+8*K+aaP l+4)=y2) (hy:y1=false\/y2=false):aeK b l=(9,[]):=by
 unfold aeK;rw[hl,if_neg (by omega),h1,h2];rcases hy with rfl | rfl
 · rw[if_pos rfl]
 · cases y1
   · rw[if_pos rfl]
   · rw[if_neg (by simp),if_pos rfl]
theorem atF (h:b.length=n) (hl:l.length=K) (hn:n=32+8*K+aaP l+8) (h1:abw b (32+8*K) (32+8*K+aaP l)=true) (h2:abw b 0 (32+8*K+aaP l+4)=true):aeK b l=(0,af9 l (b.drop (32+8*K))):=by
 unfold aeK;rw[hl,if_neg (by omega),h1,h2,if_neg (by simp),if_neg (by simp)]
end
structure Sk where
 G:Nat
 N:Nat
 S:Nat
 ok:Bool
 n:Nat
 l:List Rk
 d:List (List UInt8)
def arb:Sk:=⟨0,0,0,false,0,[],[]⟩
def arU (G N S s:Nat) (Γ:Nat × Nat × List Rk × List (List UInt8)):Sk:=
 if Γ.1=0/\s=S then ⟨G,N,S,true,Γ.2.1,Γ.2.2.1,Γ.2.2.2⟩ else ⟨G,N,S,false,0,[],[]⟩
def amG (b:List UInt8) (half:Nat) (a:Nat->List UInt8):Sk:=
 if acI b=false then arb else
 if 512*(half-1)<slN b then ⟨slG b,slN b,slS b,false,0,[],[]⟩ else arU (slG b) (slN b) (slS b) (abZ 0 (a (slN b))) (ae9 (a (slN b)))
def ady (bs:List UInt8) (wt:List (Nat × List UInt8)) (half k:Nat):Sk:=
 amG (abB bs wt (k*half)) half (fun n=>(adw bs wt (k*half+1) (need n)).take n)
def skV (s:Sk) (A1:Option Addr) (c1:Nat) (A2:Option Addr) (c2:Nat):Value:= .agg #[.int .u64 (s.G:Int), .int .u64 (s.N:Int), .int .u32 (s.S:Int), .bool s.ok, .int .i64 (s.n:Int), .slice A1 s.l.length c1, .slice A2 s.d.length c2]
theorem as0{b:List UInt8}(h:acI b=true):slG b<=4611686018427387904/\slN b<=65536:=by
 unfold acI at h;rw[Bool.and_eq_true]at h;have h1:=of_decide_eq_true h.1;have h2:=of_decide_eq_true h.2;unfold aov at h2;by_cases hk:akW (slG b) (slN b)=true
 · unfold akW at hk;simp only[Bool.and_eq_true,decide_eq_true_eq]at hk;exact⟨hk.2.1,hk.2.2⟩
 · rw[if_neg hk]at h2;rw[<-h2]at h1
   cases h1
theorem RkRd.offS{w w':World}{B g:Nat}{A:Option Addr}{l:List Rk}{t:TypeId}{fr:Nat × Nat}{a b c e:Int}{f:Bool}{A1 A2:Option Addr}{n1 k1 n2 k2:Nat}(h:RkRd w B A l) (hg:w.heap[g]?=some (.cells #[.int .u64 a, .int .u64 b, .int .u32 c, .bool f, .int .i64 e, .slice A1 n1 k1, .slice A2 n2 k2] t fr)) (hk:∀k,k≠g->w'.heap[k]?=w.heap[k]?):RkRd w' B A l:=fun hn=>by
 obtain⟨b,o,e,hB,hc⟩:=h hn;have hbg:b≠g:=by
  intro e2;subst e2;obtain⟨x,hx⟩:∃x,l[0]?=some x:=⟨l[0]'hn,List.getElem?_eq_getElem _⟩;obtain⟨h0,h1,_⟩:=hc 0 x hx;rw[cell_of_row _ _ _ _ _ _ hg]at h0 h1;rcases o with _ | _ | _ | _ | _ | _ | _ | o<;>simp at h0 h1
 refine⟨b,o,e,hB,fun j x hx=> ?_⟩;obtain⟨h0,h1,h2,h3⟩:=hc j x hx;have hh:=hk b hbg;refine⟨?_,?_,?_,h3⟩
 · rw[<-h0];simp[World.cell?,hh]
 · rw[<-h1];simp[World.cell?,hh]
 · rw[<-h2];simp[World.cell?,hh]
theorem Rd.offS{w w':World}{B g n:Nat}{A:Option Addr}{l:List UInt8}{t:TypeId}{fr:Nat × Nat}{a b c e:Int}{f:Bool}{A1 A2:Option Addr}{n1 k1 n2 k2:Nat}(h:Rd w B A n l) (hg:w.heap[g]?=some (.cells #[.int .u64 a, .int .u64 b, .int .u32 c, .bool f, .int .i64 e, .slice A1 n1 k1, .slice A2 n2 k2] t fr)) (hk:∀k,k≠g->w'.heap[k]?=w.heap[k]?):Rd w' B A n l:=by
 refine⟨h.1,fun hn=> ?_⟩;obtain⟨b,o,e,hB,hc⟩:=h.2 hn;have hbg:b≠g:=by
  intro e2;subst e2;obtain⟨x,hx⟩:∃x,l[0]?=some x:=⟨l[0]'(by rw[h.1];exact hn),List.getElem?_eq_getElem _⟩;have h0:=hc 0 x hx;rw[cell_of_row _ _ _ _ _ _ hg]at h0;rcases o with _ | _ | _ | _ | _ | _ | _ | o<;>simp at h0
 refine⟨b,o,e,hB,fun j x hx=> ?_⟩;have hh:=hk b hbg;rw[<-hc j x hx];simp[World.cell?,hh]
theorem DtRd.offS{w w':World}{B g:Nat}{A:Option Addr}{l:List (List UInt8)}{t:TypeId}{fr:Nat × Nat}{a b c e:Int}{f:Bool}{A1 A2:Option Addr}{n1 k1 n2 k2:Nat}(h:DtRd w B A l) (hA:∀a,A=some a->a.block≠g) (hg:w.heap[g]?=some (.cells #[.int .u64 a, .int .u64 b, .int .u32 c, .bool f, .int .i64 e, .slice A1 n1 k1, .slice A2 n2 k2] t fr)) (hk:∀k,k≠g->w'.heap[k]?=w.heap[k]?):DtRd w' B A l:=fun hn=>by
 obtain⟨b,o,e,hB,hc⟩:=h hn;refine⟨b,o,e,hB,fun j x hx=> ?_⟩;obtain⟨A',k,h1,h2,h3⟩:=hc j x hx;have hh:=hk b (hA _ e);exact⟨A',k,by rw[<-h1];simp[World.cell?,hh],h2.offS hg hk,h3⟩
section
variable {S:Nat->Prop} {w:World} {g:Nat} {L:Option Addr} {cl:Nat} {W:Option Addr} {cw:Nat} {ls ws:List Wr} {left:Int} {off:Bool}
end
def agJ (x y:Sk):Int:=if x.ok=true/\(y.ok=false\/y.G<=x.G) then 0 else if y.ok=true then 1 else-1
section
variable {S:Nat->Prop} {w:World} {g:Nat} {L:Option Addr} {cl:Nat} {W:Option Addr} {cw:Nat} {ls ws:List Wr} {left:Int} {off:Bool}
def auX (x y:Sk) (base:Nat) (cap:Int):Nat × Nat × List Rk × List (List UInt8):=
 if agJ x y<0 then (8,0,[],[]) else
 if ¬(base%16=0/\base<=4611686018427387904/\1024<=cap/\cap<=16384) then (1,0,[],[]) else
 if agJ x y=0 then (if cap<(x.n:Int) then (10,0,[],[]) else (0,x.n,x.l,x.d)) else (if cap<(y.n:Int) then (10,0,[],[]) else (0,y.n,y.l,y.d))
theorem ahW (x y:Sk):agJ x y= -1\/agJ x y=0\/agJ x y=1:=by
 unfold agJ;split
 · exact .inr (.inl rfl)
 · split
   · exact .inr (.inr rfl)
   · exact .inl rfl
theorem atG{w w':World}{g:Nat}{A1 A2:Option Addr}{l:List Rk}{d:List (List UInt8)}{t:TypeId}(h:RkRd w w.heap.size A1 l/\DtRd w w.heap.size A2 d) (hA:∀a,A2=some a->a.block≠g) (hg:w.heap[g]?=some (.cells #[.int .i64 0, .slice none 0 0, .slice none 0 0] t (0,0))) (hs:w'.heap.size=w.heap.size) (hk:∀k,k≠g->w'.heap[k]?=w.heap[k]?):RkRd w' w'.heap.size A1 l/\DtRd w' w'.heap.size A2 d:=by
 rw[hs];refine⟨h.1.off hg hk,fun hn=> ?_⟩;obtain⟨b,o,e,hB,hc⟩:=h.2 hn;refine⟨b,o,e,hB,fun j y hy=> ?_⟩;obtain⟨A',k,h1,h2,h3⟩:=hc j y hy;refine⟨A',k,by rw[<-h1];simp[World.cell?,hk b (hA _ e)],⟨h2.1,fun hn=> ?_⟩,h3⟩;obtain⟨b2,o2,e2,hB2,hc2⟩:=h2.2 hn;have hbg:b2≠g:=by
  intro e3;subst e3;obtain⟨u,hu⟩:∃u,y[0]?=some u:=⟨y[0]'hn,List.getElem?_eq_getElem _⟩;have h0:=hc2 0 u hu;rw[cell_of_row _ _ _ _ _ _ hg]at h0;rcases o2 with _ | _ | _ | o2<;>simp at h0
 exact⟨b2,o2,e2,hB2,fun j u hu=>by rw[<-hc2 j u hu];simp[World.cell?,hk b2 hbg]⟩
end
structure Good (b:List UInt8) (N:Nat) (l:List Rk) (d:List (List UInt8)):Prop where
 h28:28<=b.length
 hm:b.take 8=imMarkB
 hs:abw b 0 24=true
 hN:acS b=N
 hlo:ab0 (N:Int)=true
 hK:acZ b=l.length
 hk:l.length<=1024
 hst:abw b 28 (28+8*l.length)=true
 hb:aaR (b.drop 28) l.length 184=some l
 hr:abh (N:Int) 184 false l=true
 hlen:b.length=32+8*l.length+aaP l+8
 h1:abw b (32+8*l.length) (32+8*l.length+aaP l)=true
 h2:abw b 0 (32+8*l.length+aaP l+4)=true
 hd:d=af9 l (b.drop (32+8*l.length))
section
variable {b c:List UInt8} {N:Nat} {l:List Rk} {d:List (List UInt8)}
theorem Good.got (h:Good b N l d):ae9 b=(0,N,l,d):=by
 have ho:HeadOk b b.length N l.length:=⟨rfl,h.h28,h.hm,h.hs,h.hN,h.hK⟩;have hl:=(aaV _).1 h.hlo;have hno:apB b.length N l.length:=⟨by omega,by omega,by omega,h.hk,by have:=h.hlen;omega⟩;rw[ho.row hno h.hst h.hb h.hr,atF rfl rfl h.hlen h.h1 h.h2,if_neg (by simp),h.hd]
theorem ad6{x:Bool}(h:¬x=false):x=true:=by
 cases x with
 | true=>rfl
 | false=>exact absurd rfl h
theorem apC (h:ae9 b=(0,N,l,d)):Good b N l d:=by
 unfold ae9 at h;by_cases h0:adx b≠0
 · rw[if_pos h0]at h;injection h with h _;exact absurd h h0
 rw[if_neg h0]at h;have h0:adx b=0:=Decidable.byContradiction h0;by_cases h1:(abD b (acS b) (acZ b)).1≠0
 · rw[if_pos h1]at h;injection h with h _;exact absurd h h1
 rw[if_neg h1]at h;have h1:(abD b (acS b) (acZ b)).1=0:=Decidable.byContradiction h1;by_cases h2:(aeK b (abD b (acS b) (acZ b)).2).1≠0
 · rw[if_pos h2]at h;injection h with h _;exact absurd h h2
 rw[if_neg h2]at h;have h2:(aeK b (abD b (acS b) (acZ b)).2).1=0:=Decidable.byContradiction h2;injection h with _ h;injection h with hN h;injection h with hl hd;obtain⟨hlo,hcn⟩:=amD h0;unfold adx at h0;by_cases a1:b.length<28
 · rw[if_pos a1]at h0;cases h0
 rw[if_neg a1]at h0;by_cases a2:b.take 8≠imMarkB
 · rw[if_pos a2]at h0;cases h0
 rw[if_neg a2]at h0;by_cases a3:abw b 0 24=false
 · rw[if_pos a3]at h0;cases h0
 have a2:b.take 8=imMarkB:=Decidable.byContradiction a2;obtain⟨hlK,_⟩:=amE h1;rw[hl]at hlK hd h2;unfold abD at h1 hl;by_cases a4:b.length<32+8*acZ b
 · rw[if_pos a4]at h1;cases h1
 rw[if_neg a4]at h1 hl;by_cases a5:abw b 28 (28+8*acZ b)=false
 · rw[if_pos a5]at h1;cases h1
 rw[if_neg a5]at h1 hl
 cases hbk:aaR (b.drop 28) (acZ b) 184 with
 | none=>rw[hbk]at h1;cases h1
 | some l'=>
  rw[hbk]at h1 hl;unfold atA at h1 hl;dsimp only at h1 hl;by_cases a6:abh (acS b:Int) 184 false l'=false
  · rw[if_pos a6]at h1;cases h1
  rw[if_neg a6]at h1 hl;dsimp only at hl;subst hl;have hlK':=hlK;unfold aeK at h2 hd;by_cases a7:b.length≠32+8*l'.length+aaP l'+8
  · rw[if_pos a7]at h2;cases h2
  rw[if_neg a7]at h2 hd;by_cases a8:abw b (32+8*l'.length) (32+8*l'.length+aaP l')=false
  · rw[if_pos a8]at h2;cases h2
  rw[if_neg a8]at h2 hd;by_cases a9:abw b 0 (32+8*l'.length+aaP l'+4)=false
  · rw[if_pos a9]at h2;cases h2
  rw[if_neg a9]at hd;have a7:b.length=32+8*l'.length+aaP l'+8:=Decidable.byContradiction a7;subst hN;exact⟨by omega,a2,ad6 a3,rfl,hlo,hlK.symm,by omega,by rw[hlK];exact ad6 a5,by rw[hlK];exact hbk,ad6 a6,a7,ad6 a8,ad6 a9,hd.symm⟩
theorem aga{X:List UInt8}{i j:Nat}(hX:b.take j=X) (hj:j+4<=b.length) (_hij:i<=j) (h:abw b i j=true):b.take (j+4)=af3 X i:=by
 rw[<-aka hj]at h;have h:=of_decide_eq_true h;unfold af3;rw[List.take_add,<-h,<-hX,List.drop_take]
theorem afa{X r:List UInt8}{i j:Nat}(hj:X.length=j) (hij:i<=j):abw (af3 X i++r) i j=true:=by
 have hl:(af3 X i++r).length=j+4+r.length:=by unfold af3;rw[List.length_append,List.length_append,ab6,hj]
 rw[<-aka (by omega)];apply decide_eq_true;unfold af3;have e1:((X++ahO (X.drop i)++r).drop i).take (j-i)=X.drop i:=by
  rw[List.append_assoc,List.drop_append_of_le_length (by omega),List.take_append_of_le_length (by rw[List.length_drop];omega),List.take_of_length_le (by rw[List.length_drop];omega)]
 have e2:((X++ahO (X.drop i)++r).drop j).take 4=ahO (X.drop i):=by
  rw[List.append_assoc,<-hj,List.drop_left,List.take_append_of_le_length (by rw[ab6];omega),List.take_of_length_le (by rw[ab6];omega)]
 rw[e1,e2]
theorem alr{x:List UInt8}(h:x.length=8):aaJ 8 (ab2 x)=x:=by
 have:=agl x;rw[h]at this;exact this
theorem arV{x:List UInt8}{s:Nat}{u:Bool}(h:x.length=8) (hu:adM (ab2 x)=some (s,u)) (o:Int):aou ⟨o,(s:Int),u⟩=x:=by
 obtain⟨h1,h2⟩:=ac4 hu;have h3:=afn h1 u;unfold aou;have e:acf (s:Int) u=ab2 x:=by
  rw[h2];unfold acf;rw[if_pos h1];simp
 rw[e];exact alr h
theorem agK:∀{k:Nat}{b:List UInt8}{o:Nat}{l:List Rk},8*k<=b.length->aaR b k o=some l->acA l=b.take (8*k)
 | 0,b,o,l,_,h=>by
  rw[aaR]at h;injection h with h;rw[<-h];rfl
 | k+1,b,o,l,hl,h=>by
  rw[aaR]at h;split at h
  · cases h
  · rename_i s u e
    cases hm:aaR (b.drop 8) k (o+s)with
    | none=>rw[hm]at h;cases h
    | some l'=>
     rw[hm]at h;injection h with h;rw[<-h];have ih:=agK (by rw[List.length_drop];omega) hm;have:acA (⟨(o:Int),(s:Int),u⟩::l')=aou ⟨(o:Int),(s:Int),u⟩++acA l':=by
      unfold acA;rw[List.map_cons,List.flatten_cons]
     rw[this,ih,arV (by rw[List.length_take];omega) e,show 8*(k+1)=8+8*k from by omega,List.take_add]
theorem agL:∀{l:List Rk}{b:List UInt8},(∀x∈l,aaG x.s=true)->aaP l<=b.length->datOk l (af9 l b)=true
 | [],_,_,_=>rfl
 | x::l,b,h,hl=>by
  have hx:=(aab _).1 (h x (by simp));unfold aaP at hl;unfold datOk af9
  cases hu:x.u with
  | false=>
   rw[hu]at hl;simp only[Bool.false_eq_true,if_false,Nat.zero_add]at hl ⊢;exact agL (l:=l) (fun y hy=>h y (by simp[hy])) hl
  | true=>
   rw[hu]at hl;simp only[if_true]at hl ⊢;have ih:=agL (l:=l) (b:=b.drop (x.s.toNat-16)) (fun y hy=>h y (by simp[hy])) (by rw[List.length_drop];omega);rw[ih,Bool.and_true,beq_iff_eq,List.length_take];omega
theorem Good.put (h:Good b N l d):b=aaZ N l d/\aew (N:Int) l d=true:=by
 obtain⟨h28,hm,hs,hN,hlo,hK,hk,hst,hb,hr,hlen,h1,h2,hd⟩:=h;have hlB:=(aaV _).1 hlo;have hh:b.take 24=aex N l.length:=by
  have e1:(b.drop 8).take 8=aaJ 8 N:=by rw[<-hN];unfold acS;rw[alr];rw[List.length_take,List.length_drop];omega
  have e2:(b.drop 16).take 8=aaJ 8 l.length:=by rw[<-hK];unfold acZ;rw[alr];rw[List.length_take,List.length_drop];omega
  unfold aex;rw[show 24=8+(8+8) from rfl,List.take_add,List.take_add,List.drop_drop,hm,e1,e2,List.append_assoc]
 have hA:b.take 28=alf N l.length:=aga hh (by omega) (by omega) hs;have hT0:b.take (28+8*l.length)=alf N l.length++acA l:=by
  rw[List.take_add,hA,agK (by rw[List.length_drop];omega) hb]
 have hT:b.take (28+8*l.length+4)=ahP N l:=aga hT0 (by omega) (by omega) hst;rw[show 28+8*l.length+4=32+8*l.length from by omega]at hT;have hheld:aaP l<=(b.drop (32+8*l.length)).length:=by rw[List.length_drop];omega
 have hD0:b.take (32+8*l.length+aaP l)=ahP N l++d.flatten:=by
  rw[List.take_add,hT,hd,agI hheld]
 have hD:b.take (32+8*l.length+aaP l+4)=akV N l d:=by
  have:=aga hD0 (by omega) (by omega) h1;rw[this];unfold akV;rw[adt]
 have hB:b.take (32+8*l.length+aaP l+4+4)=aaZ N l d:=aga hD (by omega) (by omega) h2;refine⟨?_,?_⟩
 · rw[<-hB,List.take_of_length_le (by omega)]
 · unfold aew;rw[hlo,hr,hd,agL (ae1 hr) hheld];rfl
theorem afA:∀{l:List Rk}{d:List (List UInt8)},datOk l d=true->(∀x∈l,aaG x.s=true)->aaP l=d.flatten.length
 | [],d,h,_=>by
  unfold datOk at h;rw[List.isEmpty_iff]at h;rw[h];rfl
 | x::l,d,h,hz=>by
  have hx:=(aab _).1 (hz x (by simp));have hz2:∀y∈l,aaG y.s=true:=fun y hy=>hz y (by simp[hy]);unfold datOk at h;unfold aaP
  cases hu:x.u with
  | false=>
   rw[hu]at h;simp only[Bool.false_eq_true,if_false,Nat.zero_add]at h ⊢;exact afA h hz2
  | true=>
   rw[hu]at h;simp only[if_true]at h ⊢
   cases d with
   | nil=>cases h
   | cons y d'=>
    simp only[Bool.and_eq_true,beq_iff_eq]at h;rw[afA h.2 hz2,List.flatten_cons,List.length_append];omega
theorem afB:∀{l:List Rk}{d:List (List UInt8)}{r:List UInt8},datOk l d=true->(∀x∈l,aaG x.s=true)->af9 l (d.flatten++r)=d
 | [],d,r,h,_=>by
  unfold datOk at h;rw[List.isEmpty_iff]at h;rw[h];rfl
 | x::l,d,r,h,hz=>by
  have hx:=(aab _).1 (hz x (by simp));have hz2:∀y∈l,aaG y.s=true:=fun y hy=>hz y (by simp[hy]);unfold datOk at h;unfold af9
  cases hu:x.u with
  | false=>
   rw[hu]at h;simp only[Bool.false_eq_true,if_false]at h ⊢;exact afB h hz2
  | true=>
   rw[hu]at h;simp only[if_true]at h ⊢
   cases d with
   | nil=>cases h
   | cons y d'=>
    simp only[Bool.and_eq_true,beq_iff_eq]at h;have hy:x.s.toNat-16=y.length:=by omega
    rw[List.flatten_cons,List.append_assoc,hy,List.take_left,List.drop_left,afB h.2 hz2]
theorem ahX{n:Int}:∀{l:List Rk}{o:Nat}{f:Bool}{r:List UInt8},abh n (o:Int) f l=true->aaR (acA l++r) l.length o=some l
 | [],o,f,r,_=>rfl
 | x::l,o,f,r,h=>by
  unfold abh at h;simp only[Bool.and_eq_true,beq_iff_eq]at h;obtain⟨ho,hs,_,_,hr⟩:=h;have hx:=(aab _).1 hs;have e:acA (x::l)++r=aou x++(acA l++r):=by
   unfold acA;rw[List.map_cons,List.flatten_cons,List.append_assoc]
  have hl:(aou x).length=8:=aag _ _;have hp:=afX x.s x.u;have hu:adM (ab2 (aou x))=some (x.s.toNat,x.u):=by
   unfold aou;rw[acm,Nat.mod_eq_of_lt (by omega)];exact afn hs x.u
  rw[e,List.length_cons,aaR,<-hl,List.take_left,List.drop_left,hu];dsimp only;have hr2:abh n ((o+x.s.toNat:Nat):Int) (!x.u) l=true:=by
   rw[show((o+x.s.toNat:Nat):Int)=(o:Int)+x.s from by omega];exact hr
  rw[ahX hr2];have hxs:((x.s.toNat:Nat):Int)=x.s:=by omega
  show some ((⟨(o:Int),((x.s.toNat:Nat):Int),x.u⟩:Rk)::l)=some (x::l);rw[hxs,<-ho]
theorem als (h:aew (N:Int) l d=true):Good (aaZ N l d) N l d:=by
 unfold aew at h;simp only[Bool.and_eq_true]at h;obtain⟨hlo,hr,hdo⟩:=h;have hl:=(aaV _).1 hlo;have hk:l.length<=1024:=by have:=ajW hr;omega
 have hz:=ae1 hr;have hheld:=afA hdo hz;have hDl:(ahP N l++d.flatten).length=32+8*l.length+aaP l:=by rw[List.length_append,adt,hheld]
 have hPD:(akV N l d).length=32+8*l.length+aaP l+4:=by unfold akV af3;rw[List.length_append,hDl,ab6]
 have hPB:(aaZ N l d).length=32+8*l.length+aaP l+8:=by unfold aaZ af3;rw[List.length_append,hPD,ab6]
 obtain⟨r3,e3⟩:∃r,aaZ N l d=akV N l d++r:=⟨_,rfl⟩;obtain⟨r2,e2⟩:∃r,aaZ N l d=ahP N l++d.flatten++r:=by
  rw[e3];unfold akV af3;rw[List.append_assoc];exact⟨_,rfl⟩
 obtain⟨r1,e1⟩:∃r,aaZ N l d=ahP N l++r:=by rw[e2,List.append_assoc];exact⟨_,rfl⟩
 obtain⟨r0,e0⟩:∃r,aaZ N l d=alf N l.length++(acA l++r):=by
  rw[e1];unfold ahP af3;rw[List.append_assoc,List.append_assoc];exact⟨_,rfl⟩
 obtain⟨rh,eh⟩:∃r,aaZ N l d=aex N l.length++r:=by
  rw[e0];unfold alf af3;rw[List.append_assoc];exact⟨_,rfl⟩
 have hbl:aaR ((aaZ N l d).drop 28) l.length 184=some l:=by
  rw[e0,<-af4 N l.length,List.drop_left];exact ahX hr
 have s0:abw (aaZ N l d) 0 24=true:=by rw[e0];exact afa (ae2 _ _) (by omega)
 have s1:abw (aaZ N l d) 28 (28+8*l.length)=true:=by
  rw[e1];exact afa (by rw[List.length_append,af4,adZ]) (by omega)
 have s2:abw (aaZ N l d) (32+8*l.length) (32+8*l.length+aaP l)=true:=by
  rw[e3];unfold akV;rw[adt];exact afa hDl (by omega)
 have s3:abw (aaZ N l d) 0 (32+8*l.length+aaP l+4)=true:=by
  have:=afa (X:=akV N l d) (r:= []) (i:=0) hPD (by omega);rw[List.append_nil]at this;exact this
 have hmk:(aaZ N l d).take 8=imMarkB:=by
  rw[eh];unfold aex;rw[List.append_assoc,List.append_assoc,List.take_append_of_le_length (by decide)];rfl
 have hN:acS (aaZ N l d)=N:=by
  unfold acS;rw[eh];unfold aex;rw[List.append_assoc,List.append_assoc,show(8:Nat)=imMarkB.length from rfl,List.drop_left];have:(aaJ imMarkB.length N).length=imMarkB.length:=aag _ _;rw[List.take_append_of_le_length (by rw[this];exact Nat.le_refl _),List.take_of_length_le (by rw[this];exact Nat.le_refl _),acm];exact Nat.mod_eq_of_lt (by show N<256^8;omega)
 have hC:acZ (aaZ N l d)=l.length:=by
  unfold acZ;rw[eh];unfold aex;have h16:(imMarkB++aaJ 8 N).length=16:=by rw[List.length_append,aag];rfl
  rw[List.append_assoc,<-h16,List.drop_left];have:(aaJ 8 l.length).length=8:=aag _ _;rw[List.take_append_of_le_length (by rw[this];exact Nat.le_refl _),List.take_of_length_le (by rw[this];exact Nat.le_refl _),acm];exact Nat.mod_eq_of_lt (by omega)
 refine⟨by omega,hmk,s0,hN,hlo,hC,hk,s1,hbl,hr,hPB,s2,s3,?_⟩;rw[e2,List.append_assoc,<-adt N l,List.drop_left,afB hdo hz]
end
def aav (ok:Bool) (k:Int):Value:=match ok with
 | true=> .nilIface
 | false=> .iface 130 (.int .i64 k)
def aaE (x:Option Bk) (w:World) (e:Ending) (w':World):Prop:=e= .returned (.tuple #[bkV x,aav x.isSome 3])/\Below w.heap.size w w'
def ac0 (x:Option (List Bk)) (w:World) (e:Ending) (w':World):Prop:=
 ∃A' c',e= .returned (.tuple #[.slice A' (x.getD []).length c',aav x.isSome 3])/\w'.ownsRow w.heap.size 112 3 (.slice A' (x.getD []).length c') (x.getD []).length (acW (x.getD []))/\Below w.heap.size w w'
def apD (k:Int) (t:TypeId) (g base cap:Nat) (A:Option Addr) (y:Option (List UInt8)) (w:World) (e:Ending) (w':World):Prop:=
 match y with
 | none=>e= .returned (aav false k)/\Below w.heap.size w w'
 | some out=>e= .returned (aav true k)/\Became t g base cap A out w w'
def awp:Prop:=∀(w:World) (g base cap c:Nat) (A:Option Addr) (bs:List UInt8) (o:Int) (x:Option Bk),Ar w 195 g base cap A c bs->base<=4611686018427387904->bs.length<=16384->(-9223372036854775808<=o/\o<=9223372036854775807)->aa8 bs o=x->
 Calls Tryz.prog 123 #[.pointer (some ⟨g,0,none⟩), .int .i64 o] w fun e w'=>aaE x w e w'
def auY:Prop:=∀(w:World) (g base cap c:Nat) (A:Option Addr) (bs:List UInt8) (o:Int) (x:Option Bk),Ar w 195 g base cap A c bs->base<=4611686018427387904->bs.length<=16384->(-9223372036854775808<=o/\o<=9223372036854775807)->abK bs o=x->
 Calls Tryz.prog 270 #[.pointer (some ⟨g,0,none⟩), .int .i64 o] w fun e w'=>aaE x w e w'
def awq:Prop:=∀(w:World) (g base cap c:Nat) (A:Option Addr) (bs:List UInt8) (o s:Int) (u:Bool) (y:Option (List UInt8)),Ar w 195 g base cap A c bs->base<=4611686018427387904->bs.length<=16384->(-9223372036854775808<=o/\o<=9223372036854775807)->(-9223372036854775808<=s/\s<=9223372036854775807)->aek bs o s u=y->
 Calls Tryz.prog 217 #[.pointer (some ⟨g,0,none⟩), .agg #[.int .i64 o, .int .i64 s, .bool u]] w fun e w'=>apD 1 195 g base cap A y w e w'
def avL:Prop:=∀(w:World) (g base cap c:Nat) (A:Option Addr) (bs:List UInt8) (x:Option (List Bk)),Ar w 195 g base cap A c bs->base<=4611686018427387904->bs.length<=16384->abI bs=x->
 Calls Tryz.prog 60 #[.pointer (some ⟨g,0,none⟩)] w fun e w'=>ac0 x w e w'
theorem aeL (bs:List UInt8) (x:Bk) (h1:184<=x.off) (h2:x.off%16=8) (h3:x.off+x.size<=bs.length) (h4:aaG (x.size:Int)=true):aek bs (x.off:Int) (x.size:Int) x.used=some (aaY bs x):=by
 have h5:=(aab _).1 h4;unfold aek aaY aot;rw[if_pos ⟨h4,(aa5 _ _ _).2 (by omega)⟩,aiP,aiP];have e:((x.off:Int)+(x.size:Int)-8).toNat=x.off+x.size-8:=by omega
 rw[e];simp
theorem BkRd.of_own{w:World}{base:Nat}{t:TypeId}{A:Option Addr}{c:Nat}{l:List Bk}(h:w.ownsRow base t 3 (.slice A l.length c) l.length (acW l)):BkRd w w.heap.size A l:=ao3 h rfl
def adr (base:Nat) (o:Int):Nat:=(((base:Int)+o)%18446744073709551616).toNat
theorem as1 (base:Nat) (o:Int):adr base o<18446744073709551616:=by unfold adr;omega
theorem aiV (base:Nat) (hb:base<=4611686018427387904) (o:Nat) (ho:(o:Int)<=9223372036854775807):adr base (o:Int)=base+o:=by unfold adr;omega
theorem apE (base:Nat) (hb:base<=4611686018427387904) (o:Int) (ho: -9223372036854775900<=o/\o<=9223372036854775807) (n k:Nat) (hn:n+k<=1000000) (hk:1<=k) (h:o<0\/(n:Int)<o+k):base<=adr base o->n<adr base o-base+k:=by unfold adr;omega
def wdV (o:Option Nat):Value:=match o with
 | some v=> .tuple #[.int .u64 (v:Int), .nilIface]
 | none=> .tuple #[.int .u64 0, .iface 130 (.int .i64 2)]
def plc (o:Int):Bool:=decide (184<=o)&&(o%16==8)
theorem agM (o:Int):plc o=true ↔ 184<=o/\o%16=8:=by simp[plc]
section
variable {w:World} {g base cap c:Nat} {A:Option Addr} {bs:List UInt8}
theorem abR (h:Ar w 195 g base cap A c bs) (hb:base<=4611686018427387904) (hl:bs.length<=16384) (o:Int) (ho: -9223372036854775900<=o/\o<=9223372036854775807) (x:Option Nat) (hx:word? bs o=x):
 Calls Tryz.prog 176 #[.pointer (some ⟨g,0,none⟩), .int .u64 (adr base o:Int)] w fun e w'=>e= .returned (wdV x)/\w=w':=by
 subst hx;by_cases h1:0<=o/\o+8<=bs.length
 · obtain⟨p,rfl⟩:∃p:Nat,o=(p:Int):=⟨o.toNat,by omega⟩;have e:word? bs (p:Int)=some (aaf bs p):=by unfold word?;rw[if_pos (by omega)];rfl
   rw[e,aiV base hb p (by omega)];exact atj h (by omega) (base+p) p (by omega) (by omega) (by omega) (by omega)
 · have e:word? bs o=none:=by unfold word?;rw[if_neg h1]
   rw[e];exact atk h (by omega) (adr base o) (as1 _ _) (apE base hb o ho bs.length 8 (by omega) (by omega) (by omega))
theorem aaA (h:Ar w 195 g base cap A c bs) (o:Int):
 Calls Tryz.prog 186 #[.pointer (some ⟨g,0,none⟩), .int .i64 o] w fun e w'=>e= .returned (.int .u64 (adr base o:Int))/\w=w':=by
 have HB:=hE0 (acj h);go_enter Tryz.func186,Tryz.ntmps186
 go_wp2_with fail
 refine HB.out.mono ?_;rintro e w1 ⟨rfl,rfl⟩;go_wp2
 go_ret
 exact⟨auN (by simp only[IntKind.wrap_u64];unfold adr;omega),rfl⟩
theorem abn (w:World) (o:Int) (ho: -9223372036854775808<=o/\o<=9223372036854775807) (b:Bool) (hb:plc o=b):
 Calls Tryz.prog 185 #[.int .i64 o] w fun e w'=>e= .returned (.bool b)/\w=w':=by
 by_cases h1:184<=o
 · have e:((o-184)%16==0)=b:=by
    rw[<-hb];unfold plc;rw[decide_eq_true h1,Bool.true_and,Bool.eq_iff_iff,beq_iff_eq,beq_iff_eq];omega
   have HE:=hE0 e;clear hb e;go_enter Tryz.func185,Tryz.ntmps185
   go_wp2
   go_ret
   exact⟨asW HE.out,rfl⟩
 · obtain rfl:false=b:=by rw[<-hb];simp[plc,h1]
   clear hb;go_enter Tryz.func185,Tryz.ntmps185
   go_wp2
   go_ret
   exact⟨rfl,rfl⟩
end
section
variable {w:World} {g base cap c:Nat} {A:Option Addr} {bs:List UInt8}
theorem avM (h:Ar w 195 g base cap A c bs) (o:Int) (ho: -9223372036854775808<=o/\o<=9223372036854775807) (hc:plc o=false):
 Calls Tryz.prog 123 #[.pointer (some ⟨g,0,none⟩), .int .i64 o] w fun e w'=>e= .returned (.tuple #[bkV none,aav false 3])/\Below w.heap.size w w':=by
 obtain⟨w1,hw1⟩:=nmE (w.alloc (.cells #[.int .i64 0, .int .i64 0, .bool false] 112));have hb1:=abE hw1;have hn1:=anE hw1;have h1:=h.below hb1;have HC:=hE0 (abn w1 o ho false hc);have HW1:=hE0 hw1;have HB1:=hE0 hb1;have HN1:=hE0 hn1;clear hc hw1 hb1 hn1 h1 h;go_enter Tryz.func123,Tryz.ntmps123
 go_wp2_with fail
 rw[HW1.out]
 with_reducible refine HC.out.mono ?_
 rintro e w2 ⟨rfl,rfl⟩;obtain⟨⟨c0,c1,c2⟩,f0,f1,f2⟩:=aad HN1.out;go_wp2
 (try simp only[Exit.inBlock,Exit.then])
 refine abP (x:=aav false 3) Tryz.results123 ?_ ?_ ?_ (aaK HN1.out _ _ _) ?_
 · rfl
 · rfl
 · rfl
 · exact⟨rfl,((HB1.out.setCell (Nat.le_refl _) _).setCell (Nat.le_refl _) _).setCell (Nat.le_refl _) _⟩
theorem avN (h:Ar w 195 g base cap A c bs) (hb:base<=4611686018427387904) (hl:bs.length<=16384) (o:Int) (ho: -9223372036854775808<=o/\o<=9223372036854775807) (hc:plc o=true) (hv:word? bs o=none):
 Calls Tryz.prog 123 #[.pointer (some ⟨g,0,none⟩), .int .i64 o] w fun e w'=>e= .returned (.tuple #[bkV none,aav false 3])/\Below w.heap.size w w':=by
 obtain⟨w1,hw1⟩:=nmE (w.alloc (.cells #[.int .i64 0, .int .i64 0, .bool false] 112));have hb1:=abE hw1;have hn1:=anE hw1;have h1:=h.below hb1;have HC:=hE0 (abn w1 o ho true hc);have HA:=hE0 (aaA h1 o);have hwd:=abR h1 hb hl o (by omega) _ hv;dsimp only[wdV]at hwd;have HW:=hE0 hwd;have HW1:=hE0 hw1;have HB1:=hE0 hb1;have HN1:=hE0 hn1;clear hc hv hwd hw1 hb1 hn1 h1 h;go_enter Tryz.func123,Tryz.ntmps123
 go_wp2_with fail
 rw[HW1.out]
 with_reducible refine HC.out.mono ?_
 rintro e w2 ⟨rfl,rfl⟩;go_wp2_with fail
 with_reducible refine HA.out.mono ?_
 rintro e w2 ⟨rfl,rfl⟩;go_wp2_with fail
 with_reducible refine HW.out.mono ?_
 rintro e w2 ⟨rfl,rfl⟩;obtain⟨⟨c0,c1,c2⟩,f0,f1,f2⟩:=aad HN1.out;go_wp2
 (try simp only[Exit.inBlock,Exit.then])
 refine abP (x:=aav false 3) Tryz.results123 ?_ ?_ ?_ (aaK HN1.out _ _ _) ?_
 · rfl
 · rfl
 · rfl
 · exact⟨rfl,((HB1.out.setCell (Nat.le_refl _) _).setCell (Nat.le_refl _) _).setCell (Nat.le_refl _) _⟩
theorem avO (h:Ar w 195 g base cap A c bs) (hb:base<=4611686018427387904) (hl:bs.length<=16384) (o:Int) (ho: -9223372036854775808<=o/\o<=9223372036854775807) (hc:plc o=true) (v:Nat) (hvl:v<18446744073709551616) (hv:word? bs o=some v) (hu:adM v=none):
 Calls Tryz.prog 123 #[.pointer (some ⟨g,0,none⟩), .int .i64 o] w fun e w'=>e= .returned (.tuple #[bkV none,aav false 3])/\Below w.heap.size w w':=by
 obtain⟨w1,hw1⟩:=nmE (w.alloc (.cells #[.int .i64 0, .int .i64 0, .bool false] 112));have hb1:=abE hw1;have hn1:=anE hw1;have h1:=h.below hb1;have HC:=hE0 (abn w1 o ho true hc);have HA:=hE0 (aaA h1 o);have hwd:=abR h1 hb hl o (by omega) _ hv;dsimp only[wdV]at hwd;have HW:=hE0 hwd;have hup:=abl w1 v hvl;rw[hu]at hup;dsimp only[aoO]at hup;have HU:=hE0 hup;have HW1:=hE0 hw1;have HB1:=hE0 hb1;have HN1:=hE0 hn1;clear hc hv hwd hu hup hw1 hb1 hn1 h1 h;go_enter Tryz.func123,Tryz.ntmps123
 go_wp2_with fail
 rw[HW1.out]
 with_reducible refine HC.out.mono ?_
 rintro e w2 ⟨rfl,rfl⟩;go_wp2_with fail
 with_reducible refine HA.out.mono ?_
 rintro e w2 ⟨rfl,rfl⟩;go_wp2_with fail
 with_reducible refine HW.out.mono ?_
 rintro e w2 ⟨rfl,rfl⟩;go_wp2_with fail
 with_reducible refine HU.out.mono ?_
 rintro e w2 ⟨rfl,rfl⟩;obtain⟨⟨c0,c1,c2⟩,f0,f1,f2⟩:=aad HN1.out;go_wp2
 (try simp only[Exit.inBlock,Exit.then])
 refine abP (x:=aav false 3) Tryz.results123 ?_ ?_ ?_ (aaK HN1.out _ _ _) ?_
 · rfl
 · rfl
 · rfl
 · exact⟨rfl,((HB1.out.setCell (Nat.le_refl _) _).setCell (Nat.le_refl _) _).setCell (Nat.le_refl _) _⟩
theorem agN{P:Prop}(h:P:=by
 go_enter Tryz.func123,Tryz.ntmps123
 go_wp2_with fail
 rw[HW1.out]
 with_reducible refine HC.out.mono ?_
 rintro e w2 ⟨rfl,rfl⟩;go_wp2_with fail
 with_reducible refine HA.out.mono ?_
 rintro e w2 ⟨rfl,rfl⟩;go_wp2_with fail
 with_reducible refine HW.out.mono ?_
 rintro e w2 ⟨rfl,rfl⟩;go_wp2_with fail
 with_reducible refine HU.out.mono ?_
 rintro e w2 ⟨rfl,rfl⟩;go_wp2_with fail
 with_reducible refine HA2.out.mono ?_
 rintro e w2 ⟨rfl,rfl⟩;go_wp2_with fail
 with_reducible refine HW2.out.mono ?_
 rintro e w2 ⟨rfl,rfl⟩;obtain⟨⟨c0,c1,c2⟩,f0,f1,f2⟩:=aad HN1.out;go_wp2
 (try simp only[Exit.inBlock,Exit.then])
 refine abP (x:=aav false 3) Tryz.results123 ?_ ?_ ?_ (aaK HN1.out _ _ _) ?_
 · rfl
 · rfl
 · rfl
 · exact⟨rfl,((HB1.out.setCell (Nat.le_refl _) _).setCell (Nat.le_refl _) _).setCell (Nat.le_refl _) _⟩
 ):P:=h
theorem avP (h:Ar w 195 g base cap A c bs) (hb:base<=4611686018427387904) (hl:bs.length<=16384) (o:Int) (ho: -9223372036854775808<=o/\o<=9223372036854775807) (hc:plc o=true) (v:Nat) (hvl:v<18446744073709551616) (hv:word? bs o=some v) (s:Nat) (u:Bool) (hu:adM v=some (s,u)) (hs:32<=s/\s<=16384) (hob:0<=o/\o<=16384) (hv2:word? bs (o+(s:Int)-8)=none):
 Calls Tryz.prog 123 #[.pointer (some ⟨g,0,none⟩), .int .i64 o] w fun e w'=>e= .returned (.tuple #[bkV none,aav false 3])/\Below w.heap.size w w':=by
 obtain⟨w1,hw1⟩:=nmE (w.alloc (.cells #[.int .i64 0, .int .i64 0, .bool false] 112));have hb1:=abE hw1;have hn1:=anE hw1;have h1:=h.below hb1;have HC:=hE0 (abn w1 o ho true hc);have HA:=hE0 (aaA h1 o);have hwd:=abR h1 hb hl o (by omega) _ hv;dsimp only[wdV]at hwd;have HW:=hE0 hwd;have hup:=abl w1 v hvl;rw[hu]at hup;dsimp only[aoO]at hup;have HU:=hE0 hup;have HA2:=hE0 (aaA h1 (o+(s:Int)-8));have hwd2:=abR h1 hb hl (o+(s:Int)-8) (by omega) _ hv2;dsimp only[wdV]at hwd2;have HW2:=hE0 hwd2;have HW1:=hE0 hw1;have HB1:=hE0 hb1;have HN1:=hE0 hn1;clear hc hv hwd hu hup hv2 hwd2 hw1 hb1 hn1 h1 h;exact agN
theorem avQ (h:Ar w 195 g base cap A c bs) (hb:base<=4611686018427387904) (hl:bs.length<=16384) (o:Int) (ho: -9223372036854775808<=o/\o<=9223372036854775807) (hc:plc o=true) (v:Nat) (hvl:v<18446744073709551616) (hv:word? bs o=some v) (s:Nat) (u:Bool) (hu:adM v=some (s,u)) (hs:32<=s/\s<=16384) (hob:0<=o/\o<=16384) (v2:Nat) (hv2:word? bs (o+(s:Int)-8)=some v2) (hne:v2≠v):
 Calls Tryz.prog 123 #[.pointer (some ⟨g,0,none⟩), .int .i64 o] w fun e w'=>e= .returned (.tuple #[bkV none,aav false 3])/\Below w.heap.size w w':=by
 obtain⟨w1,hw1⟩:=nmE (w.alloc (.cells #[.int .i64 0, .int .i64 0, .bool false] 112));have hb1:=abE hw1;have hn1:=anE hw1;have h1:=h.below hb1;have HC:=hE0 (abn w1 o ho true hc);have HA:=hE0 (aaA h1 o);have hwd:=abR h1 hb hl o (by omega) _ hv;dsimp only[wdV]at hwd;have HW:=hE0 hwd;have hup:=abl w1 v hvl;rw[hu]at hup;dsimp only[aoO]at hup;have HU:=hE0 hup;have HA2:=hE0 (aaA h1 (o+(s:Int)-8));have hwd2:=abR h1 hb hl (o+(s:Int)-8) (by omega) _ hv2;dsimp only[wdV]at hwd2;have HW2:=hE0 hwd2;have hq:((v2:Int) !=(v:Int))=true:=by rw[bne_iff_ne];omega
 have HW1:=hE0 hw1;have HB1:=hE0 hb1;have HN1:=hE0 hn1;clear hc hv hwd hu hup hv2 hwd2 hne hw1 hb1 hn1 h1 h;exact agN
theorem avR (h:Ar w 195 g base cap A c bs) (hb:base<=4611686018427387904) (hl:bs.length<=16384) (o:Nat) (ho: -9223372036854775808<=(o:Int)/\(o:Int)<=9223372036854775807) (hc:plc (o:Int)=true) (v:Nat) (hvl:v<18446744073709551616) (hv:word? bs (o:Int)=some v) (s:Nat) (u:Bool) (hu:adM v=some (s,u)) (hs:32<=s/\s<=16384) (hob:0<=(o:Int)/\(o:Int)<=16384) (hv2:word? bs ((o:Int)+(s:Int)-8)=some v):
 Calls Tryz.prog 123 #[.pointer (some ⟨g,0,none⟩), .int .i64 (o:Int)] w fun e w'=>e= .returned (.tuple #[bkV (some ⟨o,s,u⟩),aav true 3])/\Below w.heap.size w w':=by
 obtain⟨w1,hw1⟩:=nmE (w.alloc (.cells #[.int .i64 0, .int .i64 0, .bool false] 112));have hb1:=abE hw1;have hn1:=anE hw1;have h1:=h.below hb1;have HC:=hE0 (abn w1 (o:Int) ho true hc);have HA:=hE0 (aaA h1 (o:Int));have hwd:=abR h1 hb hl (o:Int) (by omega) _ hv;dsimp only[wdV]at hwd;have HW:=hE0 hwd;have hup:=abl w1 v hvl;rw[hu]at hup;dsimp only[aoO]at hup;have HU:=hE0 hup;have HA2:=hE0 (aaA h1 ((o:Int)+(s:Int)-8));have hwd2:=abR h1 hb hl ((o:Int)+(s:Int)-8) (by omega) _ hv2;dsimp only[wdV]at hwd2;have HW2:=hE0 hwd2;have HW1:=hE0 hw1;have HB1:=hE0 hb1;have HN1:=hE0 hn1;clear hc hv hwd hu hup hv2 hwd2 hw1 hb1 hn1 h1 h;go_enter Tryz.func123,Tryz.ntmps123
 go_wp2_with fail
 rw[HW1.out]
 with_reducible refine HC.out.mono ?_
 rintro e w2 ⟨rfl,rfl⟩;go_wp2_with fail
 with_reducible refine HA.out.mono ?_
 rintro e w2 ⟨rfl,rfl⟩;go_wp2_with fail
 with_reducible refine HW.out.mono ?_
 rintro e w2 ⟨rfl,rfl⟩;go_wp2_with fail
 with_reducible refine HU.out.mono ?_
 rintro e w2 ⟨rfl,rfl⟩;go_wp2_with fail
 with_reducible refine HA2.out.mono ?_
 rintro e w2 ⟨rfl,rfl⟩;go_wp2_with fail
 with_reducible refine HW2.out.mono ?_
 rintro e w2 ⟨rfl,rfl⟩;obtain⟨⟨c0,c1,c2⟩,f0,f1,f2⟩:=aad HN1.out;go_wp2
 (try simp only[Exit.inBlock,Exit.then])
 refine abP (x:=aav true 3) Tryz.results123 ?_ ?_ ?_ (aaK HN1.out _ _ _) ?_
 · rfl
 · rfl
 · rfl
 · exact⟨rfl,((HB1.out.setCell (Nat.le_refl _) _).setCell (Nat.le_refl _) _).setCell (Nat.le_refl _) _⟩
end
theorem alu:awp:=by
 intro w g base cap c A bs o x h hb hl ho hx;subst hx;unfold aaE
 cases hc:plc o with
 | false=>
  have e:aa8 bs o=none:=by
   unfold aa8;rw[if_pos];rw[Bool.eq_false_iff];intro h2;have:=(aa5 _ _ _).1 h2;rw[(agM o).2 (by omega)]at hc
   cases hc
  rw[e];exact avM h o ho hc
 | true=>
  have hp:=(agM o).1 hc;obtain⟨p,rfl⟩:∃p:Nat,o=(p:Int):=⟨o.toNat,by omega⟩;by_cases h8:p+8<=bs.length
  · have hcd:ak7 bs.length (p:Int) 8=true:=(aa5 _ _ _).2 (by omega);have hv:word? bs (p:Int)=some (aaf bs p):=by unfold word?;rw[if_pos (by omega)];rfl
    cases hu:adM (aaf bs p)with
    | none=>
     have e:aa8 bs (p:Int)=none:=by unfold aa8;rw[if_neg (by rw[hcd];simp),Int.toNat_natCast,hu]
     rw[e];exact avO h hb hl (p:Int) ho hc _ (aan _ _) hv hu
    | some su=>
     obtain⟨s,u⟩:=su;have hss:=(aab _).1 (ac4 hu).1
     cases hc2:ak7 bs.length (p:Int) (s:Int)with
     | false=>
      have e:aa8 bs (p:Int)=none:=by unfold aa8;rw[if_neg (by rw[hcd];simp),Int.toNat_natCast,hu];dsimp only;rw[if_pos hc2]
      rw[e];refine avP h hb hl (p:Int) ho hc _ (aan _ _) hv s u hu (by omega) (by omega) ?_;unfold word?;rw[if_neg];intro h2;rw[(aa5 _ _ _).2 (by omega)]at hc2
      cases hc2
     | true=>
      have hb2:=(aa5 _ _ _).1 hc2;have hv2:word? bs ((p:Int)+(s:Int)-8)=some (aaf bs (p+s-8)):=by
       unfold word?;rw[if_pos (by omega),show((p:Int)+(s:Int)-8).toNat=p+s-8 by omega]
      by_cases hw:aaf bs (p+s-8)=aaf bs p
      · have e:aa8 bs (p:Int)=some ⟨p,s,u⟩:=by unfold aa8;rw[if_neg (by rw[hcd];simp),Int.toNat_natCast,hu];dsimp only;rw[if_neg (by rw[hc2];simp),if_pos hw]
        rw[e];rw[hw]at hv2;exact avR h hb hl p ho hc _ (aan _ _) hv s u hu (by omega) (by omega) hv2
      · have e:aa8 bs (p:Int)=none:=by unfold aa8;rw[if_neg (by rw[hcd];simp),Int.toNat_natCast,hu];dsimp only;rw[if_neg (by rw[hc2];simp),if_neg hw]
        rw[e];exact avQ h hb hl (p:Int) ho hc _ (aan _ _) hv s u hu (by omega) (by omega) _ hv2 hw
  · have e:aa8 bs (p:Int)=none:=by
     unfold aa8;rw[if_pos];rw[Bool.eq_false_iff];intro h2;have:=(aa5 _ _ _).1 h2;omega
    rw[e];exact avN h hb hl (p:Int) ho hc (by unfold word?;rw[if_neg (by omega)])
end Go.Proofs.YtncadccbepjekaaGreatDoor
