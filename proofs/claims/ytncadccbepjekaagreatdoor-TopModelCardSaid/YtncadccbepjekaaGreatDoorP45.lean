/- Texts of mine, joined. -/
import Derived.Test.YtncadccbepjekaaGreatDoorP43
set_option maxRecDepth 100000
set_option maxHeartbeats 4000000
namespace Go.Proofs.YtncadccbepjekaaGreatDoor
open Go.RowKit
theorem ait (w:World):(Instr.buildSlice 23 0 #[]).run Tryz.prog w= .ok (.slice (some ⟨w.heap.size,0,none⟩) 0 0) (w.alloc (.cells #[] 3)):=by
 simp[go_sem]
theorem afk (w:World) (p:Int) (A:Option Addr) (n c:Nat):(Instr.buildSlice 110 1 #[(0, .agg #[.int .u64 p, .slice A n c])]).run Tryz.prog w= .ok (.slice (some ⟨w.heap.size,0,none⟩) 1 1) (w.alloc (.cells #[.int .u64 p, .slice A n c] 114)):=by
 obtain⟨i0,hi,hz0,hz1,hz2⟩:=info_parts adK;refine run_buildSlice w 110 114 1 _ _ i0 _ Tryz.underlying110 hi hz0 (by omega) (by omega) ?_;rw[hz1];have e:Array.range (1*2)= #[0,1]:=by decide
 rw[e];simp[Instr.fill,Value.cells]
theorem aq0 (b:List UInt8):∀u∈b.map iB,u.oneCell'=true:=fun u hu=>by
 obtain⟨x,_,rfl⟩:=List.mem_map.1 hu;rfl
section
variable {B:Nat} {w w':World} {A:Option Addr} {c n g:Nat} {b:List UInt8}
theorem FillI.own (h:w.ownsRow B 3 1 (.slice A n c) n (b.map iB)) (hn:0<n):∃gb,A=some ⟨gb,0,none⟩/\B<=gb/\FillI w gb b:=by
 rcases h.2 with⟨_,h0⟩ | ⟨gb,cap,cur,hv,hg,hh,hnc,hcm,hcs,hcur⟩
 · omega
 · injection hv with e1 _ e3;subst e1;have hbn:b.length=n:=by have:=h.1;simpa using this
   refine⟨gb,rfl,hg,cur,hh,fun j u hu=> ?_⟩;have hj:=aau hu;have h1:(cur.toList.take (n*1))[j]?=(b.map iB)[j]?:=by rw[hcur]
   rw[List.getElem?_take_of_lt (by omega),List.getElem?_map,hu]at h1;simpa using h1
theorem QRd.src (h:QRd w A b) (hn:0<b.length):Src w A b.length c (b.map iB):=by
 obtain⟨gb,cur,rfl,hg,hc⟩:=h hn;refine⟨fun e=>(by cases e),fun ad e j u hu=> ?_⟩;injection e with e;subst e;rw[apy,Nat.zero_add,cell_of_row w gb j _ _ (0,0) hg];rw[List.getElem?_map]at hu
 cases hb:b[j]? with
 | none=>rw[hb]at hu;cases hu
 | some x=>
  rw[hb]at hu;rw[hc j x hb];exact hu
theorem Src.one{x y:Value}(hg:w.heap[g]?=some (.cells #[x,y] 114 (0,0))):Src w (some ⟨g,0,none⟩) 1 1 [x,y]:=by
 refine⟨fun e=>(by cases e),fun ad e j u hu=> ?_⟩;injection e with e;subst e;rw[apy,Nat.zero_add,cell_of_row w g j _ _ (0,0) hg];simpa using hu
end
section
variable {B:Nat} {w:World} {A:Option Addr} {c:Nat} {l:List Hq}
theorem aq1 (h:Hs B w A c l) (hl:l.length<=1000) (qv:Value) (capv:Value) (xh cn cm ca:Nat) (xA:Option Addr) (bl xc:Nat) (rh rn:Nat) (rA:Option Addr) (rbl rc s0 s1 s2 s3 s4:Nat){i:Nat}{x:Hq}(hx:l[i]?=some x) (hu:(l.map Hq.p).Nodup) (hxh:x.p=xh) (xn:Nat) (hxn:x.b.length=xn) (hx16:xn<=16384) (hca:ca<18446744073709551616) (_hnn:cn<18446744073709551616) (hr:xn<ca+cn):
 Calls Tryz.prog 107 #[qv, .slice A l.length c, .agg #[.int .i64 (6), .int .u64 (xh:Int), .int .u64 (cn:Int), .int .u64 (cm:Int), .int .u64 (ca:Int), .slice xA bl xc], .agg #[.int .i64 (2), .int .u64 (rh:Int), .int .u64 (rn:Int), .slice rA rbl rc, .int .i64 (s0:Int), .int .i64 (s1:Int), .int .i64 (s2:Int), .int .i64 (s3:Int), .int .i64 (s4:Int)],capv] w fun e w'=>MdT B A (l.map Hq.two) w e w':=by
 have HX:=hE0 hx;have HXN:=hE0 hxn;obtain⟨w1,ha1,n1,b1⟩:=acv w 43 (.int .i64 (6)) (.int .u64 (xh:Int)) (.int .u64 (cn:Int)) (.int .u64 (cm:Int)) (.int .u64 (ca:Int)) (.slice xA bl xc);obtain⟨w2,ha2,n2,b2⟩:=abx w1 50 (.int .i64 (2)) (.int .u64 (rh:Int)) (.int .u64 (rn:Int)) (.slice rA rbl rc) (.int .i64 (s0:Int)) (.int .i64 (s1:Int)) (.int .i64 (s2:Int)) (.int .i64 (s3:Int)) (.int .i64 (s4:Int));have HB2:=hE0 (b1.out.trans (b2.out.mono b1.out.size));have m1:=hE0 ((b2.out.block _ (aaa n1.out)).trans n1.out);have HS2:=hE0 (h.below HB2.out);obtain⟨⟨c0,c1,c2,c3,c4,c5⟩,_,hlc⟩:=aa4 m1.out;obtain⟨⟨r0,r1,r2,r3,_⟩,_,hlr⟩:=aaS n2.out;have HF:=hE0 (by have:=afS HS2.out hl hx hu;rw[hxh]at this;exact this);obtain⟨n,hn⟩:=nmE l.length;have HN:=hE0 hn;rw[hn]at HF hl ⊢;clear h hn;go_enter Tryz.func107,Tryz.ntmps107
 go_wp2_with (first | (rw[ha1.out]) | (rw[ha2.out]) | fail)
 refine HF.out.mono ?_;rintro e w' ⟨rfl,rfl⟩;obtain⟨g,rfl,_,hg,_,d0,d1⟩:=HS2.out.at_ HX.out;rw[HXN.out]at d1;have hin:i<n:=by rw[<-HN.out];exact aau HX.out
 clear HF d0;by_cases ha:xn<ca
 · have g1:decide ((xn:Int)<(ca:Int))=true:=decide_eq_true (by omega);have g1n:decide (xn<ca)=true:=decide_eq_true ha;go_wp2_with fail
   go_ret2
   exact⟨_,c,l,by rw[HN.out];rfl,HS2.out,rfl,Tch.of_below HB2.out⟩
 · have g1:decide ((xn:Int)<(ca:Int))=false:=decide_eq_false (by omega);have g1n:decide (xn<ca)=false:=decide_eq_false ha;have g2:decide ((xn:Int)-(ca:Int)<(cn:Int))=true:=decide_eq_true (by omega);go_wp2_with fail
   go_ret2
   exact⟨_,c,l,by rw[HN.out];rfl,HS2.out,rfl,Tch.of_below HB2.out⟩
theorem aq2 (h:Hs B w A c l) (hl:l.length<=1000) (qv:Value) (capv:Value) (xh cn cm ca:Nat) (xA:Option Addr) (bl xc:Nat) (rh rn:Nat) (rA:Option Addr) (rbl rc s0 s1 s2 s3 s4:Nat){i:Nat}{x:Hq}(hx:l[i]?=some x) (hu:(l.map Hq.p).Nodup) (hxh:x.p=xh) (xn:Nat) (hxn:x.b.length=xn) (hx16:xn<=16384) (hca:ca<18446744073709551616) (hnn:bl<18446744073709551616) (hr:xn<ca+bl) (hbl:bl<=1000000):
 Calls Tryz.prog 107 #[qv, .slice A l.length c, .agg #[.int .i64 (7), .int .u64 (xh:Int), .int .u64 (cn:Int), .int .u64 (cm:Int), .int .u64 (ca:Int), .slice xA bl xc], .agg #[.int .i64 (2), .int .u64 (rh:Int), .int .u64 (rn:Int), .slice rA rbl rc, .int .i64 (s0:Int), .int .i64 (s1:Int), .int .i64 (s2:Int), .int .i64 (s3:Int), .int .i64 (s4:Int)],capv] w fun e w'=>MdT B A (l.map Hq.two) w e w':=by
 have HX:=hE0 hx;have HXN:=hE0 hxn;obtain⟨w1,ha1,n1,b1⟩:=acv w 43 (.int .i64 (7)) (.int .u64 (xh:Int)) (.int .u64 (cn:Int)) (.int .u64 (cm:Int)) (.int .u64 (ca:Int)) (.slice xA bl xc);obtain⟨w2,ha2,n2,b2⟩:=abx w1 50 (.int .i64 (2)) (.int .u64 (rh:Int)) (.int .u64 (rn:Int)) (.slice rA rbl rc) (.int .i64 (s0:Int)) (.int .i64 (s1:Int)) (.int .i64 (s2:Int)) (.int .i64 (s3:Int)) (.int .i64 (s4:Int));have HB2:=hE0 (b1.out.trans (b2.out.mono b1.out.size));have m1:=hE0 ((b2.out.block _ (aaa n1.out)).trans n1.out);have HS2:=hE0 (h.below HB2.out);obtain⟨⟨c0,c1,c2,c3,c4,c5⟩,_,hlc⟩:=aa4 m1.out;obtain⟨⟨r0,r1,r2,r3,_⟩,_,hlr⟩:=aaS n2.out;have HF:=hE0 (by have:=afS HS2.out hl hx hu;rw[hxh]at this;exact this);obtain⟨n,hn⟩:=nmE l.length;have HN:=hE0 hn;rw[hn]at HF hl ⊢;clear h hn;go_enter Tryz.func107,Tryz.ntmps107
 go_wp2_with (first | (rw[ha1.out]) | (rw[ha2.out]) | fail)
 refine HF.out.mono ?_;rintro e w' ⟨rfl,rfl⟩;obtain⟨g,rfl,_,hg,_,d0,d1⟩:=HS2.out.at_ HX.out;rw[HXN.out]at d1;have hin:i<n:=by rw[<-HN.out];exact aau HX.out
 clear HF d0;by_cases ha:xn<ca
 · have g1:decide ((xn:Int)<(ca:Int))=true:=decide_eq_true (by omega);have g1n:decide (xn<ca)=true:=decide_eq_true ha;go_wp2_with fail
   go_ret2
   exact⟨_,c,l,by rw[HN.out];rfl,HS2.out,rfl,Tch.of_below HB2.out⟩
 · have g1:decide ((xn:Int)<(ca:Int))=false:=decide_eq_false (by omega);have g1n:decide (xn<ca)=false:=decide_eq_false ha;have g2:decide ((xn:Int)-(ca:Int)<(bl:Int))=true:=decide_eq_true (by omega);go_wp2_with fail
   go_ret2
   exact⟨_,c,l,by rw[HN.out];rfl,HS2.out,rfl,Tch.of_below HB2.out⟩
theorem aiu{P:Prop}(h:P:=by
 refine aaD wd.heap.size (.two [0,1,2,3,4,6,7,8,9,10] 5 (.two [] 11 (.one [12] 13 (.fin [])) 13 (.one [] 11 (.fin [12]))) 13 (.one [] 5 (.one [] 11 (.fin [12])))) [14] (by kernel_rfl) (by kernel_rfl) (by kernel_rfl) (fun _ _ _ _ _ h=>h) ?_;rw[HWD.out];have q0:∀z:LaterB wd.heap.size wd,z.val.cell? ⟨g,i*2,none⟩=some (.int .u64 (xh:Int)):=fun z=>(z.ext.cell (p:=⟨g,i*2,none⟩) hgd).trans HD0.out;have q1:∀z:LaterB wd.heap.size wd,z.val.cell? ⟨g,i*2+1,none⟩=some (.slice x.A xn x.c):=fun z=>(z.ext.cell (p:=⟨g,i*2+1,none⟩) hgd).trans HD1.out;refine abL (l:= ?seg1) ?hseg1 ?_
 case hseg1=>simp only[pick,lE1,lE2,lE3];rfl
 repeat (go_big_quiet_step (fail))
 refine wpQuiet_nil ?_;clear q0 q1 c0 c1 c2 c3 c4 c5 r0 r1 r2 r3;refine⟨?wayE,?wayA⟩
 case wayE=>
  have bz0:Below wd.heap.size wd wd:=Below.refl _ _;obtain⟨z1,hz1⟩:∃z,wd.alloc (.cells #[] 3)=z:=⟨_,rfl⟩;have by1:=abE hz1;have bz1:Below wd.heap.size wd z1:=bz0.trans (by1.mono bz0.size);have oe:z1.ownsRow wd.heap.size 3 1 (.slice (some ⟨wd.heap.size,0,none⟩) 0 0) 0 []:=by rw[<-hz1];exact World.ownsRow_lit wd _ 0 bz0.size (by unfold maxLen;omega) rfl
  refine aas (some 307) (w1:=z1) (v:= .slice (some ⟨wd.heap.size,0,none⟩) 0 0) rfl rfl rfl (by rw[<-hz1];exact aaQ rfl rfl (ait wd)) (by1.mono bz0.size) ⟨wd.heap.size,Nat.le_refl _,?_⟩;simp only[Act.put,lE4,lE5,lE6];refine abL (l:= []) rfl (wpQuiet_nil ?_);refine⟨?wayEP,?wayEA⟩
  case wayEP=>
   have sr:=(QRd.src (c:=x.c) (HQD.out z1 bz1) (by rw[HXN.out];exact hx0));rw[HXN.out]at sr;refine ab4 (some 313) (.tmp 307) (.tmp 312) 23 3 rfl rfl rfl rfl Tryz.underlying23 (.int .i64 0) 1 8 agj rfl (by decide) wd.heap.size (.slice (some ⟨wd.heap.size,0,none⟩) 0 0) 0 [] rfl oe (Nat.le_refl _) bz1.size x.A xn x.c _ rfl (by rw[List.length_map,HXN.out,Nat.mul_one]) sr (aq0 x.b) (by omega) (by omega) ?_;intro y1 z2 oy bq2 gq2;have bz2:Below wd.heap.size wd z2:=bz1.trans bq2;rw[Nat.zero_add,List.nil_append]at oy;obtain⟨uA,uc,rfl⟩:=adZ oy;obtain⟨gb,rfl,hgb,fb⟩:=FillI.own oy hx0;refine⟨wd.heap.size,Nat.le_refl _,?_⟩;simp only[Act.put,lE4,lE5,lE6];refine aax (l:= ?segepa) ?hsegepa ?_
   case hsegepa=>simp only[pick,lE1,lE2,lE3];rfl
   repeat (go_big_quiet_step (fail))
   refine wpQuiet_nil ?_;obtain⟨z3,hz3⟩:∃z,z2.alloc (.cells #[.int .u64 0, .slice none 0 0] 114)=z:=⟨_,rfl⟩;have by3:=abE hz3;have bz3:Below wd.heap.size wd z3:=bz2.trans (by3.mono bz2.size);have na:=anE hz3;have la:wd.heap.size<=z2.heap.size:=bz2.size;refine aas (some 27) (w1:=z3) (v:= .pointer (some ⟨z2.heap.size,0,none⟩)) rfl rfl rfl (by rw[<-hz3];exact adG _ _ rfl z2) (by3.mono bz2.size) ⟨wd.heap.size,Nat.le_refl _,?_⟩;have fb:=fb.below by3;simp only[Act.put,lE4,lE5,lE6];refine aaW (l:= []) (t:= ?tlepa) rfl ?htlepa (wpQuiet_nil ?_)
   case htlepa=>simp only[pick,lE1,lE2,lE3];rfl
   have NA:=hE0 na;have hne:=(fb.ne na).symm;obtain⟨z9,hz9,n9,b9,⟨x0,x1⟩,⟨e0,e1⟩,hlz⟩:=auJ NA (.int .u64 (xh:Int)) (.slice (some ⟨gb,0,none⟩) xn uc);have F9:Hid (FillI z9 gb x.b):=hE0 (fb.keep (by rw[<-hz9.out,Below.heap_setCell _ _ _ _ hne,Below.heap_setCell _ _ _ _ hne]));have B9:=hE0 (b9.out wd.heap.size wd la bz3);have HGB:=hE0 hgb;have HLA:=hE0 la;clear na hne fb oy la hgb sr oe hz1 by1 bz1 bq2 gq2 bz2 hz3 by3 bz3 bz0;go_wp2_with (first | (rw[hz9.out]) | fail)
   go_meet
   case rel=>exact⟨z2.heap.size,gb,uc,rfl,n9.out,F9.out,by rw[HSD.out];exact HLA.out,by rw[HSD.out];exact HGB.out,HBD.out.trans (by rw[HSD.out];exact B9.out)⟩
  case wayEA=>
   obtain⟨z2,hz2⟩:∃z,z1.alloc (.cells #[.int .u64 0, .slice none 0 0] 114)=z:=⟨_,rfl⟩;have by2:=abE hz2;have bz2:Below wd.heap.size wd z2:=bz1.trans (by2.mono bz1.size);have na:=anE hz2;have la:wd.heap.size<=z1.heap.size:=bz1.size;refine aas (some 27) (w1:=z2) (v:= .pointer (some ⟨z1.heap.size,0,none⟩)) rfl rfl rfl (by rw[<-hz2];exact adG _ _ rfl z1) (by2.mono bz1.size) ⟨wd.heap.size,Nat.le_refl _,?_⟩;have oe:=aaw oe by2;simp only[Act.put,lE4,lE5,lE6];refine aax (l:= []) rfl (wpQuiet_nil ?_);have sr:=(QRd.src (c:=x.c) (HQD.out z2 bz2) (by rw[HXN.out];exact hx0));rw[HXN.out]at sr;refine ab4 (some 313) (.tmp 307) (.tmp 312) 23 3 rfl rfl rfl rfl Tryz.underlying23 (.int .i64 0) 1 8 agj rfl (by decide) wd.heap.size (.slice (some ⟨wd.heap.size,0,none⟩) 0 0) 0 [] rfl oe (Nat.le_refl _) bz2.size x.A xn x.c _ rfl (by rw[List.length_map,HXN.out,Nat.mul_one]) sr (aq0 x.b) (by omega) (by omega) ?_;intro y1 z3 oy bq3 gq3;have bz3:Below wd.heap.size wd z3:=bz2.trans bq3;rw[Nat.zero_add,List.nil_append]at oy;obtain⟨uA,uc,rfl⟩:=adZ oy;obtain⟨gb,rfl,hgb,fb⟩:=FillI.own oy hx0;refine⟨wd.heap.size,Nat.le_refl _,?_⟩;have na:z3.heap[z1.heap.size]?=some (.cells #[.int .u64 0, .slice none 0 0] 114 (0,0)):=(gq3.block _ (aaa na) (fun e=>acB oe e.symm na (by decide))).trans na;simp only[Act.put,lE4,lE5,lE6];refine aaW (l:= ?laeap) (t:= ?tleap) ?hlaeap ?htleap ?_
   case hlaeap=>simp only[pick,lE1,lE2,lE3];rfl
   case htleap=>simp only[pick,lE1,lE2,lE3];rfl
   repeat (go_big_quiet_step (fail))
   refine wpQuiet_nil ?_;have NA:=hE0 na;have hne:=(fb.ne na).symm;obtain⟨z9,hz9,n9,b9,⟨x0,x1⟩,⟨e0,e1⟩,hlz⟩:=auJ NA (.int .u64 (xh:Int)) (.slice (some ⟨gb,0,none⟩) xn uc);have F9:Hid (FillI z9 gb x.b):=hE0 (fb.keep (by rw[<-hz9.out,Below.heap_setCell _ _ _ _ hne,Below.heap_setCell _ _ _ _ hne]));have B9:=hE0 (b9.out wd.heap.size wd la bz3);have HGB:=hE0 hgb;have HLA:=hE0 la;clear na hne fb oy la hgb sr oe hz1 by1 bz1 hz2 by2 bz2 bq3 gq3 bz3 bz0;go_wp2_with (first | (rw[hz9.out]) | fail)
   go_meet
   case rel=>exact⟨z1.heap.size,gb,uc,rfl,n9.out,F9.out,by rw[HSD.out];exact HLA.out,by rw[HSD.out];exact HGB.out,HBD.out.trans (by rw[HSD.out];exact B9.out)⟩
 case wayA=>
  have bz0:Below wd.heap.size wd wd:=Below.refl _ _;obtain⟨z1,hz1⟩:∃z,wd.alloc (.cells #[.int .u64 0, .slice none 0 0] 114)=z:=⟨_,rfl⟩;have by1:=abE hz1;have bz1:Below wd.heap.size wd z1:=bz0.trans (by1.mono bz0.size);have na:=anE hz1;have la:wd.heap.size<=wd.heap.size:=bz0.size;refine aas (some 27) (w1:=z1) (v:= .pointer (some ⟨wd.heap.size,0,none⟩)) rfl rfl rfl (by rw[<-hz1];exact adG _ _ rfl wd) (by1.mono bz0.size) ⟨wd.heap.size,Nat.le_refl _,?_⟩;simp only[Act.put,lE4,lE5,lE6];refine aax (l:= []) rfl (wpQuiet_nil ?_);obtain⟨z2,hz2⟩:∃z,z1.alloc (.cells #[] 3)=z:=⟨_,rfl⟩;have by2:=abE hz2;have bz2:Below wd.heap.size wd z2:=bz1.trans (by2.mono bz1.size);have oe:z2.ownsRow wd.heap.size 3 1 (.slice (some ⟨z1.heap.size,0,none⟩) 0 0) 0 []:=by rw[<-hz2];exact World.ownsRow_lit z1 _ 0 bz1.size (by unfold maxLen;omega) rfl
  refine aas (some 307) (w1:=z2) (v:= .slice (some ⟨z1.heap.size,0,none⟩) 0 0) rfl rfl rfl (by rw[<-hz2];exact aaQ rfl rfl (ait z1)) (by2.mono bz1.size) ⟨wd.heap.size,Nat.le_refl _,?_⟩;have na:=(by2.block _ (aaa na)).trans na;simp only[Act.put,lE4,lE5,lE6];refine aax (l:= []) rfl (wpQuiet_nil ?_);have sr:=(QRd.src (c:=x.c) (HQD.out z2 bz2) (by rw[HXN.out];exact hx0));rw[HXN.out]at sr;refine ab4 (some 313) (.tmp 307) (.tmp 312) 23 3 rfl rfl rfl rfl Tryz.underlying23 (.int .i64 0) 1 8 agj rfl (by decide) wd.heap.size (.slice (some ⟨z1.heap.size,0,none⟩) 0 0) 0 [] rfl oe (Nat.le_refl _) bz2.size x.A xn x.c _ rfl (by rw[List.length_map,HXN.out,Nat.mul_one]) sr (aq0 x.b) (by omega) (by omega) ?_;intro y1 z3 oy bq3 gq3;have bz3:Below wd.heap.size wd z3:=bz2.trans bq3;rw[Nat.zero_add,List.nil_append]at oy;obtain⟨uA,uc,rfl⟩:=adZ oy;obtain⟨gb,rfl,hgb,fb⟩:=FillI.own oy hx0;refine⟨wd.heap.size,Nat.le_refl _,?_⟩;have na:z3.heap[wd.heap.size]?=some (.cells #[.int .u64 0, .slice none 0 0] 114 (0,0)):=(gq3.block _ (aaa na) (fun e=>acB oe e.symm na (by decide))).trans na;simp only[Act.put,lE4,lE5,lE6];refine aaW (l:= ?laaep) (t:= ?tlaep) ?hlaaep ?htlaep ?_
  case hlaaep=>simp only[pick,lE1,lE2,lE3];rfl
  case htlaep=>simp only[pick,lE1,lE2,lE3];rfl
  repeat (go_big_quiet_step (fail))
  refine wpQuiet_nil ?_;have NA:=hE0 na;have hne:=(fb.ne na).symm;obtain⟨z9,hz9,n9,b9,⟨x0,x1⟩,⟨e0,e1⟩,hlz⟩:=auJ NA (.int .u64 (xh:Int)) (.slice (some ⟨gb,0,none⟩) xn uc);have F9:Hid (FillI z9 gb x.b):=hE0 (fb.keep (by rw[<-hz9.out,Below.heap_setCell _ _ _ _ hne,Below.heap_setCell _ _ _ _ hne]));have B9:=hE0 (b9.out wd.heap.size wd la bz3);have HGB:=hE0 hgb;have HLA:=hE0 la;clear na hne fb oy la hgb sr oe hz1 by1 bz1 hz2 by2 bz2 bq3 gq3 bz3 bz0;go_wp2_with (first | (rw[hz9.out]) | fail)
  go_meet
  case rel=>exact⟨wd.heap.size,gb,uc,rfl,n9.out,F9.out,by rw[HSD.out];exact HLA.out,by rw[HSD.out];exact HGB.out,HBD.out.trans (by rw[HSD.out];exact B9.out)⟩):P:=h
theorem auy (h:Hs B w A c l) (hl:l.length<=1000) (qv:Value) (capv:Value) (xh cn cm ca:Nat) (xA:Option Addr) (bl xc:Nat) (rh rn:Nat) (rA:Option Addr) (_rbl rc s0 s1 s2 s3 s4:Nat){i:Nat}{x:Hq}(hx:l[i]?=some x) (hu:(l.map Hq.p).Nodup) (hxh:x.p=xh) (xn:Nat) (hxn:x.b.length=xn) (hx0:0<xn) (hx16:xn<=16384) (hca:ca+cn<=xn) (hBw:B<=w.heap.size) (rb:List UInt8) (hrb:rb=(x.b.drop ca).take cn) (hrd:Rd w w.heap.size rA cn rb):
 Calls Tryz.prog 107 #[qv, .slice A l.length c, .agg #[.int .i64 (6), .int .u64 (xh:Int), .int .u64 (cn:Int), .int .u64 (cm:Int), .int .u64 (ca:Int), .slice xA bl xc], .agg #[.int .i64 (0), .int .u64 (rh:Int), .int .u64 (rn:Int), .slice rA cn rc, .int .i64 (s0:Int), .int .i64 (s1:Int), .int .i64 (s2:Int), .int .i64 (s3:Int), .int .i64 (s4:Int)],capv] w fun e w'=>MdT B A ((l.take i++l.drop (i+1)).map Hq.two++ [(xh,x.b)]) w e w':=by
 have HX:=hE0 hx;have HXN:=hE0 hxn;have HBW:Hid (B<=w.heap.size):=hBw;have HXH:=hE0 hxh;have HRB:Hid (∀(k:Nat) (u:UInt8),rb[k]?=some u->x.b[ca+k]?=some u):=fun k u hk=>by
  rw[hrb,List.getElem?_take]at hk;split at hk
  · rw[List.getElem?_drop]at hk;exact hk
  · cases hk
 have HRD:=hE0 hrd;clear hrb hrd;obtain⟨w1,ha1,n1,b1⟩:=acv w 43 (.int .i64 (6)) (.int .u64 (xh:Int)) (.int .u64 (cn:Int)) (.int .u64 (cm:Int)) (.int .u64 (ca:Int)) (.slice xA bl xc);obtain⟨w2,ha2,n2,b2⟩:=abx w1 50 (.int .i64 (0)) (.int .u64 (rh:Int)) (.int .u64 (rn:Int)) (.slice rA cn rc) (.int .i64 (s0:Int)) (.int .i64 (s1:Int)) (.int .i64 (s2:Int)) (.int .i64 (s3:Int)) (.int .i64 (s4:Int));have HB2:=hE0 (b1.out.trans (b2.out.mono b1.out.size));have m1:=hE0 ((b2.out.block _ (aaa n1.out)).trans n1.out);have HS2:=hE0 (h.below HB2.out);obtain⟨⟨c0,c1,c2,c3,c4,c5⟩,_,hlc⟩:=aa4 m1.out;obtain⟨⟨r0,r1,r2,r3,_⟩,_,hlr⟩:=aaS n2.out;have HF:=hE0 (by have:=afS HS2.out hl hx hu;rw[hxh]at this;exact this);obtain⟨n,hn⟩:=nmE l.length;have HN:=hE0 hn;rw[hn]at HF hl ⊢;clear h hn;go_enter Tryz.func107,Tryz.ntmps107
 go_wp2_with (first | (rw[ha1.out]) | (rw[ha2.out]) | fail)
 refine HF.out.mono ?_;rintro e w' ⟨rfl,rfl⟩;obtain⟨g,rfl,_,hg,_,d0,d1⟩:=HS2.out.at_ HX.out;rw[HXN.out]at d1;rw[HXH.out]at d0;have hin:i<n:=by rw[<-HN.out];exact aau HX.out
 clear HF;obtain⟨wd,hwd⟩:=nmE w2.drew;have HWD:=hE0 hwd;have HSD:Hid (w2.heap.size=wd.heap.size):=by rw[<-hwd];rfl
 have HBD:Hid (Below w2.heap.size w2 wd):=by rw[<-hwd];exact(Below.refl _ _).drew
 have HQD:Hid (∀W,Below wd.heap.size wd W->QRd W x.A x.b):=fun W hW=>(HS2.out.row x (List.mem_of_getElem? HX.out)).below (HBD.out.trans (by rw[HSD.out];exact hW));have HD0:=hE0 ((HBD.out.cell (p:=⟨g,i*2,none⟩) hg).trans d0);have HD1:=hE0 ((HBD.out.cell (p:=⟨g,i*2+1,none⟩) hg).trans d1);have hgd:g<wd.heap.size:=Nat.lt_of_lt_of_le hg HBD.out.size;have g1:decide ((xn:Int)<(ca:Int))=false:=decide_eq_false (by omega);have g1n:decide (xn<ca)=false:=decide_eq_false (by omega);have g2:decide ((xn:Int)-(ca:Int)<(cn:Int))=false:=decide_eq_false (by omega);clear hwd;go_upto_region 62 with(fail)
 clear g1 g1n g2 d0 d1;go_cut [27] from 302 (fun v wx=>∃gx gb uc,v= .pointer (some ⟨gx,0,none⟩)/\wx.heap[gx]?=some (.cells #[.int .u64 (xh:Int), .slice (some ⟨gb,0,none⟩) xn uc] 114 (0,0))/\FillI wx gb x.b/\w2.heap.size<=gx/\w2.heap.size<=gb/\Below w2.heap.size w2 wx)
 case first=>
  exact aiu
 case rest=>
 obtain⟨gx,gb,uc,rfl,nx,fb,lx,lb,hbx⟩:=hcut;have NX:=hE0 nx;have FB:=hE0 fb;have HBX:=hE0 hbx;have HWO:=hE0 (fun W (hW:Below w2.heap.size w2 W)=>adF (HS2.out.below hW) i (by rw[HN.out];exact hin) (by rw[HN.out];exact hl));rw[HN.out]at HWO;obtain⟨L,hL⟩:=nmE (l.take i++l.drop (i+1));have HLQ:=hE0 hL;rw[hL]at HWO;have hLl:L.length+1=n:=by rw[<-hL,<-HN.out,List.length_append,List.length_take,List.length_drop];have:=HN.out;omega
 clear nx fb hbx hL c0 c1 c2 c3 c4 c5 r0 r1 r2 r3 hlc hlr;go_wp2_with fail
 go_loopw [28] (fun i wr=>∃j:Nat,i= .int .i64 (j:Int)/\j<=cn/\FillI wr gb x.b/\wr.heap[gx]?=some (.cells #[.int .u64 (xh:Int), .slice (some ⟨gb,0,none⟩) xn uc] 114 (0,0))/\Below w2.heap.size w2 wr) (fun i _=>cn-(intOf i).toNat)
 case atStart=>exact⟨0,rfl,Nat.zero_le _,FB.out,NX.out,HBX.out⟩
 case round=>
  clear NX FB HBX;obtain⟨j,rfl,hj,fb,nx,hbx⟩:=hrel;have NX:=hE0 nx;have FB:=hE0 fb;have HBX:=hE0 hbx;obtain⟨⟨x0,x1⟩,_,hlx⟩:=agM nx;clear nx fb hbx;by_cases hlt:j<cn
  · obtain⟨⟨c0,c1,c2,c3,c4,c5⟩,_,hlc⟩:=aa4 ((HBX.out.block _ (aaa m1.out)).trans m1.out);obtain⟨⟨r0,r1,r2,r3,_⟩,_,hlr⟩:=aaS ((HBX.out.block _ (aaa n2.out)).trans n2.out);obtain⟨bb,oo,rfl,hbb,hrl,hcu⟩:=(HRD.out.below (HB2.out.trans (HBX.out.mono HB2.out.size))).at_ hlt;obtain⟨u,hu0⟩:=nmE (rb[j]);have hu:rb[j]?=some u:=by rw[<-hu0];exact List.getElem?_eq_getElem hrl
    rw[hu0]at hcu;clear hu0 hrl;obtain⟨q,hq⟩:=nmE (ca+j);have hqi:(ca:Int)+(j:Int)=(q:Int):=by omega
    have hqx:q<xn:=by omega
    have hxq:x.b[q]?=some u:=by rw[<-hq];exact HRB.out j u hu
    obtain⟨d0,_⟩:=FB.out.at_ hxq;unfold iB at d0;obtain⟨v,hv⟩:=nmE u.toNat;rw[hv]at d0 hcu;have hv8:v<256:=by rw[<-hv];exact u.toNat_lt
    clear hq hxq hu hv;go_wp2_with fail
    go_quiet (fail)
    go_wp2_with fail
    go_roundw
    case rel=>exact⟨j+1,by go_num,by omega,FB.out.below (abN _ _),((abN _ _).block _ (aaa NX.out)).trans NX.out,HBX.out.trans ((abN _ _).mono HBX.out.size)⟩
    case measure=>simp only[intOf];omega
  · have hin2:=hin;obtain⟨ve,hve⟩:=nmE wr.drew;have HVE:=hE0 hve;have HBE:Hid (Below wr.heap.size wr ve):=by rw[<-hve];exact(Below.refl _ _).drew
    have HB2E:=hE0 (HBX.out.trans (HBE.out.mono HBX.out.size));have hxe:gx<ve.heap.size:=Nat.lt_of_lt_of_le hlx HBE.out.size;have HX0:=hE0 ((HBE.out.cell (p:=⟨gx,0,none⟩) hlx).trans x0);have HX1:=hE0 ((HBE.out.cell (p:=⟨gx,1,none⟩) hlx).trans x1);have FE:=hE0 (FB.out.below HBE.out);clear hve x0 x1;go_wp2_with fail
    refine aaD ve.heap.size (.two [0,1,3] 2 (.one [] 4 (.one [] 5 (.fin [6,7]))) 4 (.one [] 2 (.one [] 5 (.fin [6,7])))) [] (by kernel_rfl) (by kernel_rfl) (by kernel_rfl) (fun _ _ _ _ _ h=>h) ?_;rw[HVE.out];have q0:∀z:LaterB ve.heap.size ve,z.val.cell? ⟨gx,0,none⟩=some (.int .u64 (xh:Int)):=fun z=>(z.ext.cell (p:=⟨gx,0,none⟩) hxe).trans HX0.out;have q1:∀z:LaterB ve.heap.size ve,z.val.cell? ⟨gx,1,none⟩=some (.slice (some ⟨gb,0,none⟩) xn uc):=fun z=>(z.ext.cell (p:=⟨gx,1,none⟩) hxe).trans HX1.out;refine abL (l:= ?seg7) ?hseg7 ?_
    case hseg7=>simp only[pick,lE1,lE2,lE3];rfl
    repeat (go_big_quiet_step (fail))
    refine wpQuiet_nil ?_;clear q0 q1;refine⟨?wayC,?wayS⟩
    case wayC=>
     refine aar (vs:= #[.slice (some ⟨g,0,none⟩) n c, .int .i64 (i:Int)]) Tryz.call172 rfl rfl rfl (R:=fun r w'=>∃A' c',r= .slice A' L.length c'/\Hs ve.heap.size w' A' c' L/\Below ve.heap.size ve w') ((HWO.out ve HB2E.out).mono ?_) ve.heap.size (Nat.le_refl _) ?_
     · rintro e w' ⟨A',c',rfl,h1,h2⟩;exact⟨_,rfl,h2,A',c',rfl,h1,h2⟩
     rintro r v7 _ ⟨A7,c7,rfl,HLs,b7⟩;simp only[Act.put,lE4,lE5,lE6];refine aax (l:= []) rfl (wpQuiet_nil ?_);obtain⟨v8,h8⟩:=nmE (v7.alloc (.cells #[.int .u64 (xh:Int), .slice (some ⟨gb,0,none⟩) xn uc] 114));have b8:=abE h8;have n8:=anE h8;refine aas (some 364) (w1:=v8) (v:= .slice (some ⟨v7.heap.size,0,none⟩) 1 1) rfl rfl rfl (by rw[<-h8];exact aaQ rfl rfl (afk v7 _ _ _ _)) (b8.mono b7.size) ⟨ve.heap.size,Nat.le_refl _,?_⟩;simp only[Act.put,lE4,lE5,lE6];refine aax (l:= []) rfl (wpQuiet_nil ?_);refine ab4 (some 365) (.tmp 362) (.tmp 364) 110 114 rfl rfl rfl rfl Tryz.underlying110 (.agg #[.int .u64 0, .slice none 0 0]) 2 32 adK rfl (by decide) ve.heap.size (.slice A7 L.length c7) L.length (abc L) rfl (aaw HLs.own b8) (Nat.le_refl _) (Nat.le_trans b7.size b8.size) (some ⟨v7.heap.size,0,none⟩) 1 1 [.int .u64 (xh:Int), .slice (some ⟨gb,0,none⟩) xn uc] rfl rfl (Src.one n8) (fun u hu=>by simp at hu;rcases hu with rfl | rfl<;>rfl) (by omega) (by omega) ?_;intro y9 v9 oy bq gq;refine⟨ve.heap.size,Nat.le_refl _,?_⟩;simp only[Act.put,lE4,lE5,lE6];have BF:Below ve.heap.size ve v9:=(b7.trans (b8.mono b7.size)).trans bq;have lwb:ve.heap.size<=ve.heap.size:=Nat.le_refl _;have bps:=b8;have hbw:=HB2.out.trans ((HB2E.out.trans (BF.mono HB2E.out.size)).mono HB2.out.size);have hown:v9.ownsRow ve.heap.size 114 2 y9 (L.length+1) (abc L++ [.int .u64 (xh:Int), .slice (some ⟨gb,0,none⟩) (x.b).length uc]):=by rw[HXN.out];exact oy
     obtain⟨A9,c9,rfl,h9,_⟩:=HLs.push bps ⟨xh,some ⟨gb,0,none⟩,uc,x.b⟩ ((FE.out.below b7).below b8).qrd y9 hown gq;have HF9:=hE0 (h9.less (Nat.le_trans HBW.out (Nat.le_trans HB2.out.size (Nat.le_trans HB2E.out.size lwb))));have HT9:Hid (Tch (am7 (some ⟨g,0,none⟩)) w v9):=hE0 (Tch.of_below hbw);clear hbw hown h9 oy gq;refine aaW (l:= ?lac) (t:= []) ?hlac rfl ?_
     case hlac=>simp only[pick,lE1,lE2,lE3];rfl
     repeat (go_big_quiet_step (fail))
     refine wpQuiet_nil ?_;go_wp2_with fail
     go_ret2
     exact⟨A9,c9,L++ [⟨xh,some ⟨gb,0,none⟩,uc,x.b⟩],rfl,HF9.out,by rw[List.map_append,HLQ.out];rfl,HT9.out⟩
    case wayS=>
     obtain⟨v7,h7⟩:=nmE (ve.alloc (.cells #[.int .u64 (xh:Int), .slice (some ⟨gb,0,none⟩) xn uc] 114));have b7:=abE h7;have n7:=anE h7;refine aas (some 364) (w1:=v7) (v:= .slice (some ⟨ve.heap.size,0,none⟩) 1 1) rfl rfl rfl (by rw[<-h7];exact aaQ rfl rfl (afk ve _ _ _ _)) b7 ⟨ve.heap.size,Nat.le_refl _,?_⟩;simp only[Act.put,lE4,lE5,lE6];refine aax (l:= []) rfl (wpQuiet_nil ?_);refine aar (vs:= #[.slice (some ⟨g,0,none⟩) n c, .int .i64 (i:Int)]) Tryz.call172 rfl rfl rfl (R:=fun r w'=>∃A' c',r= .slice A' L.length c'/\Hs v7.heap.size w' A' c' L/\Below v7.heap.size v7 w') ((HWO.out v7 (HB2E.out.trans (b7.mono HB2E.out.size))).mono ?_) ve.heap.size (Nat.le_refl _) ?_
     · rintro e w' ⟨A',c',rfl,h1,h2⟩;exact⟨_,rfl,h2.mono b7.size,A',c',rfl,h1,h2⟩
     rintro r v8 _ ⟨A7,c7,rfl,HLs,b8⟩;simp only[Act.put,lE4,lE5,lE6];refine aax (l:= []) rfl (wpQuiet_nil ?_);have n8:=(b8.block _ (aaa n7)).trans n7;refine ab4 (some 365) (.tmp 362) (.tmp 364) 110 114 rfl rfl rfl rfl Tryz.underlying110 (.agg #[.int .u64 0, .slice none 0 0]) 2 32 adK rfl (by decide) v7.heap.size (.slice A7 L.length c7) L.length (abc L) rfl HLs.own b7.size b8.size (some ⟨ve.heap.size,0,none⟩) 1 1 [.int .u64 (xh:Int), .slice (some ⟨gb,0,none⟩) xn uc] rfl rfl (Src.one n8) (fun u hu=>by simp at hu;rcases hu with rfl | rfl<;>rfl) (by omega) (by omega) ?_;intro y9 v9 oy bq gq;refine⟨ve.heap.size,Nat.le_refl _,?_⟩;simp only[Act.put,lE4,lE5,lE6];have BF:Below ve.heap.size ve v9:=(b7.trans (b8.mono b7.size)).trans bq;have lwb:ve.heap.size<=v7.heap.size:=b7.size;have bps:=Below.refl v8.heap.size v8;have hbw:=HB2.out.trans ((HB2E.out.trans (BF.mono HB2E.out.size)).mono HB2.out.size);have hown:v9.ownsRow v7.heap.size 114 2 y9 (L.length+1) (abc L++ [.int .u64 (xh:Int), .slice (some ⟨gb,0,none⟩) (x.b).length uc]):=by rw[HXN.out];exact oy
     obtain⟨A9,c9,rfl,h9,_⟩:=HLs.push bps ⟨xh,some ⟨gb,0,none⟩,uc,x.b⟩ ((FE.out.below b7).below b8).qrd y9 hown gq;have HF9:=hE0 (h9.less (Nat.le_trans HBW.out (Nat.le_trans HB2.out.size (Nat.le_trans HB2E.out.size lwb))));have HT9:Hid (Tch (am7 (some ⟨g,0,none⟩)) w v9):=hE0 (Tch.of_below hbw);clear hbw hown h9 oy gq;refine aaW (l:= ?las) (t:= []) ?hlas rfl ?_
     case hlas=>simp only[pick,lE1,lE2,lE3];rfl
     repeat (go_big_quiet_step (fail))
     refine wpQuiet_nil ?_;go_wp2_with fail
     go_ret2
     exact⟨A9,c9,L++ [⟨xh,some ⟨gb,0,none⟩,uc,x.b⟩],rfl,HF9.out,by rw[List.map_append,HLQ.out];rfl,HT9.out⟩
theorem asN (h:Hs B w A c l) (hl:l.length<=1000) (qv:Value) (capv:Value) (xh cn cm ca:Nat) (xA:Option Addr) (bl xc:Nat) (rh rn:Nat) (rA:Option Addr) (rbl rc s0 s1 s2 s3 s4:Nat){i:Nat}{x:Hq}(hx:l[i]?=some x) (hu:(l.map Hq.p).Nodup) (hxh:x.p=xh) (xn:Nat) (hxn:x.b.length=xn) (hx0:0<xn) (hx16:xn<=16384) (hca:ca+bl<=xn) (hBw:B<=w.heap.size) (xb:List UInt8) (hxbl:xb.length=bl) (hbd:Rd w w.heap.size xA bl xb):
 Calls Tryz.prog 107 #[qv, .slice A l.length c, .agg #[.int .i64 (7), .int .u64 (xh:Int), .int .u64 (cn:Int), .int .u64 (cm:Int), .int .u64 (ca:Int), .slice xA bl xc], .agg #[.int .i64 (0), .int .u64 (rh:Int), .int .u64 (rn:Int), .slice rA rbl rc, .int .i64 (s0:Int), .int .i64 (s1:Int), .int .i64 (s2:Int), .int .i64 (s3:Int), .int .i64 (s4:Int)],capv] w fun e w'=>MdT B A ((l.take i++l.drop (i+1)).map Hq.two++ [(xh,lay x.b ca xb)]) w e w':=by
 have HX:=hE0 hx;have HXN:=hE0 hxn;have HBW:Hid (B<=w.heap.size):=hBw;have HXH:=hE0 hxh;have HRD:=hE0 hbd;have HXL:=hE0 hxbl;clear hbd hxbl;obtain⟨w1,ha1,n1,b1⟩:=acv w 43 (.int .i64 (7)) (.int .u64 (xh:Int)) (.int .u64 (cn:Int)) (.int .u64 (cm:Int)) (.int .u64 (ca:Int)) (.slice xA bl xc);obtain⟨w2,ha2,n2,b2⟩:=abx w1 50 (.int .i64 (0)) (.int .u64 (rh:Int)) (.int .u64 (rn:Int)) (.slice rA rbl rc) (.int .i64 (s0:Int)) (.int .i64 (s1:Int)) (.int .i64 (s2:Int)) (.int .i64 (s3:Int)) (.int .i64 (s4:Int));have HB2:=hE0 (b1.out.trans (b2.out.mono b1.out.size));have m1:=hE0 ((b2.out.block _ (aaa n1.out)).trans n1.out);have HS2:=hE0 (h.below HB2.out);obtain⟨⟨c0,c1,c2,c3,c4,c5⟩,_,hlc⟩:=aa4 m1.out;obtain⟨⟨r0,r1,r2,r3,_⟩,_,hlr⟩:=aaS n2.out;have HF:=hE0 (by have:=afS HS2.out hl hx hu;rw[hxh]at this;exact this);obtain⟨n,hn⟩:=nmE l.length;have HN:=hE0 hn;rw[hn]at HF hl ⊢;clear h hn;go_enter Tryz.func107,Tryz.ntmps107
 go_wp2_with (first | (rw[ha1.out]) | (rw[ha2.out]) | fail)
 refine HF.out.mono ?_;rintro e w' ⟨rfl,rfl⟩;obtain⟨g,rfl,_,hg,_,d0,d1⟩:=HS2.out.at_ HX.out;rw[HXN.out]at d1;rw[HXH.out]at d0;have hin:i<n:=by rw[<-HN.out];exact aau HX.out
 clear HF;obtain⟨wd,hwd⟩:=nmE w2.drew;have HWD:=hE0 hwd;have HSD:Hid (w2.heap.size=wd.heap.size):=by rw[<-hwd];rfl
 have HBD:Hid (Below w2.heap.size w2 wd):=by rw[<-hwd];exact(Below.refl _ _).drew
 have HQD:Hid (∀W,Below wd.heap.size wd W->QRd W x.A x.b):=fun W hW=>(HS2.out.row x (List.mem_of_getElem? HX.out)).below (HBD.out.trans (by rw[HSD.out];exact hW));have HD0:=hE0 ((HBD.out.cell (p:=⟨g,i*2,none⟩) hg).trans d0);have HD1:=hE0 ((HBD.out.cell (p:=⟨g,i*2+1,none⟩) hg).trans d1);have hgd:g<wd.heap.size:=Nat.lt_of_lt_of_le hg HBD.out.size;have g1:decide ((xn:Int)<(ca:Int))=false:=decide_eq_false (by omega);have g1n:decide (xn<ca)=false:=decide_eq_false (by omega);have g2:decide ((xn:Int)-(ca:Int)<(bl:Int))=false:=decide_eq_false (by omega);clear hwd;go_upto_region 62 with(fail)
 clear g1 g1n g2 d0 d1;go_cut [27] from 302 (fun v wx=>∃gx gb uc,v= .pointer (some ⟨gx,0,none⟩)/\wx.heap[gx]?=some (.cells #[.int .u64 (xh:Int), .slice (some ⟨gb,0,none⟩) xn uc] 114 (0,0))/\FillI wx gb x.b/\w2.heap.size<=gx/\w2.heap.size<=gb/\Below w2.heap.size w2 wx)
 case first=>
  exact aiu
 case rest=>
 obtain⟨gx,gb,uc,rfl,nx,fb,lx,lb,hbx⟩:=hcut;have NX:=hE0 nx;have FB:=hE0 fb;have HBX:=hE0 hbx;have HWO:=hE0 (fun W (hW:Below w2.heap.size w2 W)=>adF (HS2.out.below hW) i (by rw[HN.out];exact hin) (by rw[HN.out];exact hl));rw[HN.out]at HWO;obtain⟨L,hL⟩:=nmE (l.take i++l.drop (i+1));have HLQ:=hE0 hL;rw[hL]at HWO;have hLl:L.length+1=n:=by rw[<-hL,<-HN.out,List.length_append,List.length_take,List.length_drop];have:=HN.out;omega
 clear nx fb hbx hL c0 c1 c2 c3 c4 c5 r0 r1 r2 r3 hlc hlr;go_wp2_with fail
 go_loopw [28] (fun i wr=>∃(j:Nat) (b':List UInt8),i= .int .i64 (j:Int)/\j<=bl/\b'.length=xn/\(∀k:Nat,b'[k]?=if ca<=k/\k<ca+j then xb[k-ca]? else x.b[k]?)/\FillI wr gb b'/\wr.heap[gx]?=some (.cells #[.int .u64 (xh:Int), .slice (some ⟨gb,0,none⟩) xn uc] 114 (0,0))/\Below w2.heap.size w2 wr) (fun i _=>bl-(intOf i).toNat)
 case atStart=>exact⟨0,x.b,rfl,Nat.zero_le _,HXN.out,fun k=>by rw[if_neg (by omega)],FB.out,NX.out,HBX.out⟩
 case round=>
  clear NX FB HBX;obtain⟨j,b',rfl,hj,hbl,hbk,fb,nx,hbx⟩:=hrel;have NX:=hE0 nx;have FB:=hE0 fb;have HBX:=hE0 hbx;have HBL:=hE0 hbl;have HBK:Hid (∀k:Nat,b'[k]?=if ca<=k/\k<ca+j then xb[k-ca]? else x.b[k]?):=hbk;obtain⟨⟨x0,x1⟩,_,hlx⟩:=agM nx;clear nx fb hbx hbl hbk;by_cases hlt:j<bl
  · obtain⟨⟨c0,c1,c2,c3,c4,c5⟩,_,hlc⟩:=aa4 ((HBX.out.block _ (aaa m1.out)).trans m1.out);go_wp2_with fail
    go_quiet (fail)
    obtain⟨v1,hv1⟩:=nmE (wr.drewN nq);rw[hv1];obtain⟨ve,hve⟩:=nmE v1.drew;have hb1:Below wr.heap.size wr v1:=by rw[<-hv1];exact abN _ _
    have hbe:Below wr.heap.size wr ve:=hb1.trans (by rw[<-hve];exact((Below.refl v1.heap.size v1).drew).mono hb1.size);obtain⟨⟨c0',c1',c2',c3',c4',c5'⟩,_,_⟩:=aa4 ((hb1.block _ (aaa ((HBX.out.block _ (aaa m1.out)).trans m1.out))).trans ((HBX.out.block _ (aaa m1.out)).trans m1.out));have hlce:=Nat.lt_of_lt_of_le hlc hbe.size;have hlxe:=Nat.lt_of_lt_of_le hlx hbe.size;have e4:=(hbe.cell (p:=⟨w.heap.size,4,none⟩) hlc).trans c4;have e5:=(hbe.cell (p:=⟨w.heap.size,5,none⟩) hlc).trans c5;have ex1:=(hbe.cell (p:=⟨gx,1,none⟩) hlx).trans x1;obtain⟨bb,oo,rfl,hbb,hrl,hcu⟩:=(HRD.out.below ((HB2.out.trans (HBX.out.mono HB2.out.size)).trans (hbe.mono (Nat.le_trans HB2.out.size HBX.out.size)))).at_ hlt;obtain⟨u,hu0⟩:=nmE (xb[j]);have hu:xb[j]?=some u:=by rw[<-hu0];exact List.getElem?_eq_getElem hrl
    rw[hu0]at hcu;have hbb2:bb<ve.heap.size:=Nat.lt_of_lt_of_le hbb (Nat.le_trans HB2.out.size (Nat.le_trans HBX.out.size hbe.size));obtain⟨q,hq⟩:=nmE (ca+j);have hqi:(ca:Int)+(j:Int)=(q:Int):=by omega
    have hqx:q<xn:=by omega
    obtain⟨old,hold⟩:∃old,b'[q]?=some old:=⟨b'[q]'(by rw[HBL.out];exact hqx),List.getElem?_eq_getElem _⟩;have FEV:=FB.out.below hbe;obtain⟨d0,d1⟩:=FEV.at_ hold;have hlb:=FEV.lt;obtain⟨v,hv⟩:=nmE u.toNat;have hiu:iB u= .int .i64 (v:Int):=by unfold iB;rw[hv]
    rw[hv]at hcu;have hv8:v<256:=by rw[<-hv];exact u.toNat_lt
    have F2:=hE0 (FEV.set q (by rw[HBL.out];exact hqx) u);rw[hiu]at F2;have NX2:Hid ((ve.setCell ⟨gb,q,none⟩ (.int .i64 (v:Int))).heap[gx]?=some (.cells #[.int .u64 (xh:Int), .slice (some ⟨gb,0,none⟩) xn uc] 114 (0,0))):=by
     have hnx:=(hbe.block _ (aaa NX.out)).trans NX.out;rw[Below.heap_setCell _ _ _ _ (FEV.ne hnx)];exact hnx
    have HB2':=hE0 ((HBX.out.trans (hbe.mono HBX.out.size)).setCell (p:=⟨gb,q,none⟩) lb (.int .i64 (v:Int)));have HQ:=hE0 hq;have HU:=hE0 hu;have HVE:=hE0 hve;clear c0 c1 c2 c3 c4 c5 x0 x1 hold hu0 hrl hu hv hq FEV hiu hb1 hbe hv1 hve;go_wp2_with fail
    refine aao ve.heap.size [] [0,1,2,3,4,5,6,7,8,9,10,11,12,13] [14] (by kernel_rfl) (by kernel_rfl) (by kernel_rfl) (fun _ _ _ _ _ h=>h) ?_;rw[HVE.out];have q1:=tfE ex1 hlxe;have q4:=tfE e4 hlce;have q5:=tfE e5 hlce;have q6:=tfE hcu hbb2;refine aaH (l:= ?rw) (t:= ?tw) ?hrw ?htw ?_
    case hrw=>simp only[pick,lE1,lE2,lE3];rfl
    case htw=>simp only[pick,lE1,lE2,lE3];rfl
    repeat (go_big_quiet_step (fail))
    refine wpQuiet_nil ?_;clear q1 q4 q5 q6;go_wp2_with fail
    go_roundw
    case rel=>
     refine⟨j+1,b'.set q u,by go_num,by omega,by rw[List.length_set];exact HBL.out,fun k=> ?_,F2.out,NX2.out,HB2'.out⟩;have hq:=HQ.out;rw[List.getElem?_set];split
     · rename_i e;rw[if_pos (by rw[HBL.out];exact hqx),if_pos (by omega),show k-ca=j by omega,HU.out]
     · rename_i e;rw[HBK.out];by_cases h1:ca<=k/\k<ca+j
       · rw[if_pos h1,if_pos (by omega)]
       · rw[if_neg h1,if_neg (by omega)]
    case measure=>simp only[intOf];omega
  · have hbe:b'=lay x.b ca xb:=by
     have hjb:j=bl:=by omega
     refine List.ext_getElem? fun k=> ?_;rw[HBK.out];by_cases h1:ca<=k/\k<ca+j
     · rw[if_pos h1];have:=agH x.b ca xb (by rw[HXN.out];omega) (k-ca) (by rw[HXL.out];omega);rw[show ca+(k-ca)=k by omega]at this;exact this.symm
     · rw[if_neg h1,ajc x.b ca xb (by rw[HXN.out,HXL.out];omega) k (by rw[HXL.out];omega)]
    subst hbe;have hin2:=hin;obtain⟨ve,hve⟩:=nmE wr.drew;have HVE:=hE0 hve;have HBE:Hid (Below wr.heap.size wr ve):=by rw[<-hve];exact(Below.refl _ _).drew
    have HB2E:=hE0 (HBX.out.trans (HBE.out.mono HBX.out.size));have hxe:gx<ve.heap.size:=Nat.lt_of_lt_of_le hlx HBE.out.size;have HX0:=hE0 ((HBE.out.cell (p:=⟨gx,0,none⟩) hlx).trans x0);have HX1:=hE0 ((HBE.out.cell (p:=⟨gx,1,none⟩) hlx).trans x1);have FE:=hE0 (FB.out.below HBE.out);clear hve x0 x1;go_wp2_with fail
    refine aaD ve.heap.size (.two [0,1,3] 2 (.one [] 4 (.one [] 5 (.fin [6,7]))) 4 (.one [] 2 (.one [] 5 (.fin [6,7])))) [] (by kernel_rfl) (by kernel_rfl) (by kernel_rfl) (fun _ _ _ _ _ h=>h) ?_;rw[HVE.out];have q0:∀z:LaterB ve.heap.size ve,z.val.cell? ⟨gx,0,none⟩=some (.int .u64 (xh:Int)):=fun z=>(z.ext.cell (p:=⟨gx,0,none⟩) hxe).trans HX0.out;have q1:∀z:LaterB ve.heap.size ve,z.val.cell? ⟨gx,1,none⟩=some (.slice (some ⟨gb,0,none⟩) xn uc):=fun z=>(z.ext.cell (p:=⟨gx,1,none⟩) hxe).trans HX1.out;refine abL (l:= ?seg7) ?hseg7 ?_
    case hseg7=>simp only[pick,lE1,lE2,lE3];rfl
    repeat (go_big_quiet_step (fail))
    refine wpQuiet_nil ?_;clear q0 q1;refine⟨?wayC,?wayS⟩
    case wayC=>
     refine aar (vs:= #[.slice (some ⟨g,0,none⟩) n c, .int .i64 (i:Int)]) Tryz.call172 rfl rfl rfl (R:=fun r w'=>∃A' c',r= .slice A' L.length c'/\Hs ve.heap.size w' A' c' L/\Below ve.heap.size ve w') ((HWO.out ve HB2E.out).mono ?_) ve.heap.size (Nat.le_refl _) ?_
     · rintro e w' ⟨A',c',rfl,h1,h2⟩;exact⟨_,rfl,h2,A',c',rfl,h1,h2⟩
     rintro r v7 _ ⟨A7,c7,rfl,HLs,b7⟩;simp only[Act.put,lE4,lE5,lE6];refine aax (l:= []) rfl (wpQuiet_nil ?_);obtain⟨v8,h8⟩:=nmE (v7.alloc (.cells #[.int .u64 (xh:Int), .slice (some ⟨gb,0,none⟩) xn uc] 114));have b8:=abE h8;have n8:=anE h8;refine aas (some 364) (w1:=v8) (v:= .slice (some ⟨v7.heap.size,0,none⟩) 1 1) rfl rfl rfl (by rw[<-h8];exact aaQ rfl rfl (afk v7 _ _ _ _)) (b8.mono b7.size) ⟨ve.heap.size,Nat.le_refl _,?_⟩;simp only[Act.put,lE4,lE5,lE6];refine aax (l:= []) rfl (wpQuiet_nil ?_);refine ab4 (some 365) (.tmp 362) (.tmp 364) 110 114 rfl rfl rfl rfl Tryz.underlying110 (.agg #[.int .u64 0, .slice none 0 0]) 2 32 adK rfl (by decide) ve.heap.size (.slice A7 L.length c7) L.length (abc L) rfl (aaw HLs.own b8) (Nat.le_refl _) (Nat.le_trans b7.size b8.size) (some ⟨v7.heap.size,0,none⟩) 1 1 [.int .u64 (xh:Int), .slice (some ⟨gb,0,none⟩) xn uc] rfl rfl (Src.one n8) (fun u hu=>by simp at hu;rcases hu with rfl | rfl<;>rfl) (by omega) (by omega) ?_;intro y9 v9 oy bq gq;refine⟨ve.heap.size,Nat.le_refl _,?_⟩;simp only[Act.put,lE4,lE5,lE6];have BF:Below ve.heap.size ve v9:=(b7.trans (b8.mono b7.size)).trans bq;have lwb:ve.heap.size<=ve.heap.size:=Nat.le_refl _;have bps:=b8;have hbw:=HB2.out.trans ((HB2E.out.trans (BF.mono HB2E.out.size)).mono HB2.out.size);have hown:v9.ownsRow ve.heap.size 114 2 y9 (L.length+1) (abc L++ [.int .u64 (xh:Int), .slice (some ⟨gb,0,none⟩) (lay x.b ca xb).length uc]):=by rw[HBL.out];exact oy
     obtain⟨A9,c9,rfl,h9,_⟩:=HLs.push bps ⟨xh,some ⟨gb,0,none⟩,uc,lay x.b ca xb⟩ ((FE.out.below b7).below b8).qrd y9 hown gq;have HF9:=hE0 (h9.less (Nat.le_trans HBW.out (Nat.le_trans HB2.out.size (Nat.le_trans HB2E.out.size lwb))));have HT9:Hid (Tch (am7 (some ⟨g,0,none⟩)) w v9):=hE0 (Tch.of_below hbw);clear hbw hown h9 oy gq;refine aaW (l:= ?lac) (t:= []) ?hlac rfl ?_
     case hlac=>simp only[pick,lE1,lE2,lE3];rfl
     repeat (go_big_quiet_step (fail))
     refine wpQuiet_nil ?_;go_wp2_with fail
     go_ret2
     exact⟨A9,c9,L++ [⟨xh,some ⟨gb,0,none⟩,uc,lay x.b ca xb⟩],rfl,HF9.out,by rw[List.map_append,HLQ.out];rfl,HT9.out⟩
    case wayS=>
     obtain⟨v7,h7⟩:=nmE (ve.alloc (.cells #[.int .u64 (xh:Int), .slice (some ⟨gb,0,none⟩) xn uc] 114));have b7:=abE h7;have n7:=anE h7;refine aas (some 364) (w1:=v7) (v:= .slice (some ⟨ve.heap.size,0,none⟩) 1 1) rfl rfl rfl (by rw[<-h7];exact aaQ rfl rfl (afk ve _ _ _ _)) b7 ⟨ve.heap.size,Nat.le_refl _,?_⟩;simp only[Act.put,lE4,lE5,lE6];refine aax (l:= []) rfl (wpQuiet_nil ?_);refine aar (vs:= #[.slice (some ⟨g,0,none⟩) n c, .int .i64 (i:Int)]) Tryz.call172 rfl rfl rfl (R:=fun r w'=>∃A' c',r= .slice A' L.length c'/\Hs v7.heap.size w' A' c' L/\Below v7.heap.size v7 w') ((HWO.out v7 (HB2E.out.trans (b7.mono HB2E.out.size))).mono ?_) ve.heap.size (Nat.le_refl _) ?_
     · rintro e w' ⟨A',c',rfl,h1,h2⟩;exact⟨_,rfl,h2.mono b7.size,A',c',rfl,h1,h2⟩
     rintro r v8 _ ⟨A7,c7,rfl,HLs,b8⟩;simp only[Act.put,lE4,lE5,lE6];refine aax (l:= []) rfl (wpQuiet_nil ?_);have n8:=(b8.block _ (aaa n7)).trans n7;refine ab4 (some 365) (.tmp 362) (.tmp 364) 110 114 rfl rfl rfl rfl Tryz.underlying110 (.agg #[.int .u64 0, .slice none 0 0]) 2 32 adK rfl (by decide) v7.heap.size (.slice A7 L.length c7) L.length (abc L) rfl HLs.own b7.size b8.size (some ⟨ve.heap.size,0,none⟩) 1 1 [.int .u64 (xh:Int), .slice (some ⟨gb,0,none⟩) xn uc] rfl rfl (Src.one n8) (fun u hu=>by simp at hu;rcases hu with rfl | rfl<;>rfl) (by omega) (by omega) ?_;intro y9 v9 oy bq gq;refine⟨ve.heap.size,Nat.le_refl _,?_⟩;simp only[Act.put,lE4,lE5,lE6];have BF:Below ve.heap.size ve v9:=(b7.trans (b8.mono b7.size)).trans bq;have lwb:ve.heap.size<=v7.heap.size:=b7.size;have bps:=Below.refl v8.heap.size v8;have hbw:=HB2.out.trans ((HB2E.out.trans (BF.mono HB2E.out.size)).mono HB2.out.size);have hown:v9.ownsRow v7.heap.size 114 2 y9 (L.length+1) (abc L++ [.int .u64 (xh:Int), .slice (some ⟨gb,0,none⟩) (lay x.b ca xb).length uc]):=by rw[HBL.out];exact oy
     obtain⟨A9,c9,rfl,h9,_⟩:=HLs.push bps ⟨xh,some ⟨gb,0,none⟩,uc,lay x.b ca xb⟩ ((FE.out.below b7).below b8).qrd y9 hown gq;have HF9:=hE0 (h9.less (Nat.le_trans HBW.out (Nat.le_trans HB2.out.size (Nat.le_trans HB2E.out.size lwb))));have HT9:Hid (Tch (am7 (some ⟨g,0,none⟩)) w v9):=hE0 (Tch.of_below hbw);clear hbw hown h9 oy gq;refine aaW (l:= ?las) (t:= []) ?hlas rfl ?_
     case hlas=>simp only[pick,lE1,lE2,lE3];rfl
     repeat (go_big_quiet_step (fail))
     refine wpQuiet_nil ?_;go_wp2_with fail
     go_ret2
     exact⟨A9,c9,L++ [⟨xh,some ⟨gb,0,none⟩,uc,lay x.b ca xb⟩],rfl,HF9.out,by rw[List.map_append,HLQ.out];rfl,HT9.out⟩
end
end Go.Proofs.YtncadccbepjekaaGreatDoor
