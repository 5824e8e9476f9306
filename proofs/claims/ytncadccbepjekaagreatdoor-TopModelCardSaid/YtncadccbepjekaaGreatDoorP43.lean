/- Texts of mine, joined. -/
import Derived.Test.YtncadccbepjekaaGreatDoorP39
import Derived.Test.YtncadccbepjekaaGreatDoorP40
set_option maxRecDepth 100000
set_option maxHeartbeats 4000000
namespace Go.Proofs.YtncadccbepjekaaGreatDoor
open Go.RowKit
def FillI (w:World) (g:Nat) (b:List UInt8):Prop:=∃cur:Array Value,w.heap[g]?=some (.cells cur 3 (0,0))/\∀(j:Nat) (u:UInt8),b[j]?=some u->cur[j]?=some (iB u)
theorem agj:(Tryz.prog.info? 3).map (fun i=>(i.zero,i.size,i.bytes))=some (some (.int .i64 0),1,8):=by kernel_rfl
theorem aqV (v:Value) (n:Nat):madeCells #[v] n=(List.replicate n v).toArray:=by
 apply Array.ext
 · simp[madeCells]
 · intro i h1 h2;simp[madeCells,Nat.mod_one]
theorem aet (n:Nat) (hn:n<=30000) (W:World):(Instr.makeSlice 23 (.int .i64 (n:Int)) (.int .i64 (n:Int))).run Tryz.prog W= .ok (.slice (some ⟨W.heap.size,0,none⟩) n n) (W.alloc (.cells ((List.replicate n (0:UInt8)).map iB).toArray 3)):=by
 have h:=run_make_row' (P:=Tryz.prog) 23 3 (.int .i64 0) 8 Tryz.underlying23 agj rfl .i64 .i64 n (by omega) (by omega) W;rw[h,aqV,List.map_replicate];rfl
theorem adG (ρ:Operand->Value) (o:Oper) (ho:o.op= .alloc 114) (w:World):
 (execOp ρ o).run Tryz.prog w= .ok (.value (.pointer (some ⟨w.heap.size,0,none⟩))) (w.alloc (.cells #[.int .u64 0, .slice none 0 0] 114)):=by
 unfold execOp;simp only[ho];simp[go_sem]
theorem ajp{P:Program}{o:Oper}{a:Act}{w w1:World}{v L C:Value}{t:TypeId}{l c:Operand}(ho:o.op= .makeSlice t l c) (hl:a.eval l=L) (hc:a.eval c=C)
 (hr:(Instr.makeSlice t L C).run P w= .ok v w1):(execOp a.eval o).run P w= .ok (.value v) w1:=by
 unfold execOp;simp only[ho];rw[hl,hc,Sem.run_bind,hr];rfl
theorem auv{w:World}{a b:Nat}{s t:TypeId}{x y:Array Value}(h:w.heap[a]?=some (.cells x s (0,0))) (k:w.heap[b]?=some (.cells y t (0,0))) (hne:s≠t):a≠b:=by
 intro e;subst e;rw[h]at k;injection k with k;injection k with _ k;exact hne k
section
variable {w w':World} {g:Nat} {b:List UInt8}
theorem FillI.of (h:w.heap[g]?=some (.cells (b.map iB).toArray 3 (0,0))):FillI w g b:=⟨_,h,fun j u hu=>by
 rw[List.getElem?_toArray,List.getElem?_map,hu];rfl⟩
theorem FillI.qrd (h:FillI w g b):QRd w (some ⟨g,0,none⟩) b:=fun _=>by
 obtain⟨cur,h1,h2⟩:=h;exact⟨g,cur,rfl,h1,h2⟩
theorem FillI.lt (h:FillI w g b):g<w.heap.size:=by
 obtain⟨cur,h1,_⟩:=h;exact aae h1
theorem FillI.keep (h:FillI w g b) (hk:w'.heap[g]?=w.heap[g]?):FillI w' g b:=by
 obtain⟨cur,h1,h2⟩:=h;exact⟨cur,hk.trans h1,h2⟩
theorem FillI.below (h:FillI w g b) (hb:Below w.heap.size w w'):FillI w' g b:=h.keep (hb.block g h.lt)
theorem FillI.ne (h:FillI w g b){gx:Nat}{cs:Array Value}(hx:w.heap[gx]?=some (.cells cs 114 (0,0))):gx≠g:=by
 obtain⟨cur,h1,_⟩:=h;exact auv hx h1 (by decide)
theorem FillI.at_ (h:FillI w g b){k:Nat}{u:UInt8}(hu:b[k]?=some u):w.cell? ⟨g,k,none⟩=some (iB u)/\w.frozen? ⟨g,k,none⟩=false:=by
 obtain⟨cur,h1,h2⟩:=h;exact⟨(cell_of_row w g k _ _ (0,0) h1).trans (h2 k u hu),frozen_of_row w g k _ _ h1⟩
theorem FillI.set (h:FillI w g b) (k:Nat) (hk:k<b.length) (u:UInt8):FillI (w.setCell ⟨g,k,none⟩ (iB u)) g (b.set k u):=by
 obtain⟨cur,h1,h2⟩:=h;refine⟨_,heap_setCell_same w g k _ _ (iB u) h1,fun j v hv=> ?_⟩;rw[List.getElem?_set]at hv;rw[Array.getElem?_setIfInBounds];split at hv
 · rename_i e;subst e;have hv:some u=some v:=by simpa[hk]using hv
   injection hv with hv;subst hv;obtain⟨x,hx⟩:∃x,b[k]?=some x:=⟨b[k],List.getElem?_eq_getElem hk⟩;have h3:=h2 k x hx;rw[if_pos rfl,if_pos (by
    rcases Nat.lt_or_ge k cur.size with h | h
    · exact h
    · rw[Array.getElem?_eq_none h]at h3;cases h3)]
 · rename_i e;rw[if_neg e];exact h2 j v hv
end
section
variable {B:Nat} {w w4 w5:World} {A:Option Addr} {c:Nat} {l:List Hq}
theorem Hs.push (h:Hs B w A c l) (hb:Below w.heap.size w w4) (x:Hq) (hx:QRd w4 x.A x.b) (v:Value)
 (hown:w5.ownsRow B 114 2 v (l.length+1) (abc l++ [.int .u64 (x.p:Int), .slice x.A x.b.length x.c])) (hgr:w4.grownBy w5 (Value.slice A l.length c).ownBlock):
 ∃A' c',v= .slice A' (l++ [x]).length c'/\Hs B w5 A' c' (l++ [x])/\Tch (am7 A) w w5:=by
 obtain⟨A',c',rfl⟩:=adZ hown;have h4:=h.below hb;have hk:∀(k:Nat) (cs:Array Value),w4.heap[k]?=some (.cells cs 3 (0,0))->w5.heap[k]?=w4.heap[k]?:=fun k cs hk=>hgr.block k (aae hk) fun e=>acB h4.own e.symm hk (by decide);refine⟨A',c',by rw[List.length_append];rfl,⟨?_,fun y hy=> ?_⟩,(Tch.of_below (S:=am7 A) hb).trans (Tch.grown (S:=am7 A) hgr fun k e=> ?_) fun _ _ h=>h⟩
 · rw[List.length_append,aef];exact hown
 · rcases List.mem_append.1 hy with hy | hy
   · exact(h4.row y hy).keep hk
   · obtain rfl:y=x:=by simpa using hy
     exact hx.keep hk
 · cases A with
   | none=>simp[Value.ownBlock]at e
   | some a=>
    have hA:=h.own.2;rcases hA with⟨h',_⟩ | ⟨g,cap,cur,hv,_⟩
    · cases h'
    · injection hv with e1;injection e1 with e1;subst e1;simp[Value.ownBlock]at e;exact⟨_,rfl,e⟩
end
section
variable {B:Nat} {w:World} {q g base cap ch:Nat} {Ah:Option Addr} {bs:List UInt8} {H:Hp} {A:Option Addr} {c:Nat} {l:List Hq}
theorem ahg{P:Prop}(h:P:=by
 refine aaW (l:= []) (t:= ?tl2) rfl ?htl2 (wpQuiet_nil ?_)
 case htl2=>simp only[pick,lE1,lE2,lE3];rfl
 simp only[Act.put,lE4,lE5,lE6];have N2:=hE0 n2;obtain⟨z3,hz3,n3,b3,⟨x0,x1⟩,⟨e0,e1⟩,hlz⟩:=auJ N2 (.int .u64 (p:Int)) (.slice (some ⟨wd.heap.size,0,none⟩) m m);have F3:=hE0 ((f1.below bz2).keep ((b3.out z1.heap.size z2 (Nat.le_refl _) (Below.refl _ _)).block _ f1.lt));have B3:=hE0 (b3.out wd.heap.size wd bz1.size (bz1.trans (bz2.mono bz1.size)));have G1:=hE0 bz1.size;clear hz1 hz2 n2 f1 bz1 bz2;go_wp2_with (first | (rw[hz3.out]) | fail)
 go_meet
 case rel=>exact⟨z1.heap.size,wd.heap.size,rfl,n3.out,F3.out,by rw[HSD.out];exact G1.out,by rw[HSD.out];exact Nat.le_refl _,HBD.out.trans (by rw[HSD.out];exact B3.out)⟩
 ):P:=h
theorem ain{P:Prop}(h:P:=by
 refine aaD wd.heap.size (.two [0,1,2,3] 4 (.one [5] 6 (.fin [])) 6 (.one [] 4 (.fin [5]))) [7] (by kernel_rfl) (by kernel_rfl) (by kernel_rfl) (fun _ _ _ _ _ h=>h) ?_;rw[HWD.out];have q0:∀z:LaterB wd.heap.size wd,z.val.cell? ⟨w1.heap.size,1,none⟩=some (.int .u64 (p:Int)):=fun z=>(z.ext.cell (p:=⟨w1.heap.size,1,none⟩) hl1d).trans HR1.out;refine abL (l:= ?seg1) ?hseg1 ?_
 case hseg1=>simp only[pick,lE1,lE2,lE3];rfl
 repeat (go_big_quiet_step (fail))
 refine wpQuiet_nil ?_;clear q0;refine⟨?wayA,?wayC⟩
 case wayA=>
  obtain⟨z1,hz1⟩:=nmE (wd.alloc (.cells ((List.replicate m (0:UInt8)).map iB).toArray 3));have bz1:=abE hz1;have f1:FillI z1 wd.heap.size (List.replicate m 0):=by rw[<-hz1];exact .of (heap_alloc_new wd _)
  refine aas (some 117) (w1:=z1) (v:= .slice (some ⟨wd.heap.size,0,none⟩) m m) rfl rfl rfl (by rw[<-hz1];exact ajp rfl rfl rfl (aet m (by omega) wd)) bz1 ⟨wd.heap.size,Nat.le_refl _,?_⟩;refine aax (l:= ?seg2) ?hseg2 ?_
  case hseg2=>simp only[pick,lE1,lE2,lE3];rfl
  simp only[Act.put,lE4,lE5,lE6];repeat (go_big_quiet_step (fail))
  refine wpQuiet_nil ?_;obtain⟨z2,hz2⟩:=nmE (z1.alloc (.cells #[.int .u64 0, .slice none 0 0] 114));have bz2:=abE hz2;have n2:=anE hz2;refine aas (some 17) (w1:=z2) (v:= .pointer (some ⟨z1.heap.size,0,none⟩)) rfl rfl rfl (by rw[<-hz2];exact adG _ _ rfl z1) (bz2.mono bz1.size) ⟨wd.heap.size,Nat.le_refl _,?_⟩;exact ahg
 case wayC=>
  obtain⟨z1,hz1⟩:=nmE (wd.alloc (.cells #[.int .u64 0, .slice none 0 0] 114));have bz1:=abE hz1;have n1:=anE hz1;refine aas (some 17) (w1:=z1) (v:= .pointer (some ⟨wd.heap.size,0,none⟩)) rfl rfl rfl (by rw[<-hz1];exact adG _ _ rfl wd) bz1 ⟨wd.heap.size,Nat.le_refl _,?_⟩;refine aax (l:= []) rfl (wpQuiet_nil ?_);obtain⟨z2,hz2⟩:=nmE (z1.alloc (.cells ((List.replicate m (0:UInt8)).map iB).toArray 3));have bz2:=abE hz2;have f2:FillI z2 z1.heap.size (List.replicate m 0):=by rw[<-hz2];exact .of (heap_alloc_new z1 _)
  have n2:=(bz2.block _ (aaa n1)).trans n1;refine aas (some 117) (w1:=z2) (v:= .slice (some ⟨z1.heap.size,0,none⟩) m m) rfl rfl rfl (by rw[<-hz2];exact ajp rfl rfl rfl (aet m (by omega) z1)) (bz2.mono bz1.size) ⟨wd.heap.size,Nat.le_refl _,?_⟩;refine aaW (l:= ?la4) (t:= ?tl4) ?hla4 ?htl4 ?_
  case hla4=>simp only[pick,lE1,lE2,lE3];rfl
  case htl4=>simp only[pick,lE1,lE2,lE3];rfl
  simp only[Act.put,lE4,lE5,lE6];repeat (go_big_quiet_step (fail))
  refine wpQuiet_nil ?_;have N2:=hE0 n2;have hne:z1.heap.size≠wd.heap.size:=by have:=aaa n1;omega
  obtain⟨z3,hz3,n3,b3,⟨x0,x1⟩,⟨e0,e1⟩,hlz⟩:=auJ N2 (.int .u64 (p:Int)) (.slice (some ⟨z1.heap.size,0,none⟩) m m);have F3:Hid (FillI z3 z1.heap.size (List.replicate m 0)):=hE0 (f2.keep (by rw[<-hz3.out,Below.heap_setCell _ _ _ _ hne,Below.heap_setCell _ _ _ _ hne]));have B3:=hE0 (b3.out wd.heap.size wd (Nat.le_refl _) (bz1.trans (bz2.mono bz1.size)));have G1:=hE0 bz1.size;clear hz1 hz2 n1 n2 f2 bz1 bz2 hne;go_wp2_with (first | (rw[hz3.out]) | fail)
  go_meet
  case rel=>exact⟨wd.heap.size,z1.heap.size,rfl,n3.out,F3.out,by rw[HSD.out];exact Nat.le_refl _,by rw[HSD.out];exact G1.out,HBD.out.trans (by rw[HSD.out];exact B3.out)⟩):P:=h
theorem auw (h:Hs B w A c l) (hl:l.length<=1000) (xh cn cm ca:Nat) (xA:Option Addr) (bl xc:Nat) (p m rn:Nat) (rA:Option Addr) (rbl rc s0 s1 s2 s3 s4:Nat) (hv:PH w q g base cap Ah ch bs H) (hus:H.usableP p=(m,0)) (hlm:Lm l) (hcn:cn<=m) (hm:m<=16384) (h16:p%16=0) (hpc:p+m<=cap) (hp16:cap<=16384) (hap:∀x∈l,x.p+x.b.length<=p\/p+m<=x.p) (hBw:B<=w.heap.size):
 Calls Tryz.prog 107 #[.pointer (some ⟨q,0,none⟩), .slice A l.length c, .agg #[.int .i64 (1), .int .u64 (xh:Int), .int .u64 (cn:Int), .int .u64 (cm:Int), .int .u64 (ca:Int), .slice xA bl xc], .agg #[.int .i64 (0), .int .u64 (p:Int), .int .u64 (rn:Int), .slice rA rbl rc, .int .i64 (s0:Int), .int .i64 (s1:Int), .int .i64 (s2:Int), .int .i64 (s3:Int), .int .i64 (s4:Int)], .int .i64 (cap:Int)] w fun e w'=>MdT B A (l.map Hq.two++ [(p,List.replicate m 165)]) w e w':=by
 obtain⟨w1,ha1,n1,b1⟩:=acv w 43 (.int .i64 (1)) (.int .u64 (xh:Int)) (.int .u64 (cn:Int)) (.int .u64 (cm:Int)) (.int .u64 (ca:Int)) (.slice xA bl xc);obtain⟨w2,ha2,n2,b2⟩:=abx w1 50 (.int .i64 (0)) (.int .u64 (p:Int)) (.int .u64 (rn:Int)) (.slice rA rbl rc) (.int .i64 (s0:Int)) (.int .i64 (s1:Int)) (.int .i64 (s2:Int)) (.int .i64 (s3:Int)) (.int .i64 (s4:Int));have HB2:=hE0 (b1.out.trans (b2.out.mono b1.out.size));have m1:=hE0 ((b2.out.block _ (aaa n1.out)).trans n1.out);have HS2:=hE0 (h.below HB2.out);obtain⟨⟨c0,c1,c2,c3,c4,c5⟩,_,hlc⟩:=aa4 m1.out;obtain⟨⟨r0,r1,r2,r3,_⟩,_,hlr⟩:=aaS n2.out;have HU:=hE0 (acy (hv.below HB2.out) p (by omega));rw[hus]at HU;clear hus;have HF:=hE0 (am8 HS2.out hl xh);have HAP:=hE0 (fun W (hW:Below w.heap.size w W)=>afj (h.below hW) hl hlm p m cap h16 hpc hp16 hap);have HS:=hE0 h;have HBW:=hE0 hBw;obtain⟨n,hn⟩:=nmE l.length;have HN:=hE0 hn;rw[hn]at HF HAP hl ⊢;clear h hn hv hap hlm hBw h16;have gm:(m:Int)%100000=(m:Int):=by omega
 have g5:decide ((m:Int)<(cn:Int))=false:=decide_eq_false (by omega);have g5n:decide (m<cn)=false:=decide_eq_false (by omega);go_enter Tryz.func107,Tryz.ntmps107
 go_wp2_with (first | (rw[ha1.out]) | (rw[ha2.out]) | fail)
 refine HF.out.mono ?_;rintro e w' ⟨rfl,r,rfl⟩;clear HF;go_wp2_with fail
 refine HU.out.mono ?_;rintro e v3 ⟨rfl,hb3⟩;have HB3:=hE0 (HB2.out.trans (hb3.mono HB2.out.size));have A3:=hE0 (HAP.out v3 HB3.out);have n3:=hE0 ((hb3.block _ (aaa n2.out)).trans n2.out);have m3:=hE0 ((hb3.block _ (aaa m1.out)).trans m1.out);clear hb3 HU c0 c1 c2 c3 c4 c5 r0 r1 r2 r3 hlc hlr;obtain⟨⟨c0,c1,c2,c3,c4,c5⟩,_,hlc⟩:=aa4 m3.out;obtain⟨⟨r0,r1,r2,r3,_⟩,_,hlr⟩:=aaS n3.out;rw[show aju 0= .nilIface from rfl];go_wp2_with fail
 refine A3.out.mono ?_;rintro e v4 ⟨rfl,hb4⟩;have HB4:=hE0 (HB3.out.trans (hb4.mono HB3.out.size));have n4:=hE0 ((hb4.block _ (aaa n3.out)).trans n3.out);have m4:=hE0 ((hb4.block _ (aaa m3.out)).trans m3.out);clear hb4 A3 HAP c0 c1 c2 c3 c4 c5 r0 r1 r2 r3 hlc hlr;obtain⟨⟨c0,c1,c2,c3,c4,c5⟩,_,hlc⟩:=aa4 m4.out;obtain⟨⟨r0,r1,r2,r3,_⟩,_,hlr⟩:=aaS n4.out;go_upto_region 20 with(fail)
 clear gm g5 g5n;obtain⟨wd,hwd⟩:=nmE v4.drew;have HWD:=hE0 hwd;have HSD:Hid (v4.heap.size=wd.heap.size):=by rw[<-hwd];rfl
 have HBD:Hid (Below v4.heap.size v4 wd):=by rw[<-hwd];exact(Below.refl _ _).drew
 have HR1:=hE0 ((HBD.out.cell (p:=⟨w1.heap.size,1,none⟩) hlr).trans r1);have hl1d:w1.heap.size<wd.heap.size:=Nat.lt_of_lt_of_le hlr HBD.out.size;clear hwd;go_cut [17] from 113 (fun v wx=>∃gx gb,v= .pointer (some ⟨gx,0,none⟩)/\wx.heap[gx]?=some (.cells #[.int .u64 (p:Int), .slice (some ⟨gb,0,none⟩) m m] 114 (0,0))/\FillI wx gb (List.replicate m 0)/\v4.heap.size<=gx/\v4.heap.size<=gb/\Below v4.heap.size v4 wx)
 case first=>
  exact ain
 case rest=>
 obtain⟨gx,gb,rfl,nx,fb,lx,lb,hbx⟩:=hcut;have NX:=hE0 nx;have FB:=hE0 fb;have HBX:=hE0 hbx;clear nx fb hbx c0 c1 c2 c3 c4 c5 r0 r1 r2 r3 hlc hlr;go_wp2_with fail
 go_loopw [18] (fun i wr=>∃(j:Nat) (b:List UInt8),i= .int .i64 (j:Int)/\j<=m/\b.length=m/\(∀k,k<j->b[k]?=some 165)/\FillI wr gb b/\wr.heap[gx]?=some (.cells #[.int .u64 (p:Int), .slice (some ⟨gb,0,none⟩) m m] 114 (0,0))/\Below v4.heap.size v4 wr) (fun i _=>m-(intOf i).toNat)
 case atStart=>exact⟨0,_,rfl,Nat.zero_le _,List.length_replicate,fun k hk=>absurd hk (Nat.not_lt_zero _),FB.out,NX.out,HBX.out⟩
 case round=>
  clear NX FB HBX;obtain⟨j,b,rfl,hj,hbl,hbv,fb,nx,hbx⟩:=hrel;have NX:=hE0 nx;have FB:=hE0 fb;have HBX:=hE0 hbx;have HBV:=hE0 hbv;have HBL:=hE0 hbl;obtain⟨⟨x0,x1⟩,_,hlx⟩:=agM nx;clear nx fb hbx hbv hbl;by_cases hlt:j<m
  · obtain⟨⟨c0,c1,c2,c3,c4,c5⟩,_,hlc⟩:=aa4 ((HBX.out.block _ (aaa m4.out)).trans m4.out);obtain⟨u,hu⟩:∃u,b[j]?=some u:=⟨b[j]'(by rw[HBL.out];exact hlt),List.getElem?_eq_getElem _⟩;obtain⟨d0,d1⟩:=FB.out.at_ hu;have hlb:=FB.out.lt;have F2:=hE0 (FB.out.set j (by rw[HBL.out];exact hlt) 165);have NX2:Hid ((wr.setCell ⟨gb,j,none⟩ (.int .i64 165)).heap[gx]?=some (.cells #[.int .u64 (p:Int), .slice (some ⟨gb,0,none⟩) m m] 114 (0,0))):=by
     rw[Below.heap_setCell _ _ _ _ (FB.out.ne NX.out)];exact NX.out
    have HB2:=hE0 (HBX.out.setCell (p:=⟨gb,j,none⟩) lb (.int .i64 165));clear hu;go_wp2_with fail
    go_roundw
    case rel=>
     refine⟨j+1,b.set j 165,by go_num,by omega,by rw[List.length_set];exact HBL.out,fun k hk=> ?_,F2.out,NX2.out,HB2.out⟩;rw[List.getElem?_set];split
     · rw[if_pos (by rw[HBL.out];exact hlt)]
     · exact HBV.out k (by omega)
    case measure=>simp only[intOf];omega
  · have hbr:b=List.replicate m 165:=by
     refine List.ext_getElem? fun k=> ?_;rw[List.getElem?_replicate];split
     · rename_i hk;exact HBV.out k (by omega)
     · exact List.getElem?_eq_none (by rw[HBL.out];omega)
    subst hbr;obtain⟨wa,hwa,na,ba⟩:=apJ wr 114 (.int .u64 (p:Int)) (.slice (some ⟨gb,0,none⟩) m m);obtain⟨i0,hi,hz0,hz1,hz2⟩:=info_parts adK;have HBA:=hE0 (HB4.out.trans ((HBX.out.trans (ba.out.mono HBX.out.size)).mono HB4.out.size));have HSA:=hE0 (HS.out.below HBA.out);have FA:=hE0 (FB.out.below ba.out);have hBa:B<=wa.heap.size:=Nat.le_trans HBW.out HBA.out.size;have HNEW:Hid (∀j u,[Value.int .u64 (p:Int), .slice (some ⟨gb,0,none⟩) m m][j]?=some u->wa.cell? ((⟨wr.heap.size,0,none⟩:Addr).add j)=some u):=fun j u hu=>by
     have e:(⟨wr.heap.size,0,none⟩:Addr).add j=⟨wr.heap.size,j,none⟩:=by unfold Addr.add;split<;>simp_all
     rw[e,cell_of_row wa _ j _ _ (0,0) na.out];simpa using hu
    have HONE:Hid (∀u∈ [Value.int .u64 (p:Int), .slice (some ⟨gb,0,none⟩) m m],u.oneCell'=true):=fun u hu=>by
     simp at hu;rcases hu with rfl | rfl<;>rfl
    have HOA:Hid (wa.ownsRow B 114 2 (.slice A n c) n (abc l)):=by have:=HSA.out.own;rw[HN.out]at this;exact this
    go_wp2_with (first
     | (rw[hwa.out])
     | (at_builtin;go_must (refine wpList_append_own _ rfl _ _ 110 rfl B 114 i0 _ 2 32 Tryz.underlying110 hi hz0 hz1 hz2 rfl (by decide) _ n (abc l) rfl HOA.out ⟨wr.heap.size,0,none⟩ 1 1 [.int .u64 (p:Int), .slice (some ⟨gb,0,none⟩) m m] rfl rfl HNEW.out HONE.out (by unfold maxLen;omega) (by omega) hBa ?_);intro x5 w5 own5 gr5 at5
        have HX5:Hid (w5.ownsRow B 114 2 x5 (n+1) (abc l++ [.int .u64 (p:Int), .slice (some ⟨gb,0,none⟩) m m])/\wa.grownBy w5 (Value.slice A n c).ownBlock):=⟨own5,gr5⟩;clear own5 gr5 at5)
     | fail)
    go_ret2
    obtain⟨o5,g5⟩:=HX5.out;rw[<-HN.out]at o5 g5;obtain⟨A',c',rfl,h5,t5⟩:=HS.out.push HBA.out ⟨p,some ⟨gb,0,none⟩,m,List.replicate m 165⟩ FA.out.qrd x5 (by rw[show(List.replicate m (165:UInt8)).length=m from List.length_replicate];exact o5) g5;exact⟨A',c',_,rfl,h5,by rw[List.map_append];rfl,t5⟩
theorem aio{P:Prop}(h:P:=by
 have HB5:=hE0 (HB4.out.trans (HBD5.out.mono HB4.out.size));have n5:=hE0 ((HBD5.out.block _ (aaa n4.out)).trans n4.out);have m5:=hE0 ((HBD5.out.block _ (aaa m4.out)).trans m4.out);obtain⟨⟨c0,c1,c2,c3,c4,c5⟩,_,hlc⟩:=aa4 m5.out;obtain⟨⟨r0,r1,r2,r3,_⟩,_,hlr⟩:=aaS n5.out;go_upto_region 20 with(fail)
 clear gm g5 g5n hnm;obtain⟨wd,hwd⟩:=nmE v5.drew;have HWD:=hE0 hwd;have HSD:Hid (v5.heap.size=wd.heap.size):=by rw[<-hwd];rfl
 have HBD:Hid (Below v5.heap.size v5 wd):=by rw[<-hwd];exact(Below.refl _ _).drew
 have HR1:=hE0 ((HBD.out.cell (p:=⟨w1.heap.size,1,none⟩) hlr).trans r1);have hl1d:w1.heap.size<wd.heap.size:=Nat.lt_of_lt_of_le hlr HBD.out.size;clear hwd;go_cut [17] from 113 (fun v wx=>∃gx gb,v= .pointer (some ⟨gx,0,none⟩)/\wx.heap[gx]?=some (.cells #[.int .u64 (p:Int), .slice (some ⟨gb,0,none⟩) m m] 114 (0,0))/\FillI wx gb (List.replicate m 0)/\v5.heap.size<=gx/\v5.heap.size<=gb/\Below v5.heap.size v5 wx)
 case first=>
  exact ain
 case rest=>
 obtain⟨gx,gb,rfl,nx,fb,lx,lb,hbx⟩:=hcut;have NX:=hE0 nx;have FB:=hE0 fb;have HBX:=hE0 hbx;clear nx fb hbx c0 c1 c2 c3 c4 c5 r0 r1 r2 r3 hlc hlr;go_wp2_with fail
 go_loopw [18] (fun i wr=>∃(j:Nat) (b:List UInt8),i= .int .i64 (j:Int)/\j<=m/\b.length=m/\(∀k,k<j->b[k]?=some 0)/\FillI wr gb b/\wr.heap[gx]?=some (.cells #[.int .u64 (p:Int), .slice (some ⟨gb,0,none⟩) m m] 114 (0,0))/\Below v5.heap.size v5 wr) (fun i _=>m-(intOf i).toNat)
 case atStart=>exact⟨0,_,rfl,Nat.zero_le _,List.length_replicate,fun k hk=>absurd hk (Nat.not_lt_zero _),FB.out,NX.out,HBX.out⟩
 case round=>
  clear NX FB HBX;obtain⟨j,b,rfl,hj,hbl,hbv,fb,nx,hbx⟩:=hrel;have NX:=hE0 nx;have FB:=hE0 fb;have HBX:=hE0 hbx;have HBV:=hE0 hbv;have HBL:=hE0 hbl;obtain⟨⟨x0,x1⟩,_,hlx⟩:=agM nx;clear nx fb hbx hbv hbl;by_cases hlt:j<m
  · obtain⟨⟨c0,c1,c2,c3,c4,c5⟩,_,hlc⟩:=aa4 ((HBX.out.block _ (aaa m5.out)).trans m5.out);obtain⟨u,hu⟩:∃u,b[j]?=some u:=⟨b[j]'(by rw[HBL.out];exact hlt),List.getElem?_eq_getElem _⟩;obtain⟨d0,d1⟩:=FB.out.at_ hu;have hlb:=FB.out.lt;have F2:=hE0 (FB.out.set j (by rw[HBL.out];exact hlt) 0);have NX2:Hid ((wr.setCell ⟨gb,j,none⟩ (.int .i64 0)).heap[gx]?=some (.cells #[.int .u64 (p:Int), .slice (some ⟨gb,0,none⟩) m m] 114 (0,0))):=by
     rw[Below.heap_setCell _ _ _ _ (FB.out.ne NX.out)];exact NX.out
    have HB2:=hE0 (HBX.out.setCell (p:=⟨gb,j,none⟩) lb (.int .i64 0));clear hu;go_wp2_with fail
    go_roundw
    case rel=>
     refine⟨j+1,b.set j 0,by go_num,by omega,by rw[List.length_set];exact HBL.out,fun k hk=> ?_,F2.out,NX2.out,HB2.out⟩;rw[List.getElem?_set];split
     · rw[if_pos (by rw[HBL.out];exact hlt)]
     · exact HBV.out k (by omega)
    case measure=>simp only[intOf];omega
  · have hbr:b=List.replicate m 0:=by
     refine List.ext_getElem? fun k=> ?_;rw[List.getElem?_replicate];split
     · rename_i hk;exact HBV.out k (by omega)
     · exact List.getElem?_eq_none (by rw[HBL.out];omega)
    subst hbr;obtain⟨wa,hwa,na,ba⟩:=apJ wr 114 (.int .u64 (p:Int)) (.slice (some ⟨gb,0,none⟩) m m);obtain⟨i0,hi,hz0,hz1,hz2⟩:=info_parts adK;have HBA:=hE0 (HB5.out.trans ((HBX.out.trans (ba.out.mono HBX.out.size)).mono HB5.out.size));have HSA:=hE0 (HS.out.below HBA.out);have FA:=hE0 (FB.out.below ba.out);have hBa:B<=wa.heap.size:=Nat.le_trans HBW.out HBA.out.size;have HNEW:Hid (∀j u,[Value.int .u64 (p:Int), .slice (some ⟨gb,0,none⟩) m m][j]?=some u->wa.cell? ((⟨wr.heap.size,0,none⟩:Addr).add j)=some u):=fun j u hu=>by
     have e:(⟨wr.heap.size,0,none⟩:Addr).add j=⟨wr.heap.size,j,none⟩:=by unfold Addr.add;split<;>simp_all
     rw[e,cell_of_row wa _ j _ _ (0,0) na.out];simpa using hu
    have HONE:Hid (∀u∈ [Value.int .u64 (p:Int), .slice (some ⟨gb,0,none⟩) m m],u.oneCell'=true):=fun u hu=>by
     simp at hu;rcases hu with rfl | rfl<;>rfl
    have HOA:Hid (wa.ownsRow B 114 2 (.slice A n c) n (abc l)):=by have:=HSA.out.own;rw[HN.out]at this;exact this
    go_wp2_with (first
     | (rw[hwa.out])
     | (at_builtin;go_must (refine wpList_append_own _ rfl _ _ 110 rfl B 114 i0 _ 2 32 Tryz.underlying110 hi hz0 hz1 hz2 rfl (by decide) _ n (abc l) rfl HOA.out ⟨wr.heap.size,0,none⟩ 1 1 [.int .u64 (p:Int), .slice (some ⟨gb,0,none⟩) m m] rfl rfl HNEW.out HONE.out (by unfold maxLen;omega) (by omega) hBa ?_);intro x5 w5 own5 gr5 at5
        have HX5:Hid (w5.ownsRow B 114 2 x5 (n+1) (abc l++ [.int .u64 (p:Int), .slice (some ⟨gb,0,none⟩) m m])/\wa.grownBy w5 (Value.slice A n c).ownBlock):=⟨own5,gr5⟩;clear own5 gr5 at5)
     | fail)
    go_ret2
    obtain⟨o5,g5⟩:=HX5.out;rw[<-HN.out]at o5 g5;obtain⟨A',c',rfl,h5,t5⟩:=HS.out.push HBA.out ⟨p,some ⟨gb,0,none⟩,m,List.replicate m 0⟩ FA.out.qrd x5 (by rw[show(List.replicate m (0:UInt8)).length=m from List.length_replicate];exact o5) g5;exact⟨A',c',_,rfl,h5,by rw[List.map_append];rfl,t5⟩
 ):P:=h
theorem asF (h:Hs B w A c l) (hl:l.length<=1000) (xh cn cm ca:Nat) (xA:Option Addr) (bl xc:Nat) (p m rn:Nat) (rA:Option Addr) (rbl rc s0 s1 s2 s3 s4:Nat) (hv:PH w q g base cap Ah ch bs H) (hus:H.usableP p=(m,0)) (hlm:Lm l) (hcn:cn*cm<=m) (hm:m<=16384) (h16:p%16=0) (hpc:p+m<=cap) (hp16:cap<=16384) (hap:∀x∈l,x.p+x.b.length<=p\/p+m<=x.p) (hBw:B<=w.heap.size) (hz:cn=0):
 Calls Tryz.prog 107 #[.pointer (some ⟨q,0,none⟩), .slice A l.length c, .agg #[.int .i64 (2), .int .u64 (xh:Int), .int .u64 (cn:Int), .int .u64 (cm:Int), .int .u64 (ca:Int), .slice xA bl xc], .agg #[.int .i64 (0), .int .u64 (p:Int), .int .u64 (rn:Int), .slice rA rbl rc, .int .i64 (s0:Int), .int .i64 (s1:Int), .int .i64 (s2:Int), .int .i64 (s3:Int), .int .i64 (s4:Int)], .int .i64 (cap:Int)] w fun e w'=>MdT B A (l.map Hq.two++ [(p,List.replicate m 0)]) w e w':=by
 obtain⟨w1,ha1,n1,b1⟩:=acv w 43 (.int .i64 (2)) (.int .u64 (xh:Int)) (.int .u64 (cn:Int)) (.int .u64 (cm:Int)) (.int .u64 (ca:Int)) (.slice xA bl xc);obtain⟨w2,ha2,n2,b2⟩:=abx w1 50 (.int .i64 (0)) (.int .u64 (p:Int)) (.int .u64 (rn:Int)) (.slice rA rbl rc) (.int .i64 (s0:Int)) (.int .i64 (s1:Int)) (.int .i64 (s2:Int)) (.int .i64 (s3:Int)) (.int .i64 (s4:Int));have HB2:=hE0 (b1.out.trans (b2.out.mono b1.out.size));have m1:=hE0 ((b2.out.block _ (aaa n1.out)).trans n1.out);have HS2:=hE0 (h.below HB2.out);obtain⟨⟨c0,c1,c2,c3,c4,c5⟩,_,hlc⟩:=aa4 m1.out;obtain⟨⟨r0,r1,r2,r3,_⟩,_,hlr⟩:=aaS n2.out;have HU:=hE0 (acy (hv.below HB2.out) p (by omega));rw[hus]at HU;clear hus;have HF:=hE0 (am8 HS2.out hl xh);have HAP:=hE0 (fun W (hW:Below w.heap.size w W)=>afj (h.below hW) hl hlm p m cap h16 hpc hp16 hap);have HS:=hE0 h;have HBW:=hE0 hBw;obtain⟨n,hn⟩:=nmE l.length;have HN:=hE0 hn;rw[hn]at HF HAP hl ⊢;clear h hn hv hap hlm hBw h16;have gm:(m:Int)%100000=(m:Int):=by omega
 have hnm:((cn:Int)*(cm:Int))=((cn*cm:Nat):Int):=(Int.natCast_mul cn cm).symm;obtain⟨k,hk⟩:=nmE (cn*cm);have gz:decide ((0:Int)<(cn:Int))=false:=decide_eq_false (by omega);have gzn:decide (0<cn)=false:=decide_eq_false (by omega);clear hz;rw[hk]at hnm hcn;have g5:decide ((m:Int)<(k:Int))=false:=decide_eq_false (by omega);have g5n:decide (m<k)=false:=decide_eq_false (by omega);clear hk;go_enter Tryz.func107,Tryz.ntmps107
 go_wp2_with (first | (rw[ha1.out]) | (rw[ha2.out]) | fail)
 refine HF.out.mono ?_;rintro e w' ⟨rfl,r,rfl⟩;clear HF;go_wp2_with fail
 refine HU.out.mono ?_;rintro e v3 ⟨rfl,hb3⟩;have HB3:=hE0 (HB2.out.trans (hb3.mono HB2.out.size));have A3:=hE0 (HAP.out v3 HB3.out);have n3:=hE0 ((hb3.block _ (aaa n2.out)).trans n2.out);have m3:=hE0 ((hb3.block _ (aaa m1.out)).trans m1.out);clear hb3 HU c0 c1 c2 c3 c4 c5 r0 r1 r2 r3 hlc hlr;obtain⟨⟨c0,c1,c2,c3,c4,c5⟩,_,hlc⟩:=aa4 m3.out;obtain⟨⟨r0,r1,r2,r3,_⟩,_,hlr⟩:=aaS n3.out;rw[show aju 0= .nilIface from rfl];go_wp2_with fail
 refine A3.out.mono ?_;rintro e v4 ⟨rfl,hb4⟩;have HB4:=hE0 (HB3.out.trans (hb4.mono HB3.out.size));have n4:=hE0 ((hb4.block _ (aaa n3.out)).trans n3.out);have m4:=hE0 ((hb4.block _ (aaa m3.out)).trans m3.out);clear hb4 A3 HAP c0 c1 c2 c3 c4 c5 r0 r1 r2 r3 hlc hlr;obtain⟨⟨c0,c1,c2,c3,c4,c5⟩,_,hlc⟩:=aa4 m4.out;obtain⟨⟨r0,r1,r2,r3,_⟩,_,hlr⟩:=aaS n4.out;go_wp2_with fail
 go_quiet (fail)
 obtain⟨v5,hv5⟩:=nmE (v4.drewN nq);rw[hv5];have HBD5:Hid (Below v4.heap.size v4 v5):=by rw[<-hv5];exact abN _ _
 clear hv5 c0 c1 c2 c3 c4 c5 r0 r1 r2 r3 hlc hlr gz gzn;exact aio
theorem asG (h:Hs B w A c l) (hl:l.length<=1000) (xh cn cm ca:Nat) (xA:Option Addr) (bl xc:Nat) (p m rn:Nat) (rA:Option Addr) (rbl rc s0 s1 s2 s3 s4:Nat) (hv:PH w q g base cap Ah ch bs H) (hus:H.usableP p=(m,0)) (hlm:Lm l) (hcn:cn*cm<=m) (hm:m<=16384) (h16:p%16=0) (hpc:p+m<=cap) (hp16:cap<=16384) (hap:∀x∈l,x.p+x.b.length<=p\/p+m<=x.p) (hBw:B<=w.heap.size) (hz:0<cn):
 Calls Tryz.prog 107 #[.pointer (some ⟨q,0,none⟩), .slice A l.length c, .agg #[.int .i64 (2), .int .u64 (xh:Int), .int .u64 (cn:Int), .int .u64 (cm:Int), .int .u64 (ca:Int), .slice xA bl xc], .agg #[.int .i64 (0), .int .u64 (p:Int), .int .u64 (rn:Int), .slice rA rbl rc, .int .i64 (s0:Int), .int .i64 (s1:Int), .int .i64 (s2:Int), .int .i64 (s3:Int), .int .i64 (s4:Int)], .int .i64 (cap:Int)] w fun e w'=>MdT B A (l.map Hq.two++ [(p,List.replicate m 0)]) w e w':=by
 obtain⟨w1,ha1,n1,b1⟩:=acv w 43 (.int .i64 (2)) (.int .u64 (xh:Int)) (.int .u64 (cn:Int)) (.int .u64 (cm:Int)) (.int .u64 (ca:Int)) (.slice xA bl xc);obtain⟨w2,ha2,n2,b2⟩:=abx w1 50 (.int .i64 (0)) (.int .u64 (p:Int)) (.int .u64 (rn:Int)) (.slice rA rbl rc) (.int .i64 (s0:Int)) (.int .i64 (s1:Int)) (.int .i64 (s2:Int)) (.int .i64 (s3:Int)) (.int .i64 (s4:Int));have HB2:=hE0 (b1.out.trans (b2.out.mono b1.out.size));have m1:=hE0 ((b2.out.block _ (aaa n1.out)).trans n1.out);have HS2:=hE0 (h.below HB2.out);obtain⟨⟨c0,c1,c2,c3,c4,c5⟩,_,hlc⟩:=aa4 m1.out;obtain⟨⟨r0,r1,r2,r3,_⟩,_,hlr⟩:=aaS n2.out;have HU:=hE0 (acy (hv.below HB2.out) p (by omega));rw[hus]at HU;clear hus;have HF:=hE0 (am8 HS2.out hl xh);have HAP:=hE0 (fun W (hW:Below w.heap.size w W)=>afj (h.below hW) hl hlm p m cap h16 hpc hp16 hap);have HS:=hE0 h;have HBW:=hE0 hBw;obtain⟨n,hn⟩:=nmE l.length;have HN:=hE0 hn;rw[hn]at HF HAP hl ⊢;clear h hn hv hap hlm hBw h16;have gm:(m:Int)%100000=(m:Int):=by omega
 have hnm:((cn:Int)*(cm:Int))=((cn*cm:Nat):Int):=(Int.natCast_mul cn cm).symm;obtain⟨k,hk⟩:=nmE (cn*cm);have hov:cm<=18446744073709551615/cn:=by rw[Nat.le_div_iff_mul_le hz,Nat.mul_comm];omega
 have gq:decide ((18446744073709551615:Int)/(cn:Int)<(cm:Int))=false:=decide_eq_false (by
  have:((18446744073709551615/cn:Nat):Int)=(18446744073709551615:Int)/(cn:Int):=Int.natCast_ediv _ _;rw[<-this];omega)
 have gqn:decide (18446744073709551615/cn<cm)=false:=decide_eq_false (by omega);have gz:decide ((0:Int)<(cn:Int))=true:=decide_eq_true (by omega);have gzn:decide (0<cn)=true:=decide_eq_true hz;rw[hk]at hnm hcn;have g5:decide ((m:Int)<(k:Int))=false:=decide_eq_false (by omega);have g5n:decide (m<k)=false:=decide_eq_false (by omega);clear hk;go_enter Tryz.func107,Tryz.ntmps107
 go_wp2_with (first | (rw[ha1.out]) | (rw[ha2.out]) | fail)
 refine HF.out.mono ?_;rintro e w' ⟨rfl,r,rfl⟩;clear HF;go_wp2_with fail
 refine HU.out.mono ?_;rintro e v3 ⟨rfl,hb3⟩;have HB3:=hE0 (HB2.out.trans (hb3.mono HB2.out.size));have A3:=hE0 (HAP.out v3 HB3.out);have n3:=hE0 ((hb3.block _ (aaa n2.out)).trans n2.out);have m3:=hE0 ((hb3.block _ (aaa m1.out)).trans m1.out);clear hb3 HU c0 c1 c2 c3 c4 c5 r0 r1 r2 r3 hlc hlr;obtain⟨⟨c0,c1,c2,c3,c4,c5⟩,_,hlc⟩:=aa4 m3.out;obtain⟨⟨r0,r1,r2,r3,_⟩,_,hlr⟩:=aaS n3.out;rw[show aju 0= .nilIface from rfl];go_wp2_with fail
 refine A3.out.mono ?_;rintro e v4 ⟨rfl,hb4⟩;have HB4:=hE0 (HB3.out.trans (hb4.mono HB3.out.size));have n4:=hE0 ((hb4.block _ (aaa n3.out)).trans n3.out);have m4:=hE0 ((hb4.block _ (aaa m3.out)).trans m3.out);clear hb4 A3 HAP c0 c1 c2 c3 c4 c5 r0 r1 r2 r3 hlc hlr;obtain⟨⟨c0,c1,c2,c3,c4,c5⟩,_,hlc⟩:=aa4 m4.out;obtain⟨⟨r0,r1,r2,r3,_⟩,_,hlr⟩:=aaS n4.out;go_wp2_with fail
 go_quiet (fail)
 obtain⟨v5,hv5⟩:=nmE (v4.drewN nq);rw[hv5];have HBD5:Hid (Below v4.heap.size v4 v5):=by rw[<-hv5];exact abN _ _
 clear hv5 c0 c1 c2 c3 c4 c5 r0 r1 r2 r3 hlc hlr gq gqn gz gzn;exact aio
end
end Go.Proofs.YtncadccbepjekaaGreatDoor
