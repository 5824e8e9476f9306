/- Texts of mine, joined. -/
import Derived.RegionTactic
import Derived.ChangeAlike
import Derived.BigRegion
import Derived.Test.YtncadccbepjekaaGreatDoorP21
import Derived.Test.YtncadccbepjekaaGreatDoorP22
import Derived.Test.YtncadccbepjekaaGreatDoorP24
set_option maxRecDepth 100000
set_option maxHeartbeats 8000000
namespace Go.Proofs.YtncadccbepjekaaGreatDoor
open Go.RowKit
def acJ (b:List UInt8):Bool:=decide (b.length=512)&&decide (aow (slG b) (slN b) (slS b)=b)
def ahy (b:List UInt8) (v:Nat):Nat:=if acJ b=true then v else 0
theorem alW (b:List UInt8) (v:Nat) (y:Bool) (h:acJ b= !y):(if y=true then (0:Int) else (v:Int))=((ahy b v:Nat):Int):=by
 unfold ahy;rw[h]
 cases y<;>rfl
theorem afB (b:List UInt8) (v:Nat) (h:acJ b=false):(0:Int)=((ahy b v:Nat):Int):=by
 unfold ahy;rw[h];rfl
theorem aqo{b:List UInt8}(h:b.length=512):decide (aow (slG b) (slN b) (slS b)≠b)= !acJ b:=by
 unfold acJ;rw[decide_eq_true h,Bool.true_and];by_cases e:aow (slG b) (slN b) (slS b)=b
 · rw[decide_eq_true e,decide_eq_false (fun k=>k e)];rfl
 · rw[decide_eq_false e,decide_eq_true e];rfl
theorem aqp (w:World) (A:Option Addr) (n c:Nat) (b:List UInt8) (hr:Rd w w.heap.size A n b) (hnc:n<=c):
 Calls Tryz.prog 205 #[.slice A n c] w fun e w'=>e= .returned (.tuple #[.agg #[.int .u64 (ahy b (slG b):Int), .int .u64 (ahy b (slN b):Int), .int .u32 (ahy b (slS b):Int)], .bool (acJ b)])/\Below w.heap.size w w':=by
 by_cases hn:n=512
 · subst hn;refine(ap1 w A c b hr hnc _ _ _ rfl rfl rfl _ (aqo hr.1)).mono ?_;rintro e w' ⟨rfl,hb⟩;refine⟨?_,hb⟩;rw[alW b _ _ (Bool.not_not _).symm,alW b _ _ (Bool.not_not _).symm,alW b _ _ (Bool.not_not _).symm,Bool.not_not]
 · refine(ap0 w A n c hn).mono ?_;rintro e w' ⟨rfl,hb⟩;have h:acJ b=false:=by unfold acJ;rw[decide_eq_false (by rw[hr.1];exact hn)];rfl
   refine⟨?_,hb⟩;rw[<-afB b _ h,<-afB b _ h,<-afB b _ h,h]
theorem aqq{g n s:Nat}(hy:akX g n=true) (hs:s<4294967296):acJ (abQ g n s)=true/\ahy (abQ g n s) (slG (abQ g n s))=g/\ahy (abQ g n s) (slN (abQ g n s))=n/\ahy (abQ g n s) (slS (abQ g n s))=s:=by
 have h:=hy;unfold akX at h;simp only[Bool.and_eq_true,decide_eq_true_eq]at h;obtain⟨e1,e2,e3⟩:=aqc (g:=g) (n:=n) (s:=s) (by omega) (by omega) hs;have hr:acJ (abQ g n s)=true:=by
  unfold acJ;rw[e1,e2,e3,decide_eq_true (aea g n s),Bool.true_and];unfold aow;rw[if_pos hy,decide_eq_true rfl]
 unfold ahy;rw[if_pos hr,if_pos hr,if_pos hr];exact⟨hr,e1,e2,e3⟩
theorem alX:acJ (List.replicate 512 0)=false:=by
 have e:slG (List.replicate 512 0)=0:=by unfold slG;rw[List.drop_replicate,List.take_replicate];rfl
 have hk:∀n,¬akX 0 n=true:=fun n h=>by unfold akX at h;cases h
 unfold acJ aow;rw[e,if_neg (hk _)];rw[decide_eq_false (fun h: []=List.replicate 512 (0:UInt8)=>by have:=congrArg List.length h;rw[List.length_replicate]at this;cases this),Bool.and_false]
theorem ajh{b:List UInt8}(h:acJ b=true):aow (slG b) (slN b) (slS b)=b/\ahy b (slG b)=slG b/\ahy b (slN b)=slN b/\ahy b (slS b)=slS b:=by
 unfold ahy;rw[if_pos h,if_pos h,if_pos h];unfold acJ at h;rw[Bool.and_eq_true]at h;exact⟨of_decide_eq_true h.2,rfl,rfl,rfl⟩
theorem avj (b:List UInt8):slS b<4294967296:=by
 have h:=agl ((b.drop 24).take 4);have e:((b.drop 24).take 4).length<=4:=by rw[List.length_take];omega
 have:(256:Nat)^((b.drop 24).take 4).length<=256^4:=Nat.pow_le_pow_right (by omega) e;unfold slS;omega
structure Sk where
 G:Nat
 N:Nat
 S:Nat
 ok:Bool
 n:Nat
 l:List Rk
 d:List (List UInt8)
def arb:Sk:=⟨0,0,0,false,0,[],[]⟩
def asn (G N S s:Nat) (Γ:Nat × Nat × List Rk × List (List UInt8)):Sk:=
 if Γ.1=0/\s=S then ⟨G,N,S,true,Γ.2.1,Γ.2.2.1,Γ.2.2.2⟩ else ⟨G,N,S,false,0,[],[]⟩
def amW (b:List UInt8) (half:Nat) (a:Nat->List UInt8):Sk:=
 if acJ b=false then arb else
 if 512*(half-1)<slN b then ⟨slG b,slN b,slS b,false,0,[],[]⟩ else asn (slG b) (slN b) (slS b) (abZ 0 (a (slN b))) (afc (a (slN b)))
def adC (bs:List UInt8) (wt:List (Nat × List UInt8)) (half k:Nat):Sk:=
 amW (abB bs wt (k*half)) half (fun n=>(adw bs wt (k*half+1) (need n)).take n)
def skV (s:Sk) (A1:Option Addr) (c1:Nat) (A2:Option Addr) (c2:Nat):Value:= .agg #[.int .u64 (s.G:Int), .int .u64 (s.N:Int), .int .u32 (s.S:Int), .bool s.ok, .int .i64 (s.n:Int), .slice A1 s.l.length c1, .slice A2 s.d.length c2]
theorem as9{b:List UInt8}(h:acJ b=true):slG b<=4611686018427387904/\slN b<=65536:=by
 unfold acJ at h;rw[Bool.and_eq_true]at h;have h1:=of_decide_eq_true h.1;have h2:=of_decide_eq_true h.2;unfold aow at h2;by_cases hk:akX (slG b) (slN b)=true
 · unfold akX at hk;simp only[Bool.and_eq_true,decide_eq_true_eq]at hk;exact⟨hk.2.1,hk.2.2⟩
 · rw[if_neg hk]at h2;rw[<-h2]at h1
   cases h1
theorem RkRd.offS{w w':World}{B g:Nat}{A:Option Addr}{l:List Rk}{t:TypeId}{fr:Nat × Nat}{a b c e:Int}{f:Bool}{A1 A2:Option Addr}{n1 k1 n2 k2:Nat}(h:RkRd w B A l) (hg:w.heap[g]?=some (.cells #[.int .u64 a, .int .u64 b, .int .u32 c, .bool f, .int .i64 e, .slice A1 n1 k1, .slice A2 n2 k2] t fr)) (hk:∀k,k≠g->w'.heap[k]?=w.heap[k]?):RkRd w' B A l:=fun hn=>by
 obtain⟨b,o,e,hB,hc⟩:=h hn;have hbg:b≠g:=by
  intro e2;subst e2;obtain⟨x,hx⟩:∃x,l[0]?=some x:=⟨l[0]'hn,List.getElem?_eq_getElem _⟩;obtain⟨h0,h1,_⟩:=hc 0 x hx;rw[cell_of_row _ _ _ _ _ _ hg]at h0 h1;rcases o with _ | _ | _ | _ | _ | _ | _ | o<;>simp at h0 h1
 refine⟨b,o,e,hB,fun j x hx=> ?_⟩;obtain⟨h0,h1,h2,h3⟩:=hc j x hx;have hh:=hk b hbg;refine⟨?_,?_,?_,h3⟩
 · rw[<-h0];simp[World.cell?,hh]
 · rw[<-h1];simp[World.cell?,hh]
 · rw[<-h2];simp[World.cell?,hh]
theorem Rd.offS{w w':World}{B g n:Nat}{A:Option Addr}{l:List UInt8}{t:TypeId}{fr:Nat × Nat}{a b c e:Int}{f:Bool}{A1 A2:Option Addr}{n1 k1 n2 k2:Nat}(h:Rd w B A n l) (hg:w.heap[g]?=some (.cells #[.int .u64 a, .int .u64 b, .int .u32 c, .bool f, .int .i64 e, .slice A1 n1 k1, .slice A2 n2 k2] t fr)) (hk:∀k,k≠g->w'.heap[k]?=w.heap[k]?):Rd w' B A n l:=by
 refine⟨h.1,fun hn=> ?_⟩;obtain⟨b,o,e,hB,hc⟩:=h.2 hn;have hbg:b≠g:=by
  intro e2;subst e2;obtain⟨x,hx⟩:∃x,l[0]?=some x:=⟨l[0]'(by rw[h.1];exact hn),List.getElem?_eq_getElem _⟩;have h0:=hc 0 x hx;rw[cell_of_row _ _ _ _ _ _ hg]at h0;rcases o with _ | _ | _ | _ | _ | _ | _ | o<;>simp at h0
 refine⟨b,o,e,hB,fun j x hx=> ?_⟩;have hh:=hk b hbg;rw[<-hc j x hx];simp[World.cell?,hh]
theorem DtRd.offS{w w':World}{B g:Nat}{A:Option Addr}{l:List (List UInt8)}{t:TypeId}{fr:Nat × Nat}{a b c e:Int}{f:Bool}{A1 A2:Option Addr}{n1 k1 n2 k2:Nat}(h:DtRd w B A l) (hA:∀a,A=some a->a.block≠g) (hg:w.heap[g]?=some (.cells #[.int .u64 a, .int .u64 b, .int .u32 c, .bool f, .int .i64 e, .slice A1 n1 k1, .slice A2 n2 k2] t fr)) (hk:∀k,k≠g->w'.heap[k]?=w.heap[k]?):DtRd w' B A l:=fun hn=>by
 obtain⟨b,o,e,hB,hc⟩:=h hn;refine⟨b,o,e,hB,fun j x hx=> ?_⟩;obtain⟨A',k,h1,h2,h3⟩:=hc j x hx;have hh:=hk b (hA _ e);exact⟨A',k,by rw[<-h1];simp[World.cell?,hh],h2.offS hg hk,h3⟩
section
variable {S:Nat->Prop} {w:World} {g:Nat} {L:Option Addr} {cl:Nat} {W:Option Addr} {cw:Nat} {ls ws:List Wr} {left:Int} {off:Bool}
end
def ag2 (x y:Sk):Int:=if x.ok=true/\(y.ok=false\/y.G<=x.G) then 0 else if y.ok=true then 1 else-1
section
variable {S:Nat->Prop} {w:World} {g:Nat} {L:Option Addr} {cl:Nat} {W:Option Addr} {cw:Nat} {ls ws:List Wr} {left:Int} {off:Bool}
def avk (x y:Sk) (base:Nat) (cap:Int):Nat × Nat × List Rk × List (List UInt8):=
 if ag2 x y<0 then (8,0,[],[]) else
 if ¬(base%16=0/\base<=4611686018427387904/\1024<=cap/\cap<=16384) then (1,0,[],[]) else
 if ag2 x y=0 then (if cap<(x.n:Int) then (10,0,[],[]) else (0,x.n,x.l,x.d)) else (if cap<(y.n:Int) then (10,0,[],[]) else (0,y.n,y.l,y.d))
theorem aig (x y:Sk):ag2 x y= -1\/ag2 x y=0\/ag2 x y=1:=by
 unfold ag2;split
 · exact .inr (.inl rfl)
 · split
   · exact .inr (.inr rfl)
   · exact .inl rfl
theorem aue{w w':World}{g:Nat}{A1 A2:Option Addr}{l:List Rk}{d:List (List UInt8)}{t:TypeId}(h:RkRd w w.heap.size A1 l/\DtRd w w.heap.size A2 d) (hA:∀a,A2=some a->a.block≠g) (hg:w.heap[g]?=some (.cells #[.int .i64 0, .slice none 0 0, .slice none 0 0] t (0,0))) (hs:w'.heap.size=w.heap.size) (hk:∀k,k≠g->w'.heap[k]?=w.heap[k]?):RkRd w' w'.heap.size A1 l/\DtRd w' w'.heap.size A2 d:=by
 rw[hs];refine⟨h.1.off hg hk,fun hn=> ?_⟩;obtain⟨b,o,e,hB,hc⟩:=h.2 hn;refine⟨b,o,e,hB,fun j y hy=> ?_⟩;obtain⟨A',k,h1,h2,h3⟩:=hc j y hy;refine⟨A',k,by rw[<-h1];simp[World.cell?,hk b (hA _ e)],⟨h2.1,fun hn=> ?_⟩,h3⟩;obtain⟨b2,o2,e2,hB2,hc2⟩:=h2.2 hn;have hbg:b2≠g:=by
  intro e3;subst e3;obtain⟨u,hu⟩:∃u,y[0]?=some u:=⟨y[0]'hn,List.getElem?_eq_getElem _⟩;have h0:=hc2 0 u hu;rw[cell_of_row _ _ _ _ _ _ hg]at h0;rcases o2 with _ | _ | _ | o2<;>simp at h0
 exact⟨b2,o2,e2,hB2,fun j u hu=>by rw[<-hc2 j u hu];simp[World.cell?,hk b2 hbg]⟩
end
def Find (s:Sk) (w:World) (e:Ending) (w':World):Prop:=
 ∃A1 c1 A2 c2,e= .returned (.tuple #[skV s A1 c1 A2 c2, .nilIface])/\RkRd w' w'.heap.size A1 s.l/\DtRd w' w'.heap.size A2 s.d/\(∀a,A2=some a->w.heap.size<=a.block)/\Below w.heap.size w w'
theorem Find.plain{w w':World}(G N S:Nat){e:Ending}(he:e= .returned (.tuple #[.agg #[.int .u64 (G:Int), .int .u64 (N:Int), .int .u32 (S:Int), .bool false, .int .i64 0, .slice none 0 0, .slice none 0 0], .nilIface])) (hb:Below w.heap.size w w'):Find ⟨G,N,S,false,0,[],[]⟩ w e w':=
 ⟨none,0,none,0,he,fun h=>absurd h (by simp),fun h=>absurd h (by simp),fun _ h=>(by cases h),hb⟩
theorem aqr{fn:Func}{R:Ending->World->Prop}{a:Act}{w:World}{p u:Tmp}{g:Nat}{x y0 y1 y2 y3 y4 y5 y6:Value}(hres:fn.results= #[.cell p 148, .tmp u]) (hp:a.tmps.getD p undef= .pointer (some ⟨g,0,none⟩)) (hx:a.tmps.getD u undef=x) (hd:a.defers= [])
 (hg:w.heap[g]?=some (.cells #[y0,y1,y2,y3,y4,y5,y6] 148 (0,0))) (hR:R (.returned (.tuple #[.agg #[y0,y1,y2,y3,y4,y5,y6],x])) w):bodyPost Tryz.prog fn R .ret a w:=by
 obtain⟨⟨c0,c1,c2,c3,c4,c5,c6⟩,_⟩:=ahW hg;refine bodyPost_ret (v:= .tuple #[.agg #[y0,y1,y2,y3,y4,y5,y6],x]) ?_ hd hR;rw[results_cell_tmp hres,hp,hx];simp[go_sem,c0,c1,c2,c3,c4,c5,c6]
theorem aso{b:List UInt8}(h:(afc b).1≠0):(afc b).2=(0,[],[]):=by
 unfold afc at h ⊢;repeat' split
 all_goals first
  | rfl
  | (exfalso;simp_all)
theorem amX{G N S s:Nat}{Γ:Nat × Nat × List Rk × List (List UInt8)}(h:¬(Γ.1=0/\s=S)):asn G N S s Γ=⟨G,N,S,false,0,[],[]⟩:=if_neg h
section
variable {N:Nat} {S:Nat->Prop} {w:World} {g:Nat} {s:Dst}
theorem DS.sectors (h:DS N S w g s) (hN2:N<=128):Calls Tryz.prog 147 #[.pointer (some ⟨g,0,none⟩)] w fun e w'=>e= .returned (.int .i64 (N:Int))/\w=w':=by
 obtain⟨q,c,W,cw,ws,k,e1,e2,hs⟩:=h;have:=ad2 k (by omega);rw[e2,Nat.mul_div_cancel_left _ (by omega)]at this;exact this
theorem ag3 (h:DS N S w g s) (hN2:N<=128) (half:Nat) (hh:N/2=half):
 Calls Tryz.prog 83 #[.pointer (some ⟨g,0,none⟩)] w fun e w'=>e= .returned (.int .i64 (half:Int))/\w=w':=by
 have HS:=hE0 (h.sectors hN2);have hhi:(N:Int)/2=(half:Int):=by omega
 clear h;go_enter Tryz.func83,Tryz.ntmps83
 go_wp2_with fail
 refine HS.out.mono ?_;rintro e w1 ⟨rfl,rfl⟩;go_wp2
 go_ret
 exact⟨apc (by omega),rfl⟩
theorem akz (h:DS N S w g s) (hN2:N<=128) (half M:Nat) (hh:N/2=half) (h1:1<=half) (hM:512*(half-1)=M):
 Calls Tryz.prog 80 #[.pointer (some ⟨g,0,none⟩)] w fun e w'=>e= .returned (.int .i64 (M:Int))/\w=w':=by
 have HS:=hE0 (ag3 h hN2 half hh);clear h;go_enter Tryz.func80,Tryz.ntmps80
 go_wp2_with fail
 refine HS.out.mono ?_;rintro e w1 ⟨rfl,rfl⟩;go_wp2
 go_ret
 exact⟨apc (by omega),rfl⟩
end
theorem ata{fn:Func}{R:Ending->World->Prop}{a:Act}{w:World}{p u:Tmp}{g:Nat}{x y0 y1 y2:Value}(hres:fn.results= #[.cell p 107, .tmp u]) (hp:a.tmps.getD p undef= .pointer (some ⟨g,0,none⟩)) (hx:a.tmps.getD u undef=x) (hd:a.defers= [])
 (hg:w.heap[g]?=some (.cells #[y0,y1,y2] 107 (0,0))) (hR:R (.returned (.tuple #[.agg #[y0,y1,y2],x])) w):bodyPost Tryz.prog fn R .ret a w:=by
 obtain⟨⟨c0,c1,c2⟩,_⟩:=ad4 hg;refine bodyPost_ret (v:= .tuple #[.agg #[y0,y1,y2],x]) ?_ hd hR;rw[results_cell_tmp hres,hp,hx];simp[go_sem,c0,c1,c2]
theorem an6 (w:World) (A:Option Addr) (n c:Nat) (b:List UInt8) (hr:Rd w w.heap.size A n b) (hnc:n<=c) (hc:c<=9223372036854775807) (hn:n<=900000) (G Q M:Nat) (hM:M<4294967296) (k:Sk) (hk:asn G Q M (abZ 0 b) (afc b)=k):
 Calls Tryz.prog 207 #[.slice A n c, .int .u32 (M:Int)] w fun e w'=>∃A1 c1 A2 c2,e= .returned (.tuple #[.agg #[.int .i64 (k.n:Int), .slice A1 k.l.length c1, .slice A2 k.d.length c2], .bool k.ok])/\RkRd w' w'.heap.size A1 k.l/\DtRd w' w'.heap.size A2 k.d/\(∀a,A2=some a->w.heap.size<=a.block)/\Below w.heap.size w w':=by
 obtain⟨w1,ha1,n1,b1⟩:=aj2 w 107 (.int .i64 0) (.slice none 0 0) (.slice none 0 0);have hr1:=(hr.below b1.out).more b1.out.size;obtain⟨sm,hsm⟩:=nmE (abZ 0 b);have hsml:sm<4294967296:=by rw[<-hsm];exact aeh _ _
 have hs:=ago A n c w1.heap.size b w1 hr1 (by omega);rw[hsm]at hs hk;have HS:=hE0 hs;have HG:=hE0 (anU w1 A n c w1.heap.size b hr1 (Nat.le_refl _) hnc hc hn);obtain⟨Γ,hΓ⟩:=nmE (afc b);have hge:Γ.1≠0->Γ.2=(0,[],[]):=by rw[<-hΓ];exact aso
 rw[hΓ]at HG hk;have HK:=hE0 hk;have HGE:=hE0 hge;clear hr hr1 hs hsm hΓ hk hge;obtain⟨kd,im,il,id⟩:=Γ;dsimp only at HG HK HGE;obtain⟨i1,hi1⟩:=nmE il.length;obtain⟨i2,hi2⟩:=nmE id.length;rw[hi1,hi2]at HG;have HI1:=hE0 hi1;have HI2:=hE0 hi2;clear hi1 hi2;by_cases he:sm=M
 · subst he;have gs:((sm:Int)==(sm:Int))=true:=by simp
   go_enter Tryz.func207,Tryz.ntmps207
   go_wp2_with (first | (rw[ha1.out]) | fail)
   refine HS.out.mono ?_;rintro e w2 ⟨rfl,rfl⟩;go_wp2_with fail
   refine HG.out.mono ?_;rintro e w2 ⟨A9,B9,a9,c9,rfl,hr9,hd9,hA9,b9⟩;have n2:=hE0 ((b9.block _ (aaa n1.out)).trans n1.out);have HA9:Hid (∀a,B9=some a->w.heap.size<a.block):=(show ∀a,_->_ from fun a e=>by have:=hA9 a e;have:=aaa n1.out;omega);have HB2:=hE0 (b1.out.trans (b9.mono b1.out.size));obtain⟨wa,ha2,m2,b2⟩:=aj2 w2 107 (.int .i64 0) (.slice none 0 0) (.slice none 0 0);obtain⟨wb,hp2,m3,b3,⟨z0,z1,z2⟩,⟨e0,e1,e2⟩,hle⟩:=auG m2 (.int .i64 (im:Int)) (.slice A9 i1 a9) (.slice B9 i2 c9);have hb23:=b3.out w2.heap.size w2 (Nat.le_refl _) b2.out;have HB3:=hE0 (HB2.out.trans (hb23.mono HB2.out.size));have n3:=hE0 ((hb23.block _ (aaa n2.out)).trans n2.out);have HIM:Hid (RkRd wb wb.heap.size A9 il/\DtRd wb wb.heap.size B9 id):=⟨(hr9.below hb23).more hb23.size,(hd9.below hb23).more hb23.size⟩;clear hr9 hd9 hA9 b9 hb23 HG;have hev:(ajt kd= .nilIface/\kd=0)\/(ajt kd= .iface 130 (.int .i64 (kd:Int))/\kd≠0):=by
    unfold ajt;by_cases h:kd=0
    · exact .inl ⟨if_pos h,h⟩
    · exact .inr ⟨if_neg h,h⟩
   rcases hev with⟨e,h0⟩ | ⟨e,h0⟩;all_goals
    rw[e];have H0:=hE0 h0;clear e h0;go_wp2_with (first | (rw[ha2.out]) | (rw[hp2.out]) | fail)
    clear z0 z1 z2 e0 e1 e2 hle;obtain⟨⟨t0,t1,t2⟩,_,hlt⟩:=ad4 m3.out;obtain⟨wz,hz,nz,bz,⟨u0,u1,u2⟩,⟨g0,g1,g2⟩,hlu⟩:=auG n3 (.int .i64 (im:Int)) (.slice A9 i1 a9) (.slice B9 i2 c9);have HFIN:Hid (RkRd wz wz.heap.size A9 il/\DtRd wz wz.heap.size B9 id):=aue HIM.out (fun a e=>by have:=HA9.out a e;omega) n3.out (by rw[<-hz.out];simp[World.setCell]) (fun k hk=>by rw[<-hz.out,heap_setCell_other _ _ _ _ hk,heap_setCell_other _ _ _ _ hk,heap_setCell_other _ _ _ _ hk]);go_region
    all_goals
     go_wp2_with (first | (rw[hz.out]) | fail)
    refine ata (g:=w.heap.size) Tryz.results207 rfl rfl rfl nz.out ?_;have hk:=HK.out;have hbd:Below wz.heap.size wz wz.drew:=(Below.refl _ _).drew;first
     | (have h0:kd=0:=H0.out
        unfold asn at hk;rw[if_pos ⟨h0,rfl⟩]at hk;subst hk;exact⟨A9,a9,B9,c9,by dsimp only;rw[HI1.out,HI2.out];rfl,HFIN.out.1.below hbd,HFIN.out.2.below hbd,(fun a e=>Nat.le_of_lt (HA9.out a e)),(bz.out _ _ (Nat.le_refl _) HB3.out).drew⟩)
     | (have h0:kd≠0:=H0.out
        rw[amX (fun h=>h0 h.1)]at hk;subst hk;have he:=HGE.out h0;injection he with e1 e2;injection e2 with e2 e3;subst e1 e2 e3;exact⟨A9,a9,B9,c9,by dsimp only;rw[HI1.out,HI2.out];rfl,HFIN.out.1.below hbd,HFIN.out.2.below hbd,(fun a e=>Nat.le_of_lt (HA9.out a e)),(bz.out _ _ (Nat.le_refl _) HB3.out).drew⟩)
 · have gs:((sm:Int)==(M:Int))=false:=by rw[beq_eq_false_iff_ne];omega
   have hk:=HK.out;rw[amX (fun h=>he h.2)]at hk;subst hk;obtain⟨wz,hz,nz,bz,⟨u0,u1,u2⟩,⟨g0,g1,g2⟩,hlu⟩:=auG n1 (.int .i64 0) (.slice none 0 0) (.slice none 0 0);clear he HK HGE HG;go_enter Tryz.func207,Tryz.ntmps207
   go_wp2_with (first | (rw[ha1.out]) | fail)
   refine HS.out.mono ?_;rintro e w2 ⟨rfl,rfl⟩;go_wp2_with (first | (rw[hz.out]) | fail)
   (try simp only[Exit.inBlock,Exit.then])
   refine ata (g:=w.heap.size) (x:= .bool false) Tryz.results207 ?_ ?_ ?_ nz.out ?_
   · rfl
   · rfl
   · rfl
   · exact⟨none,0,none,0,rfl,fun h=>absurd h (by simp),fun h=>absurd h (by simp),fun _ h=>(by cases h),bz.out _ _ (Nat.le_refl _) b1.out⟩
section
variable {N:Nat} {S:Nat->Prop} {w:World} {g:Nat} {s:Dst}
theorem amY (h:DS N S w g s) (hN2:N<=128) (ho:s.off=false) (half:Nat) (hh:N/2=half) (h1:1<=half) (p:Nat) (hp2:p+half<=N) (sk:Sk) (hsk:amW (abB s.bs s.wt p) half (fun n=>(adw s.bs s.wt (p+1) (need n)).take n)=sk):
 Calls Tryz.prog 143 #[.pointer (some ⟨g,0,none⟩), .int .i64 (p:Int)] w fun e w'=>Find sk w e w':=by
 obtain⟨w1,ha1,n1,b1⟩:=apl w 148 (.int .u64 0) (.int .u64 0) (.int .u32 0) (.bool false) (.int .i64 0) (.slice none 0 0) (.slice none 0 0);have hrd:=(h.below b1.out).read hN2 ho p (by omega);obtain⟨b,hb⟩:=nmE (abB s.bs s.wt p);have hb5:b.length=512:=by
  obtain⟨_,_,_,_,ws,k,e1,e2,_⟩:=h;rw[<-hb,<-e1];exact acY _ _ _ k.fits (by omega)
 unfold arr at hrd;rw[hb,hb5]at hrd;rw[hb]at hsk;have HRD:=hE0 hrd;obtain⟨M,hM⟩:=nmE (512*(half-1));have hMl:M<=65536:=by omega
 have HROOM:=hE0 (fun W (hW:Below w.heap.size w W)=>akz (h.below hW) hN2 half M hh h1 hM);have HREADS:=hE0 (fun W (hW:Below w.heap.size w W) (Q:Nat) (hQ:Q<=M)=>(h.below hW).reads hN2 ho (p+1) Q (by unfold need;omega));have HSK:=hE0 hsk;have HM:=hE0 hM;have hpl:p<=128:=by omega
 clear h hrd hb hsk hh h1 hp2 hM;go_enter Tryz.func143,Tryz.ntmps143
 go_wp2_with (first | (rw[ha1.out]) | fail)
 refine HRD.out.mono ?_;rintro e w2 ⟨A2,c2,rfl,o2,b2⟩;have hc2:=apE o2;unfold maxLen at hc2;have HB2:=hE0 (b1.out.trans (b2.mono b1.out.size));have HG:=hE0 (aqp w2 A2 512 c2 b (acS o2) hc2.1);have n2:=hE0 ((b2.block _ (aaa n1.out)).trans n1.out);clear o2 b2 HRD hc2;go_wp2_with fail
 refine HG.out.mono ?_;rintro e w3 ⟨rfl,hb3⟩;obtain⟨ok,hok⟩:=nmE (acJ b);obtain⟨G,hG⟩:=nmE (ahy b (slG b));obtain⟨Q,hQ⟩:=nmE (ahy b (slN b));obtain⟨C,hC⟩:=nmE (ahy b (slS b));have HOK:Hid (acJ b=ok/\ahy b (slG b)=G/\ahy b (slN b)=Q/\ahy b (slS b)=C):=⟨hok,hG,hQ,hC⟩;rw[hok,hG,hQ,hC];have HB3:=hE0 (HB2.out.trans (hb3.mono HB2.out.size));have n3:=hE0 ((hb3.block _ (aaa n2.out)).trans n2.out);obtain⟨w4,ha4,m4,b4⟩:=aj2 w3 146 (.int .u64 0) (.int .u64 0) (.int .u32 0);obtain⟨w5,hp5,m5,b5,⟨z0,z1,z2⟩,⟨e0,e1,e2⟩,hle⟩:=auG m4 (.int .u64 (G:Int)) (.int .u64 (Q:Int)) (.int .u32 (C:Int));have hb5':=b5.out w3.heap.size w3 (Nat.le_refl _) b4.out;have HB5:=hE0 (HB3.out.trans (hb5'.mono HB3.out.size));have n5:=hE0 ((hb5'.block _ (aaa n3.out)).trans n3.out);clear hb3 hb5' HG hok hG hQ hC;have HPLAIN:Hid (acJ b=false\/(acJ b=true/\M<Q)->sk=⟨G,Q,C,false,0,[],[]⟩):=(show _->_ from fun hc=>by
  obtain⟨h1,h2,h3,h4⟩:=HOK.out;have hsk:=HSK.out;unfold amW at hsk;rcases hc with hc | ⟨hc,hf⟩
  · rw[if_pos hc]at hsk;subst hsk;have a1:=afB b (slG b) hc;have a2:=afB b (slN b) hc;have a3:=afB b (slS b) hc;have b1:G=0:=by omega
    have b2:Q=0:=by omega
    have b3:C=0:=by omega
    subst b1 b2 b3;rfl
  · obtain⟨-,f1,f2,f3⟩:=ajh hc;rw[f1]at h2;rw[f2]at h3;rw[f3]at h4;rw[if_neg (by rw[hc];decide),h2,h3,h4,if_pos (by rw[HM.out];exact hf)]at hsk;exact hsk.symm)
 go_wp2_with (first | (rw[ha4.out]) | (rw[hp5.out]) | fail)
 clear z0 z1 z2 e0 e1 e2 hle
 cases ok with
 | false=>
  have e:=HPLAIN.out (.inl HOK.out.1);subst e;clear HPLAIN;go_quiet (fail)
  obtain⟨wk,hwk⟩:=nmE (w5.drewN nq);have hbk:Below w5.heap.size w5 wk:=by rw[<-hwk];exact abN _ _
  have n6:=hE0 ((hbk.block _ (aaa n5.out)).trans n5.out);obtain⟨⟨v0,v1,v2⟩,_,hlv⟩:=ad4 ((hbk.block _ (aaa m5.out)).trans m5.out);have HB6:=hE0 (HB5.out.trans (hbk.mono HB5.out.size));rw[hwk];clear hwk hbk;obtain⟨wz,hz,nz,bz,⟨u0,u1,u2,u3,u4,u5,u6⟩,⟨g0,g1,g2,g3,g4,g5,g6⟩,hlu⟩:=au7 n6 (.int .u64 (G:Int)) (.int .u64 (Q:Int)) (.int .u32 (C:Int)) (.bool false) (.int .i64 0) (.slice none 0 0) (.slice none 0 0);go_wp2_with (first | (rw[hz.out]) | fail)
  (try simp only[Exit.inBlock,Exit.then])
  refine aqr (g:=w.heap.size) (x:= .nilIface) Tryz.results143 ?_ ?_ ?_ nz.out ?_
  · rfl
  · rfl
  · rfl
  · exact Find.plain G Q C rfl (bz.out _ _ (Nat.le_refl _) HB6.out)
 | true=>
  have hrec:=as9 HOK.out.1;obtain⟨-,f1,f2,f3⟩:=ajh HOK.out.1;obtain⟨-,k1,k2,k3⟩:=HOK.out;have hQl:Q<=65536:=by rw[<-k2,f2];exact hrec.2
  have hCl:C<4294967296:=by rw[<-k3,f3];exact avj b
  have k1':slG b=G:=f1.symm.trans k1;have k2':slN b=Q:=f2.symm.trans k2;have k3':slS b=C:=f3.symm.trans k3;have HKK:Hid (slG b=G/\slN b=Q/\slS b=C):=⟨k1',k2',k3'⟩;clear hrec f1 f2 f3 k1 k2 k3 k1' k2' k3';obtain⟨y,gy⟩:=nmE (decide (M<Q));have gy':decide ((M:Int)<(Q:Int))=y:=by rw[<-gy];exact decide_eq_decide.2 (by omega)
  have GY:=hE0 gy;obtain⟨wd,hwd⟩:=nmE w5.drew;have hbd:=adE hwd;have n6:=hE0 ((hbd.block _ (aaa n5.out)).trans n5.out);have m6:=hE0 ((hbd.block _ (aaa m5.out)).trans m5.out);have HB6:=hE0 (HB5.out.trans (hbd.mono HB5.out.size));refine aao wd.heap.size [([0,1,2,3,4,5],6)] [7,8,9] [] (by kernel_rfl) (by kernel_rfl) (by kernel_rfl) (fun _ _ _ _ _ h=>h) ?_;rw[hwd];clear hwd hbd;obtain⟨⟨t0,t1,t2⟩,_,hlt⟩:=ad4 m6.out;have q1:=tfE t1 hlt;refine tail_cons (l:= ?segA) ?hsegA ?_
  case hsegA=>simp only[pick,lE1,lE2,lE3];rfl
  repeat (go_big_quiet_step (fail))
  refine wpQuiet_nil ?_;clear q1 t0 t1 t2 hlt;refine afn (vs:= #[.pointer (some ⟨g,0,none⟩)]) Tryz.call80 rfl rfl rfl (R:=fun r w'=>r= .int .i64 (M:Int)/\wd=w') ((HROOM.out wd HB6.out).mono ?_) ?_
  · rintro e w' ⟨rfl,rfl⟩;exact⟨_,rfl,Below.refl _ _,rfl,rfl⟩
  rintro r w' _ ⟨rfl,rfl⟩;refine⟨wd.heap.size,Nat.le_refl _,?_⟩;simp only[Act.put,lE4,lE5,lE6];refine aaH (l:= ?lastB) (t:= []) ?hlastB rfl ?_
  case hlastB=>simp only[pick,lE1,lE2,lE3];rfl
  repeat (go_big_quiet_step (fail))
  refine wpQuiet_nil ?_;clear gy gy'
  cases y with
  | true=>
   have e:=HPLAIN.out (.inr ⟨HOK.out.1,of_decide_eq_true GY.out⟩);subst e;clear HPLAIN;obtain⟨⟨v0,v1,v2⟩,_,hlv⟩:=ad4 m6.out;obtain⟨wz,hz,nz,bz,⟨u0,u1,u2,u3,u4,u5,u6⟩,⟨g0,g1,g2,g3,g4,g5,g6⟩,hlu⟩:=au7 n6 (.int .u64 (G:Int)) (.int .u64 (Q:Int)) (.int .u32 (C:Int)) (.bool false) (.int .i64 0) (.slice none 0 0) (.slice none 0 0);go_wp2_with (first | (rw[hz.out]) | fail)
   (try simp only[Exit.inBlock,Exit.then])
   refine aqr (g:=w.heap.size) (x:= .nilIface) Tryz.results143 ?_ ?_ ?_ nz.out ?_
   · rfl
   · rfl
   · rfl
   · exact Find.plain G Q C rfl (bz.out _ _ (Nat.le_refl _) HB6.out)
  | false=>
   have hQM:Q<=M:=Nat.le_of_not_lt (of_decide_eq_false GY.out);obtain⟨o,hob⟩:=nmE ((adw s.bs s.wt (p+1) (need Q)).take Q);have hrds:=HREADS.out wd HB6.out Q hQM;unfold arr at hrds;rw[hob]at hrds;have hsk:asn G Q C (abZ 0 o) (afc o)=sk:=by
    have hsk:=HSK.out;obtain⟨k1,k2,k3⟩:=HKK.out;unfold amW at hsk;rw[if_neg (by rw[HOK.out.1];decide),k1,k2,k3,if_neg (by rw[HM.out];exact Nat.not_lt.2 hQM)]at hsk;dsimp only at hsk;rw[hob]at hsk;exact hsk
   have HSK2:=hE0 hsk;have HRDS:=hE0 hrds;have hQi:Hid (((p:Int)+1)=((p+1:Nat):Int)):=(show _=_ from rfl);obtain⟨ol,hol⟩:=nmE o.length;have holl:ol<=65536:=by rw[<-hol,<-hob,List.length_take];omega
   rw[hol]at HRDS;obtain⟨⟨v0,v1,v2⟩,_,hlv⟩:=ad4 m6.out;clear hrds hsk hob hol HREADS HROOM HPLAIN;go_wp2_with fail
   rw[hQi.out];refine HRDS.out.mono ?_;rintro e w8 ⟨A8,c8,rfl,o8,b8⟩;have hc8:=apE o8;unfold maxLen at hc8;have HB8:=hE0 (HB6.out.trans (b8.mono HB6.out.size));have n8:=hE0 ((b8.block _ (aaa n6.out)).trans n6.out);have m8:=hE0 ((b8.block _ (aaa m6.out)).trans m6.out);have HIM:=hE0 (an6 w8 A8 ol c8 o (acS o8) hc8.1 (by omega) (by omega) G Q C hCl sk HSK2.out);obtain⟨⟨x0,x1,x2⟩,_,hlx⟩:=ad4 m8.out;clear v0 v1 v2 hlv o8 b8 hc8 HRDS;go_wp2_with fail
   refine HIM.out.mono ?_;rintro e w9 ⟨A9,a9,B9,c9,rfl,hr9,hd9,hA9,b9⟩;clear x0 x1 x2 hlx;have HS4:Hid (sk.G=G/\sk.N=Q/\sk.S=C):=(show _/\_ from by
    rw[<-HSK2.out];unfold asn;split<;>exact⟨rfl,rfl,rfl⟩)
   obtain⟨sG,sN,sS,so,sn,sl,sd⟩:=sk;obtain⟨rfl,rfl,rfl⟩:=HS4.out;dsimp only at hr9 hd9;dsimp only;have HA9:Hid (∀a,B9=some a->w.heap.size<a.block):=(show ∀a,_->_ from fun a e=>by have:=hA9 a e;have:=aaa n8.out;omega);obtain⟨wa,ha10,m10,b10⟩:=aj2 w9 107 (.int .i64 0) (.slice none 0 0) (.slice none 0 0);obtain⟨wb,hp11,m11,b11,⟨z0,z1,z2⟩,⟨e0,e1,e2⟩,hle⟩:=auG m10 (.int .i64 (sn:Int)) (.slice A9 sl.length a9) (.slice B9 sd.length c9);have hb911:=b11.out w9.heap.size w9 (Nat.le_refl _) b10.out;have hb811:=b9.trans (hb911.mono b9.size);have HB11:=hE0 (HB8.out.trans (hb811.mono HB8.out.size));have n11:=hE0 ((hb811.block _ (aaa n8.out)).trans n8.out);have r11:=hE0 ((hb811.block _ (aaa m8.out)).trans m8.out);have HIM11:Hid (RkRd wb wb.heap.size A9 sl/\DtRd wb wb.heap.size B9 sd):=⟨(hr9.below hb911).more hb911.size,(hd9.below hb911).more hb911.size⟩;obtain⟨⟨x0,x1,x2⟩,_,hlx⟩:=ad4 m11.out;obtain⟨⟨v0,v1,v2⟩,_,hlv⟩:=ad4 r11.out;obtain⟨wz,hz,nz,bz,⟨u0,u1,u2,u3,u4,u5,u6⟩,⟨g0,g1,g2,g3,g4,g5,g6⟩,hlu⟩:=au7 n11 (.int .u64 (sG:Int)) (.int .u64 (sN:Int)) (.int .u32 (sS:Int)) (.bool so) (.int .i64 (sn:Int)) (.slice A9 sl.length a9) (.slice B9 sd.length c9);have HFIN:Hid (RkRd wz wz.heap.size A9 sl/\DtRd wz wz.heap.size B9 sd):=by
    have hz2:wz.heap.size=wb.heap.size:=by rw[<-hz.out];simp[World.setCell]
    have hk2:∀k,k≠w.heap.size->wz.heap[k]?=wb.heap[k]?:=fun k hk=>by
     rw[<-hz.out,heap_setCell_other _ _ _ _ hk,heap_setCell_other _ _ _ _ hk,heap_setCell_other _ _ _ _ hk,heap_setCell_other _ _ _ _ hk,heap_setCell_other _ _ _ _ hk,heap_setCell_other _ _ _ _ hk,heap_setCell_other _ _ _ _ hk]
    rw[hz2];exact⟨HIM11.out.1.offS n11.out hk2,HIM11.out.2.offS (fun a e=>by have:=HA9.out a e;omega) n11.out hk2⟩
   have HBZ:=hE0 (bz.out _ _ (Nat.le_refl _) HB11.out);clear hr9 hd9 hA9 b9 hb911 hb811 HIM;go_wp2_with (first | (rw[ha10.out]) | (rw[hp11.out]) | (rw[hz.out]) | fail)
   (try simp only[Exit.inBlock,Exit.then])
   refine aqr (g:=w.heap.size) (x:= .nilIface) Tryz.results143 ?_ ?_ ?_ nz.out ?_
   · rfl
   · rfl
   · rfl
   · exact⟨A9,a9,B9,c9,rfl,HFIN.out.1,HFIN.out.2,(fun a e=>Nat.le_of_lt (HA9.out a e)),HBZ.out⟩
end
end Go.Proofs.YtncadccbepjekaaGreatDoor
