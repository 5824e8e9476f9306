/- Texts of mine, joined. -/
import Derived.Test.YtncadccbepjekaaGreatDoorU27
set_option maxRecDepth 100000
set_option maxHeartbeats 2000000
namespace Go.Proofs.YtncadccbepjekaaGreatDoor
open Go.RowKit
def afi (b:List UInt8):Nat × Nat × List Rk × List (List UInt8):=
 if adD b≠0 then (adD b,0,[],[])
 else if (abI b (acR b) (ac2 b)).1≠0 then ((abI b (acR b) (ac2 b)).1,0,[],[])
 else if (aeM b (abI b (acR b) (ac2 b)).2).1≠0 then ((aeM b (abI b (acR b) (ac2 b)).2).1,0,[],[])
 else (0,acR b,(abI b (acR b) (ac2 b)).2,(aeM b (abI b (acR b) (ac2 b)).2).2)
def ahA (c:Nat):Value:=if c=0 then .nilIface else .iface 130 (.int .i64 (c:Int))
theorem am7{b:List UInt8}(h:adD b=0):ab0 (acR b:Int)=true/\ac2 b<=1024:=by
 unfold adD at h;split at h
 · cases h
 split at h
 · cases h
 split at h
 · cases h
 split at h
 · cases h
 rename_i h1;split at h
 · cases h
 rename_i h2;exact⟨by cases e:ab0 (acR b:Int)<;>simp_all,Nat.le_of_not_lt h2⟩
theorem am8{b:List UInt8}{n k:Nat}(h:(abI b n k).1=0):(abI b n k).2.length=k/\∀x∈(abI b n k).2,aaB x.s=true:=by
 unfold abI at h ⊢;split
 · rename_i h1;rw[if_pos h1]at h;cases h
 rename_i h1;rw[if_neg h1]at h;split
 · rename_i h2;rw[if_pos h2]at h;cases h
 rename_i h2;rw[if_neg h2]at h
 cases e:aaQ (b.drop 28) k 184 with
 | none=>rw[e]at h;cases h
 | some l=>
  rw[e]at h;unfold atF at h ⊢;dsimp only at h ⊢;split
  · rename_i h3;rw[if_pos h3]at h;cases h
  · rename_i h3;exact⟨afE e,ae3 (by simpa using h3)⟩
theorem aoe (w:World) (A:Option Addr) (n c B:Nat) (b:List UInt8) (hr:Rd w B A n b) (hB:B<=w.heap.size) (hnc:n<=c) (hc:c<=9223372036854775807) (hn:n<=900000):
 Calls Tryz.prog 254 #[.slice A n c] w fun e w'=>∃A1 A2 c1 c2,e= .returned (.tuple #[.agg #[.int .i64 ((afi b).2.1:Int), .slice A1 (afi b).2.2.1.length c1, .slice A2 (afi b).2.2.2.length c2],ahA (afi b).1])/\RkRd w' w'.heap.size A1 (afi b).2.2.1/\DtRd w' w'.heap.size A2 (afi b).2.2.2/\(∀a,A2=some a->w.heap.size<=a.block)/\Below w.heap.size w w':=by
 obtain⟨G,hG⟩:=nmE (afi b);rw[hG];unfold afi at hG;obtain⟨w1,hw1⟩:=nmE (w.alloc (.cells #[.int .i64 0, .slice none 0 0, .slice none 0 0] 107));have hb1:=abE hw1;have n1:=anE hw1;have HR1:=hE0 ((hr.more hB).below hb1);have hHH:=an4 w1 A n c _ b HR1.out hnc hc hn;unfold atS at hHH;have HN1:=hE0 n1;have HB1:=hE0 hb1;have HW1:=hE0 hw1;clear hr hw1 hb1 n1;by_cases hh:adD b≠0
 · rw[if_pos hh]at hG;rw[if_neg hh]at hHH;obtain⟨k,hk⟩:=nmE (adD b);rw[hk]at hG hHH hh;have HG:=hE0 hG;have HH:=hE0 hHH;have hk0:(k:Int)≠0:=by omega
   clear hG hHH hk;have HKK:=hE0 hh;have n1:=HN1.out;have hl1:=aaa n1;obtain⟨f0,f1,f2⟩:=acP n1;obtain⟨z0,z1,z2⟩:=aal n1;have HM:=hE0 (aff n1 (.int .i64 0) (.slice none 0 0) (.slice none 0 0));have HF:=hE0 (((HB1.out.setCell (p:=⟨w.heap.size,0,none⟩) (Nat.le_refl _) (.int .i64 0)).setCell (p:=⟨w.heap.size,1,none⟩) (Nat.le_refl _) (.slice none 0 0)).setCell (p:=⟨w.heap.size,2,none⟩) (Nat.le_refl _) (.slice none 0 0));have N1':=hE0 n1;clear n1;go_enter Tryz.func254,Tryz.ntmps254
   go_wp2_with (first | (rw[HW1.out]) | fail)
   refine HH.out.mono ?_;rintro e w2 ⟨rfl,rfl⟩;go_wp2
   (try simp only[Exit.inBlock,Exit.then])
   refine aki (g:=w.heap.size) (x:= .iface 130 (.int .i64 (k:Int))) Tryz.results254 ?_ ?_ ?_ HM.out ?_
   · rfl
   · rfl
   · rfl
   · refine⟨none,none,0,0,?_,?_,?_,fun _ h=>(by cases h),HF.out⟩
     · rw[<-HG.out];unfold ahA;dsimp only;rw[if_neg HKK.out];rfl
     · rw[<-HG.out];exact fun h=>absurd h (by simp)
     · rw[<-HG.out];exact fun h=>absurd h (by simp)
 have hh0:adD b=0:=Decidable.byContradiction hh;obtain⟨hlo,hcn⟩:=am7 hh0;rw[if_neg hh]at hG;rw[if_pos hh0]at hHH;have HH:=hE0 hHH;have hBL:=akk w1 A n c _ (acR b) (ac2 b) b HR1.out (by have:=HB1.out.size;omega) hnc hc hn hlo hcn;clear hHH;by_cases hb0:(abI b (acR b) (ac2 b)).1≠0
 · rw[if_pos hb0]at hG;have eV:∀A,aux (abI b (acR b) (ac2 b)) A= .tuple #[.slice none 0 0, .iface 130 (.int .i64 ((abI b (acR b) (ac2 b)).1:Int))]:=fun A=>by unfold aux;rw[if_neg hb0]
   simp only[eV]at hBL;clear eV;obtain⟨k,hk⟩:=nmE ((abI b (acR b) (ac2 b)).1);rw[hk]at hG hBL hb0;have HG:=hE0 hG;have HBL:=hE0 hBL;have HKK:=hE0 hb0;clear hG hBL hk hb0 hh hh0 hlo;go_enter Tryz.func254,Tryz.ntmps254
   go_wp2_with (first | (rw[HW1.out]) | fail)
   refine HH.out.mono ?_;rintro e w2 ⟨rfl,rfl⟩;go_wp2_with fail
   refine HBL.out.mono ?_;rintro e w2 ⟨A2,rfl,_,hb2⟩;have n1:=(hb2.block _ (aaa HN1.out)).trans HN1.out;have hl1:=aaa n1;obtain⟨f0,f1,f2⟩:=acP n1;obtain⟨z0,z1,z2⟩:=aal n1;have HM:=hE0 (aff n1 (.int .i64 0) (.slice none 0 0) (.slice none 0 0));have HF:=hE0 ((((HB1.out.trans (hb2.mono HB1.out.size)).setCell (p:=⟨w.heap.size,0,none⟩) (Nat.le_refl _) (.int .i64 0)).setCell (p:=⟨w.heap.size,1,none⟩) (Nat.le_refl _) (.slice none 0 0)).setCell (p:=⟨w.heap.size,2,none⟩) (Nat.le_refl _) (.slice none 0 0));have N1':=hE0 n1;clear n1;clear hb2;go_wp2
   (try simp only[Exit.inBlock,Exit.then])
   refine aki (g:=w.heap.size) (x:= .iface 130 (.int .i64 (k:Int))) Tryz.results254 ?_ ?_ ?_ HM.out ?_
   · rfl
   · rfl
   · rfl
   · refine⟨none,none,0,0,?_,?_,?_,fun _ h=>(by cases h),HF.out⟩
     · rw[<-HG.out];unfold ahA;dsimp only;rw[if_neg HKK.out];rfl
     · rw[<-HG.out];exact fun h=>absurd h (by simp)
     · rw[<-HG.out];exact fun h=>absurd h (by simp)
 have hb1':(abI b (acR b) (ac2 b)).1=0:=Decidable.byContradiction hb0;obtain⟨hlen,hszs⟩:=am8 hb1';rw[if_neg hb0]at hG;have eV:∀A,aux (abI b (acR b) (ac2 b)) A= .tuple #[.slice A (abI b (acR b) (ac2 b)).2.length (abI b (acR b) (ac2 b)).2.length, .nilIface]:=fun A=>by unfold aux;rw[if_pos hb1']
 simp only[eV]at hBL;clear eV;obtain⟨l,hl⟩:=nmE ((abI b (acR b) (ac2 b)).2);rw[hl]at hG hBL hlen hszs;have hll:l.length<=1024:=by omega
 have HBL:=hE0 hBL;have HSZ:=hE0 hszs;clear hBL hl hb0 hb1' hszs;by_cases hd0:(aeM b l).1≠0
 · rw[if_pos hd0]at hG;have HDB:=hE0 (fun V A2 k2 (hV:Below w.heap.size w V) (hr2:Rd V w.heap.size A n b) (hrk:RkRd V V.heap.size A2 l)=>anU V A A2 n c w.heap.size k2 b l hr2 hnc hc hn hrk hV.size hll HSZ.out hd0);unfold auX at HDB;rw[if_neg hd0]at HDB;obtain⟨k,hk⟩:=nmE ((aeM b l).1);rw[hk]at hG HDB hd0;have HG:=hE0 hG;have HKK:=hE0 hd0;obtain⟨ll,hlll⟩:=nmE l.length;rw[hlll]at HBL HDB;clear hG hk hd0 hh hh0 hlo hlen hll hlll;go_enter Tryz.func254,Tryz.ntmps254
   go_wp2_with (first | (rw[HW1.out]) | fail)
   refine HH.out.mono ?_;rintro e w2 ⟨rfl,rfl⟩;go_wp2_with fail
   refine HBL.out.mono ?_;rintro e w2 ⟨A2,rfl,hrk2,hb2⟩;have HD:=hE0 (HDB.out w2 A2 ll (HB1.out.trans (hb2.mono HB1.out.size)) (HR1.out.below (hb2.mono HB1.out.size)) hrk2);have HB2:=hE0 hb2;have N2:=hE0 ((hb2.block _ (aaa HN1.out)).trans HN1.out);clear hb2 hrk2 HDB;go_wp2_with fail
   refine HD.out.mono ?_;rintro e w3 ⟨rfl,_,hb3⟩;have hb2:=HB2.out.trans (hb3.mono HB2.out.size);have n1:=(hb3.block _ (aaa N2.out)).trans N2.out;have hl1:=aaa n1;obtain⟨f0,f1,f2⟩:=acP n1;obtain⟨z0,z1,z2⟩:=aal n1;have HM:=hE0 (aff n1 (.int .i64 0) (.slice none 0 0) (.slice none 0 0));have HF:=hE0 ((((HB1.out.trans (hb2.mono HB1.out.size)).setCell (p:=⟨w.heap.size,0,none⟩) (Nat.le_refl _) (.int .i64 0)).setCell (p:=⟨w.heap.size,1,none⟩) (Nat.le_refl _) (.slice none 0 0)).setCell (p:=⟨w.heap.size,2,none⟩) (Nat.le_refl _) (.slice none 0 0));have N1':=hE0 n1;clear n1;clear hb2 hb3;go_wp2
   (try simp only[Exit.inBlock,Exit.then])
   refine aki (g:=w.heap.size) (x:= .iface 130 (.int .i64 (k:Int))) Tryz.results254 ?_ ?_ ?_ HM.out ?_
   · rfl
   · rfl
   · rfl
   · refine⟨none,none,0,0,?_,?_,?_,fun _ h=>(by cases h),HF.out⟩
     · rw[<-HG.out];unfold ahA;dsimp only;rw[if_neg HKK.out];rfl
     · rw[<-HG.out];exact fun h=>absurd h (by simp)
     · rw[<-HG.out];exact fun h=>absurd h (by simp)
 have hd1:(aeM b l).1=0:=Decidable.byContradiction hd0;rw[if_neg hd0]at hG;have HDB:=hE0 (fun V A2 k2 (hV:Below w.heap.size w V) (hr2:Rd V w.heap.size A n b) (hrk:RkRd V V.heap.size A2 l)=>apX V A A2 n c w.heap.size k2 b l hr2 hnc hc hn hrk hV.size hll HSZ.out hd1);have eV:∀A c,auX (aeM b l) A c= .tuple #[.slice A (aeM b l).2.length c, .nilIface]:=fun A c=>by unfold auX;rw[if_pos hd1]
 simp only[eV]at HDB;clear eV;obtain⟨d,hd⟩:=nmE ((aeM b l).2);rw[hd]at hG HDB;obtain⟨ll,hlll⟩:=nmE l.length;obtain⟨dl,hdll⟩:=nmE d.length;rw[hlll]at HBL HDB;rw[hdll]at HDB;have HG:=hE0 hG;have HLL:=hE0 hlll;have HDL:=hE0 hdll;obtain⟨N,hN⟩:=nmE (acR b);obtain⟨K,hK⟩:=nmE (ac2 b);rw[hN,hK]at HH HBL;rw[hN]at HG;clear hG hd hd0 hd1 hh hh0 hlo hlen hll hlll hdll hN hK hcn;go_enter Tryz.func254,Tryz.ntmps254
 go_wp2_with (first | (rw[HW1.out]) | fail)
 refine HH.out.mono ?_;rintro e w2 ⟨rfl,rfl⟩;go_wp2_with fail
 refine HBL.out.mono ?_;rintro e w2 ⟨A2,rfl,hrk2,hb2⟩;have HD:=hE0 (HDB.out w2 A2 ll (HB1.out.trans (hb2.mono HB1.out.size)) (HR1.out.below (hb2.mono HB1.out.size)) hrk2);have HB2:=hE0 hb2;have HRK2:=hE0 hrk2;have N2:=hE0 ((hb2.block _ (aaa HN1.out)).trans HN1.out);clear hb2 hrk2 HDB;go_wp2_with fail
 refine HD.out.mono ?_;rintro e w3 ⟨A3,c3,rfl,hdt3,hb3⟩;have n2:=(hb3.block _ (aaa N2.out)).trans N2.out;have hl2:=aaa n2;obtain⟨f0,f1,f2⟩:=acP n2;obtain⟨z0,z1,z2⟩:=aal n2;have HM:=hE0 (aff n2 (.int .i64 (N:Int)) (.slice A2 ll ll) (.slice A3 dl c3));have hB3:=HB1.out.trans ((HB2.out.trans (hb3.mono HB2.out.size)).mono HB1.out.size);have HF:=hE0 (((hB3.setCell (p:=⟨w.heap.size,0,none⟩) (Nat.le_refl _) (.int .i64 (N:Int))).setCell (p:=⟨w.heap.size,1,none⟩) (Nat.le_refl _) (.slice A2 ll ll)).setCell (p:=⟨w.heap.size,2,none⟩) (Nat.le_refl _) (.slice A3 dl c3));have N2':=hE0 n2;have HRK3:=hE0 ((HRK2.out.below hb3).more hb3.size);have HDT3:=hE0 hdt3;have HG3:Hid (∀a,A3=some a->w.heap.size<=a.block):=(show ∀a,_->_ from fun a e=>by
  obtain⟨xs,ho,_⟩:=hdt3;have h1:=afb ho a.block (by rw[e];rfl);have h2:=HB1.out.size;have h3:=HB2.out.size;omega)
 clear hb3 n2 hB3 HBL HH hdt3;go_wp2
 (try simp only[Exit.inBlock,Exit.then])
 refine aki (g:=w.heap.size) (x:= .nilIface) Tryz.results254 ?_ ?_ ?_ HM.out ?_
 · rfl
 · rfl
 · rfl
 · refine⟨A2,A3,ll,c3,?_,?_,?_,HG3.out,HF.out⟩
   · rw[<-HG.out];dsimp only;rw[HLL.out,HDL.out];rfl
   · rw[<-HG.out];refine(HRK3.out.off N2'.out fun k hk=> ?_).more (by simp);rw[heap_setCell_other _ _ _ _ hk,heap_setCell_other _ _ _ _ hk,heap_setCell_other _ _ _ _ hk]
   · rw[<-HG.out];obtain⟨xs,ho,hdo⟩:=HDT3.out;rw[<-HDL.out]at ho;have g0:=act w3 w.heap.size 0 (.int .i64 (N:Int));have g1:=act (w3.setCell ⟨w.heap.size,0,none⟩ (.int .i64 (N:Int))) w.heap.size 1 (.slice A2 ll ll);have g2:=act ((w3.setCell ⟨w.heap.size,0,none⟩ (.int .i64 (N:Int))).setCell ⟨w.heap.size,1,none⟩ (.slice A2 ll ll)) w.heap.size 2 (.slice A3 dl c3);have k0:=N2'.out;have k1:=heap_setCell_same w3 w.heap.size 0 _ _ (.int .i64 (N:Int)) k0;have k2:=heap_setCell_same _ w.heap.size 1 _ _ (.slice A2 ll ll) k1;have o1:=acO ho g0 (fun k hk hrk=>by injection hrk with hrk;subst hrk;exact adB ho hk k0 (by decide));have o2:=acO o1 g1 (fun k hk hrk=>by injection hrk with hrk;subst hrk;exact adB o1 hk k1 (by decide));have o3:=acO o2 g2 (fun k hk hrk=>by injection hrk with hrk;subst hrk;exact adB o2 hk k2 (by decide));have d1:=hdo.grown g0 (fun k hrk=>by injection hrk with hrk;subst hrk;exact⟨_,_,_,by decide,k0⟩);have d2:=d1.grown g1 (fun k hrk=>by injection hrk with hrk;subst hrk;exact⟨_,_,_,by decide,k1⟩);have d3:=d2.grown g2 (fun k hrk=>by injection hrk with hrk;subst hrk;exact⟨_,_,_,by decide,k2⟩);exact d3.rd o3
structure Sk where
 G:Nat
 N:Nat
 S:Nat
 ok:Bool
 n:Nat
 l:List Rk
 d:List (List UInt8)
def afo:Sk:=⟨0,0,0,false,0,[],[]⟩
def asf (G N S s:Nat) (Γ:Nat × Nat × List Rk × List (List UInt8)):Sk:=
 if Γ.1=0/\s=S then ⟨G,N,S,true,Γ.2.1,Γ.2.2.1,Γ.2.2.2⟩ else ⟨G,N,S,false,0,[],[]⟩
def ak0 (b:List UInt8) (half:Nat) (a:Nat->List UInt8):Sk:=
 if acC b=false then afo else
 if 512*(half-1)<slN b then ⟨slG b,slN b,slS b,false,0,[],[]⟩ else asf (slG b) (slN b) (slS b) (abd 0 (a (slN b))) (afi (a (slN b)))
def aaE (bs:List UInt8) (wt:List (Nat × List UInt8)) (half k:Nat):Sk:=
 ak0 (aaZ bs wt (k*half)) half (fun n=>(adC bs wt (k*half+1) (need n)).take n)
def skV (s:Sk) (A1:Option Addr) (c1:Nat) (A2:Option Addr) (c2:Nat):Value:= .agg #[.int .u64 (s.G:Int), .int .u64 (s.N:Int), .int .u32 (s.S:Int), .bool s.ok, .int .i64 (s.n:Int), .slice A1 s.l.length c1, .slice A2 s.d.length c2]
theorem asU{b:List UInt8}(h:acC b=true):slG b<=4611686018427387904/\slN b<=65536:=by
 unfold acC at h;rw[Bool.and_eq_true]at h;have h1:=of_decide_eq_true h.1;have h2:=of_decide_eq_true h.2;unfold aoF at h2;by_cases hk:akZ (slG b) (slN b)=true
 · unfold akZ at hk;simp only[Bool.and_eq_true,decide_eq_true_eq]at hk;exact⟨hk.2.1,hk.2.2⟩
 · rw[if_neg hk]at h2;rw[<-h2]at h1
   cases h1
theorem RkRd.offS{w w':World}{B g:Nat}{A:Option Addr}{l:List Rk}{t:TypeId}{fr:Nat × Nat}{a b c e:Int}{f:Bool}{A1 A2:Option Addr}{n1 k1 n2 k2:Nat}(h:RkRd w B A l) (hg:w.heap[g]?=some (.cells #[.int .u64 a, .int .u64 b, .int .u32 c, .bool f, .int .i64 e, .slice A1 n1 k1, .slice A2 n2 k2] t fr)) (hk:∀k,k≠g->w'.heap[k]?=w.heap[k]?):RkRd w' B A l:=fun hn=>by
 obtain⟨b,o,e,hB,hc⟩:=h hn;have hbg:b≠g:=by
  intro e2;subst e2;obtain⟨x,hx⟩:∃x,l[0]?=some x:=⟨l[0]'hn,List.getElem?_eq_getElem _⟩;obtain⟨h0,h1,_⟩:=hc 0 x hx;rw[cell_of_row _ _ _ _ _ _ hg]at h0 h1;rcases o with _ | _ | _ | _ | _ | _ | _ | o<;>simp at h0 h1
 refine⟨b,o,e,hB,fun j x hx=> ?_⟩;obtain⟨h0,h1,h2,h3⟩:=hc j x hx;have hh:=hk b hbg;refine⟨?_,?_,?_,h3⟩
 · rw[<-h0];simp[World.cell?,hh]
 · rw[<-h1];simp[World.cell?,hh]
 · rw[<-h2];simp[World.cell?,hh]
theorem Rd.offS{w w':World}{B g n:Nat}{A:Option Addr}{l:List UInt8}{t:TypeId}{fr:Nat × Nat}{a b c e:Int}{f:Bool}{A1 A2:Option Addr}{n1 k1 n2 k2:Nat}(h:Rd w B A n l) (hg:w.heap[g]?=some (.cells #[.int .u64 a, .int .u64 b, .int .u32 c, .bool f, .int .i64 e, .slice A1 n1 k1, .slice A2 n2 k2] t fr)) (hk:∀k,k≠g->w'.heap[k]?=w.heap[k]?):Rd w' B A n l:=by
 refine⟨h.1,fun hn=> ?_⟩;obtain⟨b,o,e,hB,hc⟩:=h.2 hn;have hbg:b≠g:=by
  intro e2;subst e2;obtain⟨x,hx⟩:∃x,l[0]?=some x:=⟨l[0]'(by rw[h.1];exact hn),List.getElem?_eq_getElem _⟩;have h0:=hc 0 x hx;rw[cell_of_row _ _ _ _ _ _ hg]at h0;rcases o with _ | _ | _ | _ | _ | _ | _ | o<;>simp at h0
 refine⟨b,o,e,hB,fun j x hx=> ?_⟩;have hh:=hk b hbg;rw[<-hc j x hx];simp[World.cell?,hh]
theorem DtRd.offS{w w':World}{B g:Nat}{A:Option Addr}{l:List (List UInt8)}{t:TypeId}{fr:Nat × Nat}{a b c e:Int}{f:Bool}{A1 A2:Option Addr}{n1 k1 n2 k2:Nat}(h:DtRd w B A l) (hA:∀a,A=some a->a.block≠g) (hg:w.heap[g]?=some (.cells #[.int .u64 a, .int .u64 b, .int .u32 c, .bool f, .int .i64 e, .slice A1 n1 k1, .slice A2 n2 k2] t fr)) (hk:∀k,k≠g->w'.heap[k]?=w.heap[k]?):DtRd w' B A l:=fun hn=>by
 obtain⟨b,o,e,hB,hc⟩:=h hn;refine⟨b,o,e,hB,fun j x hx=> ?_⟩;obtain⟨A',k,h1,h2,h3⟩:=hc j x hx;have hh:=hk b (hA _ e);exact⟨A',k,by rw[<-h1];simp[World.cell?,hh],h2.offS hg hk,h3⟩
section
variable {S:Nat->Prop} {w:World} {g:Nat} {L:Option Addr} {cl:Nat} {W:Option Addr} {cw:Nat} {ls ws:List Wr} {left:Int} {off:Bool}
end
end Go.Proofs.YtncadccbepjekaaGreatDoor
