/- Texts of mine, joined. -/
import Derived.Test.YtncadccbepjekaaGreatDoorP17
import Derived.Test.YtncadccbepjekaaGreatDoorP18
import Derived.Test.YtncadccbepjekaaGreatDoorP20
set_option maxRecDepth 100000
set_option maxHeartbeats 2000000
namespace Go.Proofs.YtncadccbepjekaaGreatDoor
open Go.RowKit
theorem atY{a m:List UInt8}(h:a≠m):((anh a).toList==m)=false:=by
 unfold anh;rw[beq_eq_false_iff_ne];simpa using h
def atZ (b:List UInt8):Value:=if ady b=0 then .tuple #[.int .i64 (acU b:Int), .int .i64 (ac1 b:Int), .nilIface] else .tuple #[.int .i64 0, .int .i64 0, .iface 130 (.int .i64 (ady b:Int))]
theorem anT (w:World) (A:Option Addr) (n c B:Nat) (b:List UInt8) (hr:Rd w B A n b) (hnc:n<=c) (hc:c<=9223372036854775807) (hn:n<=900000):
 Calls Tryz.prog 275 #[.slice A n c] w fun e w'=>e= .returned (atZ b)/\w=w':=by
 have hbl:b.length=n:=hr.1;unfold atZ ady;rw[hbl];by_cases h28:n<28
 · rw[if_pos h28];have g1:decide (n<28)=true:=decide_eq_true h28;clear hr hbl;go_enter Tryz.func275,Tryz.ntmps275
   go_wp2
   go_ret3
   exact⟨rfl,rfl⟩
 rw[if_neg h28];have g1:decide (n<28)=false:=decide_eq_false h28;by_cases hm:b.take 8≠imMarkB
 · rw[if_pos hm];obtain⟨g,off,rfl,_⟩:=hr.2 (by omega);obtain⟨sx,hsx⟩:=nmE (anh (b.take 8));have q1:(convert 37 9 (.slice (some ⟨g,off,none⟩) 8 c)).run Tryz.prog w= .ok (.string sx) w:=by
    have h:=hr.sub 0 8 (by omega);rw[List.drop_zero,Nat.add_zero]at h;rw[<-hsx];exact adR (c:=c) h
   have e1:=atY hm;rw[hsx]at e1;unfold imMarkB at e1;have g3:(8:Int)<=(c:Int):=by omega
   clear hr hbl hm hsx;go_enter Tryz.func275,Tryz.ntmps275
   go_wp2
   go_ret3
   exact⟨rfl,rfl⟩
 have hm':b.take 8=imMarkB:=Decidable.byContradiction hm;rw[if_neg hm];by_cases hs:abw b 0 24=false
 · rw[if_pos hs];have HS:=hE0 (act w A n c B b 0 24 hr hnc hc hn (by omega) (by omega) false hs);obtain⟨g,off,rfl,_⟩:=hr.2 (by omega);have q1:(convert 37 9 (.slice (some ⟨g,off,none⟩) 8 c)).run Tryz.prog w= .ok (.string ⟨#[67,78,84,76,1,0,0,0]⟩) w:=by
    have h:=hr.sub 0 8 (by omega);rw[List.drop_zero,hm',Nat.add_zero]at h;have h2:=adR (c:=c) h;rw[alw]at h2;exact h2
   have g3:(8:Int)<=(c:Int):=by omega
   clear hr hbl hm hm' hs;go_enter Tryz.func275,Tryz.ntmps275
   go_wp2_with fail
   refine HS.out.mono ?_;rintro e w2 ⟨rfl,rfl⟩;go_wp2
   go_ret3
   exact⟨rfl,rfl⟩
 have hs':abw b 0 24=true:=by simpa using hs
 rw[if_neg hs];by_cases hl:ab0 (acU b:Int)=false\/1024<ac1 b
 · have e:(if (if ab0 (acU b:Int)=false then 3 else if 1024<ac1 b then 3 else 0)=0 then Value.tuple #[.int .i64 (acU b:Int), .int .i64 (ac1 b:Int), .nilIface] else .tuple #[.int .i64 0, .int .i64 0, .iface 130 (.int .i64 (((if ab0 (acU b:Int)=false then 3 else if 1024<ac1 b then 3 else 0):Nat):Int))])= .tuple #[.int .i64 0, .int .i64 0, .iface 130 (.int .i64 3)]:=by
    rcases hl with hl | hl
    · rw[if_pos hl];rfl
    · rw[if_pos hl];split<;>rfl
   rw[e];have HS:=hE0 (act w A n c B b 0 24 hr hnc hc hn (by omega) (by omega) true hs');have HG1:=hE0 (adS A n c B b 8 w hr hnc (by omega) (by omega));have HG2:=hE0 (adS A n c B b 16 w hr hnc (by omega) (by omega));unfold acU ac1 at hl;have hN2:ab2 ((b.drop 8).take 8)<18446744073709551616:=adO _ (List.length_take_le _ _);have hK2:ab2 ((b.drop 16).take 8)<18446744073709551616:=adO _ (List.length_take_le _ _);obtain⟨N,hN⟩:=nmE (ab2 ((b.drop 8).take 8));obtain⟨K,hK⟩:=nmE (ab2 ((b.drop 16).take 8));rw[hN]at HG1 hl hN2;rw[hK]at HG2 hl hK2;obtain⟨g,off,rfl,_⟩:=hr.2 (by omega);have q1:(convert 37 9 (.slice (some ⟨g,off,none⟩) 8 c)).run Tryz.prog w= .ok (.string ⟨#[67,78,84,76,1,0,0,0]⟩) w:=by
    have h:=hr.sub 0 8 (by omega);rw[List.drop_zero,hm',Nat.add_zero]at h;have h2:=adR (c:=c) h;rw[alw]at h2;exact h2
   have g3:(8:Int)<=(c:Int):=by omega
   clear hr hbl hm hm' hs hs' hN hK e;obtain⟨y,hy⟩:=nmE (ab0 (N:Int));have HL:=hE0 (agy w N hN2 y hy);rw[hy]at hl;clear hy
   cases y with
   | false=>
    clear hl;go_enter Tryz.func275,Tryz.ntmps275
    go_wp2_with fail
    refine HS.out.mono ?_;rintro e w2 ⟨rfl,rfl⟩;go_wp2_with fail
    refine HG1.out.mono ?_;rintro e w2 ⟨rfl,rfl⟩;go_wp2_with fail
    refine HG2.out.mono ?_;rintro e w2 ⟨rfl,rfl⟩;go_wp2_with fail
    refine HL.out.mono ?_;rintro e w2 ⟨rfl,rfl⟩;go_wp2
    go_ret3
    exact⟨rfl,rfl⟩
   | true=>
    have hk:1024<K:=hl.resolve_left (by simp);have g2:decide (1024<K)=true:=decide_eq_true hk;clear hl;go_enter Tryz.func275,Tryz.ntmps275
    go_wp2_with fail
    refine HS.out.mono ?_;rintro e w2 ⟨rfl,rfl⟩;go_wp2_with fail
    refine HG1.out.mono ?_;rintro e w2 ⟨rfl,rfl⟩;go_wp2_with fail
    refine HG2.out.mono ?_;rintro e w2 ⟨rfl,rfl⟩;go_wp2_with fail
    refine HL.out.mono ?_;rintro e w2 ⟨rfl,rfl⟩;go_wp2
    go_ret3
    exact⟨rfl,rfl⟩
 have hl1:ab0 (acU b:Int)=true:=by
  cases h:ab0 (acU b:Int)with
  | true=>rfl
  | false=>exact absurd (Or.inl h) hl
 have hl2:ac1 b<=1024:=by
  refine Nat.le_of_not_lt fun h=>hl (Or.inr h)
 have e:(if ab0 (acU b:Int)=false then 3 else if 1024<ac1 b then 3 else 0)=0:=by rw[hl1,if_neg (by simp),if_neg (by omega)]
 rw[e,if_pos rfl];exact apv w A n c B b hr hnc hc hn (by omega) hm' hs' _ _ rfl rfl hl1 hl2
def afc (b:List UInt8):Nat × Nat × List Rk × List (List UInt8):=
 if ady b≠0 then (ady b,0,[],[])
 else if (abD b (acU b) (ac1 b)).1≠0 then ((abD b (acU b) (ac1 b)).1,0,[],[])
 else if (aeN b (abD b (acU b) (ac1 b)).2).1≠0 then ((aeN b (abD b (acU b) (ac1 b)).2).1,0,[],[])
 else (0,acU b,(abD b (acU b) (ac1 b)).2,(aeN b (abD b (acU b) (ac1 b)).2).2)
def ajt (c:Nat):Value:=if c=0 then .nilIface else .iface 130 (.int .i64 (c:Int))
theorem amP{b:List UInt8}(h:ady b=0):ab0 (acU b:Int)=true/\ac1 b<=1024:=by
 unfold ady at h;split at h
 · cases h
 split at h
 · cases h
 split at h
 · cases h
 split at h
 · cases h
 rename_i h1;split at h
 · cases h
 rename_i h2;exact⟨by cases e:ab0 (acU b:Int)<;>simp_all,Nat.le_of_not_lt h2⟩
theorem amQ{b:List UInt8}{n k:Nat}(h:(abD b n k).1=0):(abD b n k).2.length=k/\∀x∈(abD b n k).2,aaG x.s=true:=by
 unfold abD at h ⊢;split
 · rename_i h1;rw[if_pos h1]at h;cases h
 rename_i h1;rw[if_neg h1]at h;split
 · rename_i h2;rw[if_pos h2]at h;cases h
 rename_i h2;rw[if_neg h2]at h
 cases e:aaR (b.drop 28) k 184 with
 | none=>rw[e]at h;cases h
 | some l=>
  rw[e]at h;unfold atQ at h ⊢;dsimp only at h ⊢;split
  · rename_i h3;rw[if_pos h3]at h;cases h
  · rename_i h3;exact⟨afy e,ae0 (by simpa using h3)⟩
theorem anU (w:World) (A:Option Addr) (n c B:Nat) (b:List UInt8) (hr:Rd w B A n b) (hB:B<=w.heap.size) (hnc:n<=c) (hc:c<=9223372036854775807) (hn:n<=900000):
 Calls Tryz.prog 254 #[.slice A n c] w fun e w'=>∃A1 A2 c1 c2,e= .returned (.tuple #[.agg #[.int .i64 ((afc b).2.1:Int), .slice A1 (afc b).2.2.1.length c1, .slice A2 (afc b).2.2.2.length c2],ajt (afc b).1])/\RkRd w' w'.heap.size A1 (afc b).2.2.1/\DtRd w' w'.heap.size A2 (afc b).2.2.2/\(∀a,A2=some a->w.heap.size<=a.block)/\Below w.heap.size w w':=by
 obtain⟨G,hG⟩:=nmE (afc b);rw[hG];unfold afc at hG;obtain⟨w1,hw1⟩:=nmE (w.alloc (.cells #[.int .i64 0, .slice none 0 0, .slice none 0 0] 107));have hb1:=abE hw1;have n1:=anE hw1;have HR1:=hE0 ((hr.more hB).below hb1);have hHH:=anT w1 A n c _ b HR1.out hnc hc hn;unfold atZ at hHH;have HN1:=hE0 n1;have HB1:=hE0 hb1;have HW1:=hE0 hw1;clear hr hw1 hb1 n1;by_cases hh:ady b≠0
 · rw[if_pos hh]at hG;rw[if_neg hh]at hHH;obtain⟨k,hk⟩:=nmE (ady b);rw[hk]at hG hHH hh;have HG:=hE0 hG;have HH:=hE0 hHH;have hk0:(k:Int)≠0:=by omega
   clear hG hHH hk;have HKK:=hE0 hh;have n1:=HN1.out;have hl1:=aaa n1;obtain⟨f0,f1,f2⟩:=acQ n1;obtain⟨z0,z1,z2⟩:=aam n1;have HM:=hE0 (ae9 n1 (.int .i64 0) (.slice none 0 0) (.slice none 0 0));have HF:=hE0 (((HB1.out.setCell (p:=⟨w.heap.size,0,none⟩) (Nat.le_refl _) (.int .i64 0)).setCell (p:=⟨w.heap.size,1,none⟩) (Nat.le_refl _) (.slice none 0 0)).setCell (p:=⟨w.heap.size,2,none⟩) (Nat.le_refl _) (.slice none 0 0));have N1':=hE0 n1;clear n1;go_enter Tryz.func254,Tryz.ntmps254
   go_wp2_with (first | (rw[HW1.out]) | fail)
   refine HH.out.mono ?_;rintro e w2 ⟨rfl,rfl⟩;go_wp2
   (try simp only[Exit.inBlock,Exit.then])
   refine aka (g:=w.heap.size) (x:= .iface 130 (.int .i64 (k:Int))) Tryz.results254 ?_ ?_ ?_ HM.out ?_
   · rfl
   · rfl
   · rfl
   · refine⟨none,none,0,0,?_,?_,?_,fun _ h=>(by cases h),HF.out⟩
     · rw[<-HG.out];unfold ajt;dsimp only;rw[if_neg HKK.out];rfl
     · rw[<-HG.out];exact fun h=>absurd h (by simp)
     · rw[<-HG.out];exact fun h=>absurd h (by simp)
 have hh0:ady b=0:=Decidable.byContradiction hh;obtain⟨hlo,hcn⟩:=amP hh0;rw[if_neg hh]at hG;rw[if_pos hh0]at hHH;have HH:=hE0 hHH;have hBL:=akl w1 A n c _ (acU b) (ac1 b) b HR1.out (by have:=HB1.out.size;omega) hnc hc hn hlo hcn;clear hHH;by_cases hb0:(abD b (acU b) (ac1 b)).1≠0
 · rw[if_pos hb0]at hG;have eV:∀A,auK (abD b (acU b) (ac1 b)) A= .tuple #[.slice none 0 0, .iface 130 (.int .i64 ((abD b (acU b) (ac1 b)).1:Int))]:=fun A=>by unfold auK;rw[if_neg hb0]
   simp only[eV]at hBL;clear eV;obtain⟨k,hk⟩:=nmE ((abD b (acU b) (ac1 b)).1);rw[hk]at hG hBL hb0;have HG:=hE0 hG;have HBL:=hE0 hBL;have HKK:=hE0 hb0;clear hG hBL hk hb0 hh hh0 hlo;go_enter Tryz.func254,Tryz.ntmps254
   go_wp2_with (first | (rw[HW1.out]) | fail)
   refine HH.out.mono ?_;rintro e w2 ⟨rfl,rfl⟩;go_wp2_with fail
   refine HBL.out.mono ?_;rintro e w2 ⟨A2,rfl,_,hb2⟩;have n1:=(hb2.block _ (aaa HN1.out)).trans HN1.out;have hl1:=aaa n1;obtain⟨f0,f1,f2⟩:=acQ n1;obtain⟨z0,z1,z2⟩:=aam n1;have HM:=hE0 (ae9 n1 (.int .i64 0) (.slice none 0 0) (.slice none 0 0));have HF:=hE0 ((((HB1.out.trans (hb2.mono HB1.out.size)).setCell (p:=⟨w.heap.size,0,none⟩) (Nat.le_refl _) (.int .i64 0)).setCell (p:=⟨w.heap.size,1,none⟩) (Nat.le_refl _) (.slice none 0 0)).setCell (p:=⟨w.heap.size,2,none⟩) (Nat.le_refl _) (.slice none 0 0));have N1':=hE0 n1;clear n1;clear hb2;go_wp2
   (try simp only[Exit.inBlock,Exit.then])
   refine aka (g:=w.heap.size) (x:= .iface 130 (.int .i64 (k:Int))) Tryz.results254 ?_ ?_ ?_ HM.out ?_
   · rfl
   · rfl
   · rfl
   · refine⟨none,none,0,0,?_,?_,?_,fun _ h=>(by cases h),HF.out⟩
     · rw[<-HG.out];unfold ajt;dsimp only;rw[if_neg HKK.out];rfl
     · rw[<-HG.out];exact fun h=>absurd h (by simp)
     · rw[<-HG.out];exact fun h=>absurd h (by simp)
 have hb1':(abD b (acU b) (ac1 b)).1=0:=Decidable.byContradiction hb0;obtain⟨hlen,hszs⟩:=amQ hb1';rw[if_neg hb0]at hG;have eV:∀A,auK (abD b (acU b) (ac1 b)) A= .tuple #[.slice A (abD b (acU b) (ac1 b)).2.length (abD b (acU b) (ac1 b)).2.length, .nilIface]:=fun A=>by unfold auK;rw[if_pos hb1']
 simp only[eV]at hBL;clear eV;obtain⟨l,hl⟩:=nmE ((abD b (acU b) (ac1 b)).2);rw[hl]at hG hBL hlen hszs;have hll:l.length<=1024:=by omega
 have HBL:=hE0 hBL;have HSZ:=hE0 hszs;clear hBL hl hb0 hb1' hszs;by_cases hd0:(aeN b l).1≠0
 · rw[if_pos hd0]at hG;have HDB:=hE0 (fun V A2 k2 (hV:Below w.heap.size w V) (hr2:Rd V w.heap.size A n b) (hrk:RkRd V V.heap.size A2 l)=>anR V A A2 n c w.heap.size k2 b l hr2 hnc hc hn hrk hV.size hll HSZ.out hd0);unfold avd at HDB;rw[if_neg hd0]at HDB;obtain⟨k,hk⟩:=nmE ((aeN b l).1);rw[hk]at hG HDB hd0;have HG:=hE0 hG;have HKK:=hE0 hd0;obtain⟨ll,hlll⟩:=nmE l.length;rw[hlll]at HBL HDB;clear hG hk hd0 hh hh0 hlo hlen hll hlll;go_enter Tryz.func254,Tryz.ntmps254
   go_wp2_with (first | (rw[HW1.out]) | fail)
   refine HH.out.mono ?_;rintro e w2 ⟨rfl,rfl⟩;go_wp2_with fail
   refine HBL.out.mono ?_;rintro e w2 ⟨A2,rfl,hrk2,hb2⟩;have HD:=hE0 (HDB.out w2 A2 ll (HB1.out.trans (hb2.mono HB1.out.size)) (HR1.out.below (hb2.mono HB1.out.size)) hrk2);have HB2:=hE0 hb2;have N2:=hE0 ((hb2.block _ (aaa HN1.out)).trans HN1.out);clear hb2 hrk2 HDB;go_wp2_with fail
   refine HD.out.mono ?_;rintro e w3 ⟨rfl,_,hb3⟩;have hb2:=HB2.out.trans (hb3.mono HB2.out.size);have n1:=(hb3.block _ (aaa N2.out)).trans N2.out;have hl1:=aaa n1;obtain⟨f0,f1,f2⟩:=acQ n1;obtain⟨z0,z1,z2⟩:=aam n1;have HM:=hE0 (ae9 n1 (.int .i64 0) (.slice none 0 0) (.slice none 0 0));have HF:=hE0 ((((HB1.out.trans (hb2.mono HB1.out.size)).setCell (p:=⟨w.heap.size,0,none⟩) (Nat.le_refl _) (.int .i64 0)).setCell (p:=⟨w.heap.size,1,none⟩) (Nat.le_refl _) (.slice none 0 0)).setCell (p:=⟨w.heap.size,2,none⟩) (Nat.le_refl _) (.slice none 0 0));have N1':=hE0 n1;clear n1;clear hb2 hb3;go_wp2
   (try simp only[Exit.inBlock,Exit.then])
   refine aka (g:=w.heap.size) (x:= .iface 130 (.int .i64 (k:Int))) Tryz.results254 ?_ ?_ ?_ HM.out ?_
   · rfl
   · rfl
   · rfl
   · refine⟨none,none,0,0,?_,?_,?_,fun _ h=>(by cases h),HF.out⟩
     · rw[<-HG.out];unfold ajt;dsimp only;rw[if_neg HKK.out];rfl
     · rw[<-HG.out];exact fun h=>absurd h (by simp)
     · rw[<-HG.out];exact fun h=>absurd h (by simp)
 have hd1:(aeN b l).1=0:=Decidable.byContradiction hd0;rw[if_neg hd0]at hG;have HDB:=hE0 (fun V A2 k2 (hV:Below w.heap.size w V) (hr2:Rd V w.heap.size A n b) (hrk:RkRd V V.heap.size A2 l)=>apV V A A2 n c w.heap.size k2 b l hr2 hnc hc hn hrk hV.size hll HSZ.out hd1);have eV:∀A c,avd (aeN b l) A c= .tuple #[.slice A (aeN b l).2.length c, .nilIface]:=fun A c=>by unfold avd;rw[if_pos hd1]
 simp only[eV]at HDB;clear eV;obtain⟨d,hd⟩:=nmE ((aeN b l).2);rw[hd]at hG HDB;obtain⟨ll,hlll⟩:=nmE l.length;obtain⟨dl,hdll⟩:=nmE d.length;rw[hlll]at HBL HDB;rw[hdll]at HDB;have HG:=hE0 hG;have HLL:=hE0 hlll;have HDL:=hE0 hdll;obtain⟨N,hN⟩:=nmE (acU b);obtain⟨K,hK⟩:=nmE (ac1 b);rw[hN,hK]at HH HBL;rw[hN]at HG;clear hG hd hd0 hd1 hh hh0 hlo hlen hll hlll hdll hN hK hcn;go_enter Tryz.func254,Tryz.ntmps254
 go_wp2_with (first | (rw[HW1.out]) | fail)
 refine HH.out.mono ?_;rintro e w2 ⟨rfl,rfl⟩;go_wp2_with fail
 refine HBL.out.mono ?_;rintro e w2 ⟨A2,rfl,hrk2,hb2⟩;have HD:=hE0 (HDB.out w2 A2 ll (HB1.out.trans (hb2.mono HB1.out.size)) (HR1.out.below (hb2.mono HB1.out.size)) hrk2);have HB2:=hE0 hb2;have HRK2:=hE0 hrk2;have N2:=hE0 ((hb2.block _ (aaa HN1.out)).trans HN1.out);clear hb2 hrk2 HDB;go_wp2_with fail
 refine HD.out.mono ?_;rintro e w3 ⟨A3,c3,rfl,hdt3,hb3⟩;have n2:=(hb3.block _ (aaa N2.out)).trans N2.out;have hl2:=aaa n2;obtain⟨f0,f1,f2⟩:=acQ n2;obtain⟨z0,z1,z2⟩:=aam n2;have HM:=hE0 (ae9 n2 (.int .i64 (N:Int)) (.slice A2 ll ll) (.slice A3 dl c3));have hB3:=HB1.out.trans ((HB2.out.trans (hb3.mono HB2.out.size)).mono HB1.out.size);have HF:=hE0 (((hB3.setCell (p:=⟨w.heap.size,0,none⟩) (Nat.le_refl _) (.int .i64 (N:Int))).setCell (p:=⟨w.heap.size,1,none⟩) (Nat.le_refl _) (.slice A2 ll ll)).setCell (p:=⟨w.heap.size,2,none⟩) (Nat.le_refl _) (.slice A3 dl c3));have N2':=hE0 n2;have HRK3:=hE0 ((HRK2.out.below hb3).more hb3.size);have HDT3:=hE0 hdt3;have HG3:Hid (∀a,A3=some a->w.heap.size<=a.block):=(show ∀a,_->_ from fun a e=>by
  obtain⟨xs,ho,_⟩:=hdt3;have h1:=akb ho a.block (by rw[e];rfl);have h2:=HB1.out.size;have h3:=HB2.out.size;omega)
 clear hb3 n2 hB3 HBL HH hdt3;go_wp2
 (try simp only[Exit.inBlock,Exit.then])
 refine aka (g:=w.heap.size) (x:= .nilIface) Tryz.results254 ?_ ?_ ?_ HM.out ?_
 · rfl
 · rfl
 · rfl
 · refine⟨A2,A3,ll,c3,?_,?_,?_,HG3.out,HF.out⟩
   · rw[<-HG.out];dsimp only;rw[HLL.out,HDL.out];rfl
   · rw[<-HG.out];refine(HRK3.out.off N2'.out fun k hk=> ?_).more (by simp);rw[heap_setCell_other _ _ _ _ hk,heap_setCell_other _ _ _ _ hk,heap_setCell_other _ _ _ _ hk]
   · rw[<-HG.out];obtain⟨xs,ho,hdo⟩:=HDT3.out;rw[<-HDL.out]at ho;have g0:=acu w3 w.heap.size 0 (.int .i64 (N:Int));have g1:=acu (w3.setCell ⟨w.heap.size,0,none⟩ (.int .i64 (N:Int))) w.heap.size 1 (.slice A2 ll ll);have g2:=acu ((w3.setCell ⟨w.heap.size,0,none⟩ (.int .i64 (N:Int))).setCell ⟨w.heap.size,1,none⟩ (.slice A2 ll ll)) w.heap.size 2 (.slice A3 dl c3);have k0:=N2'.out;have k1:=heap_setCell_same w3 w.heap.size 0 _ _ (.int .i64 (N:Int)) k0;have k2:=heap_setCell_same _ w.heap.size 1 _ _ (.slice A2 ll ll) k1;have o1:=acR ho g0 (fun k hk hrk=>by injection hrk with hrk;subst hrk;exact acB ho hk k0 (by decide));have o2:=acR o1 g1 (fun k hk hrk=>by injection hrk with hrk;subst hrk;exact acB o1 hk k1 (by decide));have o3:=acR o2 g2 (fun k hk hrk=>by injection hrk with hrk;subst hrk;exact acB o2 hk k2 (by decide));have d1:=hdo.grown g0 (fun k hrk=>by injection hrk with hrk;subst hrk;exact⟨_,_,_,by decide,k0⟩);have d2:=d1.grown g1 (fun k hrk=>by injection hrk with hrk;subst hrk;exact⟨_,_,_,by decide,k1⟩);have d3:=d2.grown g2 (fun k hrk=>by injection hrk with hrk;subst hrk;exact⟨_,_,_,by decide,k2⟩);exact d3.rd o3
section
variable {bs:List UInt8} {H:Hp}
theorem Rt.mid (h:Rt bs H) (hc:H.cap<=16384){A B:List Bk}{x:Bk}(hb:H.blks=A++x::B):(∀y∈A,32<=y.size/\y.off+y.size<=x.off)/\(∀y∈B,x.off+x.size<=y.off)/\aaG (x.size:Int)=true/\184<=x.off/\32<=x.size/\x.off+x.size<=bs.length:=by
 have hM:=h.md hc;have ht:=hM.tl;rw[hb]at ht;obtain⟨_,t2,_,_,t5,t6,tA,tB⟩:=agb ht;have hf:=hM.facts;have hx:=hf x (by rw[hb];simp);exact⟨fun y hy=>⟨(hf y (by rw[hb];simp[hy])).2,tA y hy⟩,tB,t2,t5,hx.2,t6⟩
theorem Rt.gave (h:Rt bs H) (hc:H.cap<=16384){A1 B1:List Bk}{p n:Option Bk}{x:Bk}(hb:H.blks=(A1++p.toList)++x::(n.toList++B1)) (hN:alp A1 p n B1){out:List UInt8}
 (hP:∀z∈H.blks,z.used=true->z≠x->∀i,Pay z i->out[i]?=bs[i]?):Held H bs (H.give (A1++p.toList).length) out:=by
 intro z hz hzu y hy hyu e i i1 i2 i3;obtain⟨tA,tB,_,_,t5,_⟩:=h.mid hc hb;obtain⟨gb,_⟩:=alr hb hN;by_cases hzx:z=x
 · exfalso;subst hzx;rw[gb]at hy;rcases List.mem_append.1 hy with hy | hy
   · have:=tA y (by simp[hy]);omega
   · rcases List.mem_cons.1 hy with rfl | hy
     · cases hyu
     · have:=tB y (by simp[hy]);omega
 · exact hP z hz hzu hzx i ⟨i1,i2⟩
theorem Rt.cutting (h:Rt bs H) (hc:H.cap<=16384){A B:List Bk}{xo xs:Nat}(hb:H.blks=A++⟨xo,xs,true⟩::B){s:Nat}(hs:aaG (s:Int)=true) (hle:s+32<=xs):
 ∃(b1 b2:List UInt8) (H1:Hp) (A1 B1:List Bk) (p n:Option Bk),aek bs (xo:Int) (s:Int) true=some b1/\aek b1 ((xo+s:Nat):Int) ((xs-s:Nat):Int) true=some b2/\b1.length=bs.length/\b2.length=bs.length/\
  H1.cap=H.cap/\Rt b2 H1/\H1.blks=(A1++p.toList)++⟨xo+s,xs-s,true⟩::(n.toList++B1)/\alp A1 p n B1/\H1.give (A1++p.toList).length=H.cut A.length s/\
  ∀out:List UInt8,(∀z∈H1.blks,z.used=true->z≠⟨xo+s,xs-s,true⟩->∀i,Pay z i->out[i]?=b2[i]?)->Held H bs (H.cut A.length s) out/\∀z∈H.blks,z.used=true->z.off≠xo->∀i,Pay z i->out[i]?=bs[i]?:=by
 obtain⟨s1,s2,l1,l2,hblk,hR1,P1,P2⟩:=h.cuts hc hb rfl hs hle;obtain⟨tA,tB,_,t4,t5,_⟩:=h.mid hc hb;dsimp only at s1 s2 l1 l2 hblk hR1 P1 P2 tA tB t4 t5;have q:=(aab _).1 hs;obtain⟨H1,hH1⟩:=nmE (((H.use A.length true).size A.length s).put (A.length+1) ⟨xo+s,xs-s,true⟩);rw[hH1]at hblk hR1;obtain⟨A1,p,n,B1,eA,eB,hN⟩:=alq (A++ [⟨xo,s,true⟩]) B;have hlen:(A1++p.toList).length=A.length+1:=by rw[<-eA];simp
 have hbx:aal H.blks A.length=⟨xo,xs,true⟩:=by rw[hb,ad5]
 have hcut:H1.give (A1++p.toList).length=H.cut A.length s:=by
  unfold Hp.cut;rw[hbx];dsimp only;rw[if_neg (by omega),hH1,hlen]
 have hb1:H1.blks=(A1++p.toList)++⟨xo+s,xs-s,true⟩::(n.toList++B1):=by rw[hblk,eA,eB]
 refine⟨_,_,H1,A1,B1,p,n,s1,s2,l1,l2,by rw[<-hH1];rfl,hR1,hb1,hN,hcut,fun out hP=> ?_⟩;have hz:∀z∈H.blks,z.used=true->z.off≠xo->∀i,Pay z i->out[i]?=bs[i]?:=fun z hz hzu hzo i hi=>by
  have hne:z≠⟨xo,xs,true⟩:=fun e=>hzo (by rw[e]);rw[<-P1 z hz hne i hi];rw[hb]at hz;rcases List.mem_append.1 hz with hz | hz
  · have:=tA z hz;exact hP z (by rw[hblk];simp[hz]) hzu (fun e=>by rw[e]at this;dsimp only at this;omega) i hi
  · rcases List.mem_cons.1 hz with hz | hz
    · exact absurd hz hne
    · have:=tB z hz;exact hP z (by rw[hblk];simp[hz]) hzu (fun e=>by rw[e]at this;dsimp only at this;omega) i hi
 refine⟨fun z hzm hzu y hy hyu e i i1 i2 i3=> ?_,hz⟩;by_cases hzo:z.off=xo
 · rw[<-hcut]at hy;obtain⟨gb,_⟩:=alr hb1 hN;rw[gb]at hy;have hy1:y=⟨xo,s,true⟩:=by
    rcases List.mem_append.1 hy with hy | hy
    · have hy:y∈A++ [⟨xo,s,true⟩]:=by rw[eA];simp[hy]
      rcases List.mem_append.1 hy with hy | hy
      · have:=tA y hy;omega
      · simpa using hy
    · rcases List.mem_cons.1 hy with rfl | hy
      · cases hyu
      · have hy:y∈B:=by rw[eB];simp[hy]
        have:=tB y hy;omega
   subst hy1;dsimp only at i3 e;rw[<-P2 i ⟨by dsimp only;omega,i3⟩];exact hP ⟨xo,s,true⟩ (by rw[hblk];simp) rfl (fun e=>by injection e with e1 e2;omega) i ⟨by dsimp only;omega,i3⟩
 · exact hz z hzm hzu hzo i ⟨i1,i2⟩
theorem Rt.uncut (h:Rt bs H){A B:List Bk}{xo xs:Nat}(hb:H.blks=A++⟨xo,xs,true⟩::B){s:Nat}(hlt:xs<s+32):Rt bs (H.cut A.length s)/\Held H bs (H.cut A.length s) bs:=by
 have hbx:aal H.blks A.length=⟨xo,xs,true⟩:=by rw[hb,ad5]
 have hcut:H.cut A.length s=H.use A.length true:=by
  unfold Hp.cut;rw[hbx];dsimp only;rw[if_pos (by omega)]
 refine⟨?_,fun _ _ _ _ _ _ _ _ _ _ _=>rfl⟩;rw[hcut];refine h.congr ?_ rfl rfl;rw[agC hb true,hb]
end
theorem at0{H:Hp}{i:Nat}(hi:i<H.blks.length):(H.use i true).use i true=H.use i true:=by
 have e:aal (H.use i true).blks i={aal H.blks i with used:=true}:=by
  show aal (H.blks.set i _) i=_;rw[acH _ _ _ _ hi,if_pos rfl]
 unfold Hp.use at e ⊢;dsimp only at e ⊢;rw[e,List.set_set]
theorem at1{H:Hp}{i s:Nat}(hi:i<H.blks.length):(H.use i true).cut i s=H.cut i s:=by
 have e:aal (H.use i true).blks i={aal H.blks i with used:=true}:=by
  show aal (H.blks.set i _) i=_;rw[acH _ _ _ _ hi,if_pos rfl]
 unfold Hp.cut;rw[e,at0 hi]
theorem anV (r:List Bk) (y:Bk):acq (r++ [y])=if y.used=true then 0 else y.size:=by
 have e:aal (r++ [y]) ((r++ [y]).length-1)=y:=by
  rw[show(r++ [y]).length-1=r.length by simp];exact ad5 r y []
 unfold acq;rw[if_neg (by simp),e]
section
variable {bs:List UInt8} {H:Hp}
theorem Rt.tail (h:Rt bs H) (hc:H.cap<=16384):∃A p,H.blks=A++p.toList/\(∀y,p=some y->y.used=false)/\frO (abK bs (bs.length:Int))=p/\acq H.blks=abd p.toList:=by
 have hM:=h.md hc;have hb:H.blks=H.blks++ []:=by simp
 rcases hM.ends hb (o:=bs.length) h.lenE.symm with⟨e1,e2⟩ | ⟨r,y,e1,e2⟩
 · refine⟨[],none,e1,fun y hy=>(by cases hy),?_,?_⟩
   · rw[e2];rfl
   · rw[e1];rfl
 · have e3:=anV r y
   cases hu:y.used with
   | true=>
    rw[hu,if_pos rfl]at e3;refine⟨H.blks,none,by simp,fun y hy=>(by cases hy),?_,by rw[e1,e3];rfl⟩;rw[e2];show(if y.used=true then none else some y)=none;rw[hu,if_pos rfl]
   | false=>
    rw[hu,if_neg (by simp)]at e3;refine⟨r,some y,e1,?_,?_,by rw[e1,e3];simp[abd]⟩
    · intro z hz
      cases hz;exact hu
    rw[e2];show(if y.used=true then none else some y)=some y;rw[hu,if_neg (by simp)]
theorem asa{s i:Nat}(hf:H.find s=some i):H.take s=(some (aal H.blks i).off,(H.out i).cut i s):=by
 unfold Hp.take;rw[hf]
theorem ap4{s:Nat}(hf:H.find s=none) (hcap:H.cap<lenB H.blks+s-acq H.blks):H.take s=(none,H):=by
 unfold Hp.take;rw[hf];dsimp only;rw[if_pos hcap]
theorem asb{s:Nat}(hf:H.find s=none) (hcap:¬H.cap<lenB H.blks+s-acq H.blks){A:List Bk}{p:Option Bk}(hb:H.blks=A++p.toList) (ht:acq H.blks=abd p.toList)
 (hp:∀y,p=some y->y.off=184+abd A/\0<y.size):∃H',H.take s=(some (184+abd A),H')/\H'.blks=A++ [⟨184+abd A,s,true⟩]/\H'.lists=tkO H.lists p/\H'.cap=H.cap:=by
 refine⟨(H.take s).2,?_,?_,?_,?_⟩
 · have:(H.take s).1=some (184+abd A):=by
    unfold Hp.take;rw[hf];dsimp only;rw[if_neg hcap]
    cases p with
    | none=>
     have e:acq H.blks=0:=ht;rw[e,if_neg (by omega)];rw[hb];simp[lenB]
    | some y=>
     have e:acq H.blks=y.size:=by rw[ht];simp[abd]
     obtain⟨h1,h2⟩:=hp y rfl;rw[e,if_pos h2];have e2:H.blks.length-1=A.length:=by rw[hb];simp
     rw[e2,hb];show some (aal (A++y:: []) A.length).off=_;rw[ad5,h1]
   rw[<-this]
 · unfold Hp.take;rw[hf];dsimp only;rw[if_neg hcap]
   cases p with
   | none=>
    have e:acq H.blks=0:=ht;rw[e,if_neg (by omega)];have hb':H.blks=A:=by rw[hb];simp
    show H.blks.take H.blks.length++_::H.blks.drop H.blks.length=_;rw[List.take_length,List.drop_length,hb'];rfl
   | some y=>
    have e:acq H.blks=y.size:=by rw[ht];simp[abd]
    obtain⟨h1,h2⟩:=hp y rfl;rw[e,if_pos h2];have e2:H.blks.length-1=A.length:=by rw[hb];simp
    rw[e2];have hb2:(H.out A.length).blks=A++y:: []:=hb;have:=agC (amB hb2 s) true;show(((H.out A.length).size A.length s).use A.length true).blks=_;rw[this,<-h1]
 · unfold Hp.take;rw[hf];dsimp only;rw[if_neg hcap]
   cases p with
   | none=>
    have e:acq H.blks=0:=ht;rw[e,if_neg (by omega)];rfl
   | some y=>
    have e:acq H.blks=y.size:=by rw[ht];simp[abd]
    obtain⟨h1,h2⟩:=hp y rfl;rw[e,if_pos h2];have e2:H.blks.length-1=A.length:=by rw[hb];simp
    rw[e2];show(H.out A.length).lists=_;rw[agD hb];rfl
 · exact take_cap
theorem Rt.usedHeld (h:Rt bs H) (hc:H.cap<=16384){A B:List Bk}{xo xs:Nat}(hb:H.blks=A++⟨xo,xs,false⟩::B){b2 out:List UInt8}{H2 H3:Hp}(hb2:H2.blks=A++⟨xo,xs,true⟩::B)
 (h1:∀z∈H.blks,z.used=true->∀i,Pay z i->b2[i]?=bs[i]?) (h2:∀z∈H2.blks,z.used=true->z.off≠xo->∀i,Pay z i->out[i]?=b2[i]?):Held H bs H3 out:=by
 intro z hz hzu y _ _ _ i i1 i2 _;have hp:Pay z i:=⟨i1,i2⟩;obtain⟨tA,tB,_,t4,t5,_⟩:=h.mid hc hb;dsimp only at tA tB t4 t5;rw[<-h1 z hz hzu i hp];rw[hb]at hz;rcases List.mem_append.1 hz with hz | hz
 · have:=tA z hz;exact h2 z (by rw[hb2];simp[hz]) hzu (by omega) i hp
 · rcases List.mem_cons.1 hz with hz | hz
   · rw[hz]at hzu;cases hzu
   · have:=tB z hz;exact h2 z (by rw[hb2];simp[hz]) hzu (by omega) i hp
end
theorem ap5{l:List Bk}(h:afW false l=true):afW true l=true:=by
 cases l with
 | nil=>rfl
 | cons y r=>
  rw[aaL,Bool.false_or,Bool.and_eq_true]at h;rw[aaL,Bool.true_or,Bool.true_and];exact h.2
section
variable {bs:List UInt8} {H:Hp}
theorem ai8{A B1:List Bk}{n:Option Bk}{xo xs:Nat}(hb:H.blks=A++⟨xo,xs,true⟩::(n.toList++B1)) (hf:∀y,n=some y->y.used=false) (hu:n=none->∀y r,B1=y::r->y.used=true):
 (H.widen A.length).blks=A++⟨xo,xs+(n.map Bk.size).getD 0,true⟩::B1/\(H.widen A.length).lists=tkO H.lists n/\ahs H.blks A.length=xs+(n.map Bk.size).getD 0/\acG H.blks A.length=n.isSome:=by
 have hbk:aal H.blks A.length=⟨xo,xs,true⟩:=by rw[hb,ad5]
 have hi:A.length<H.blks.length:=by rw[hb];simp
 cases n with
 | none=>
  have hn:acG H.blks A.length=false:=by
   rw[hb,agE]
   cases B1 with
   | nil=>rfl
   | cons y r=>
    show(!y.used)=false;rw[hu rfl y r rfl];rfl
  have e:=aln hn;rw[hbk]at e;refine⟨?_,?_,e,by rw[hn];rfl⟩
  · rw[(aen hn hi).1,hb];rfl
  · unfold Hp.widen;rw[ahX hn];rfl
 | some m=>
  have hm:=hf m rfl;have hn:acG H.blks A.length=true:=by
   rw[hb,agE];show(!m.used)=true;rw[hm];rfl
  have e:=aiT hn;have hbk1:aal H.blks (A.length+1)=m:=by rw[hb];exact alo A _ m B1
  rw[hbk,hbk1]at e;refine⟨?_,?_,e,by rw[hn];rfl⟩
  · rw[(aem hn).1];exact aiV (H:=H.out (A.length+1)) (y:=⟨xo,xs,true⟩) (z:=m) hb
  · have hb':H.blks=(A++ [⟨xo,xs,true⟩])++m::B1:=by rw[hb];simp
    have:=agD hb';rw[List.length_append,List.length_singleton]at this;unfold Hp.widen;rw[agB hn];exact this
theorem Rt.wide (h:Rt bs H) (hc:H.cap<=16384){A B1:List Bk}{n:Option Bk}{xo xs n0 t:Nat}(hb:H.blks=A++⟨xo,xs,true⟩::(n.toList++B1)) (hf:∀y,n=some y->y.used=false)
 (ht:t=xs+(n.map Bk.size).getD 0+n0) (hend:n0=0\/B1= []) (hs:aaG (t:Int)=true) (hcap:bs.length+n0<=H.cap):
 ∃b1,apK (bs++List.replicate n0 0) n=some b1/\aek b1 (xo:Int) (t:Int) true=some (aaY b1 ⟨xo,t,true⟩)/\b1.length=bs.length+n0/\(aaY b1 ⟨xo,t,true⟩).length=bs.length+n0/\
  (∀H':Hp,H'.blks=A++⟨xo,t,true⟩::B1->H'.lists=tkO H.lists n->H'.cap=H.cap->Rt (aaY b1 ⟨xo,t,true⟩) H')/\
  (∀z∈H.blks,z.used=true->z.off≠xo->∀i,Pay z i->(aaY b1 ⟨xo,t,true⟩)[i]?=bs[i]?)/\∀i,Pay ⟨xo,xs,true⟩ i->(aaY b1 ⟨xo,t,true⟩)[i]?=bs[i]?:=by
 have hM:=h.md hc;have hF:=h.complete;have hadj:afW true H.blks=true:=by rw[<-abf];exact h.nfree.2.1
 have htl:=hM.tl;rw[hb]at htl;obtain⟨t1,t2,t3,t4,t5,t6,tA,tB⟩:=agb htl;dsimp only at t1 t2 t3 t4 t5 t6 tA tB;rw[aaF]at t3;obtain⟨t7,t8⟩:=t3;have hl0:=hM.ls.len;have ss:=(aab _).1 hs;have sx:=(aab _).1 t2;have hnz:(n.map Bk.size).getD 0=abd n.toList:=by cases n<;>simp[abd]
 have hB1:=(aak _ _ _ t8).2;have hle8:=(aak _ _ _ t8).1;have hlm:(bs++List.replicate n0 (0:UInt8)).length=bs.length+n0:=by rw[List.length_append,List.length_replicate]
 have hnm:∀y,n=some y->y∈H.blks/\xo+xs<=y.off/\y.off+y.size<=xo+xs+abd n.toList:=fun y hy=>by
  rw[hy]at t7;obtain⟨a,_,_⟩:=t7;refine⟨by rw[hb,hy];simp,by omega,?_⟩;rw[hy];simp[abd];omega
 obtain⟨b1,e1,L1,l1,k1,w1⟩:=(hM.ls.more n0 (by omega)).takeO n (fun y hy=>by
  have hyP:=(hnm y hy).1;obtain⟨c1,c2⟩:=adf (hM.ls.st.facts hyP).2.2.2.2.2;exact⟨hyP,hF _ c2 _ (abe hyP (hf y hy) c1)⟩)
 obtain⟨y1,hy1⟩:∃y1:Bk,y1=⟨xo,t,true⟩:=⟨_,rfl⟩;have o1:y1.off=xo:=by rw[hy1]
 have z1:y1.size=t:=by rw[hy1]
 have u1:y1.used=true:=by rw[hy1]
 have hs1:aaG (y1.size:Int)=true:=by rw[z1];exact hs
 have hendl:xo+xs+abd n.toList<=bs.length/\(n0=0\/xo+xs+abd n.toList=bs.length):=by
  refine⟨hle8,hend.imp id fun e=> ?_⟩;rw[e]at t8;exact t8
 have hle:y1.off+y1.size<=b1.length:=by omega
 have s1:aek b1 (y1.off:Int) (y1.size:Int) y1.used=some (aaY b1 y1):=aeL b1 y1 (by omega) (by omega) hle hs1;have l2:(aaY b1 y1).length=b1.length:=aba hs1 hle;rw[o1,z1,u1]at s1;rw[<-hy1];have inB:∀y∈B1,y1.off+y1.size<=y.off:=fun y hy=>by
  rcases hend with e | e
  · have:=(hB1 y hy).1;omega
  · rw[e]at hy;cases hy
 have hdA:∀y∈A++y1::B1,y=y1\/(y∈H.blks/\(y.off+y.size<=y1.off\/y1.off+y1.size<=y.off)):=fun y hy=>by
  rcases List.mem_append.1 hy with hy | hy
  · exact .inr ⟨by rw[hb];simp[hy], .inl (by have:=tA y hy;omega)⟩
  · rcases List.mem_cons.1 hy with rfl | hy
    · exact .inl rfl
    · exact .inr ⟨by rw[hb];simp[hy], .inr (inB y hy)⟩
 have L2:Lists (aaY b1 y1) (A++y1::B1) (tkO H.lists n):=by
  refine L1.set (by omega) (by omega) hle hs1 hdA fun c hc q hq=> ?_;rw[adz]at hq;obtain⟨y,hy,ey,hyu,hyc⟩:=hM.ls.mem c hc q hq.1;have hy':=hy;rw[hb]at hy;rcases List.mem_append.1 hy with hy | hy
  · exact⟨y,by simp[hy],hy',ey, .inl (by have:=tA y hy;omega)⟩
  · rcases List.mem_cons.1 hy with rfl | hy
    · cases hyu
    · rcases List.mem_append.1 hy with hy | hy
      · obtain⟨c1,_⟩:=adf (hM.ls.st.facts hy').2.2.2.2.2;exact absurd ey.symm (hq.2 y (by simpa using hy) (by omega))
      · exact⟨y,by simp[hy],hy',ey, .inr (inB y hy)⟩
 refine⟨b1,e1,s1,by omega,by omega,fun H' g1 g2 g3=> ?_,fun z hz hzu hzo i hi=> ?_,fun i hi=> ?_⟩
 · have hi:=hM.hi;have hi2:aaf (bs++List.replicate n0 (0:UInt8)) 0=aaf bs 0:=ab9 _ _ _ (by omega);have M:Md (aaY b1 y1) H':=by
    refine⟨?_,by rw[g1,g2];exact L2,?_,by rw[g3];omega⟩
    · rw[g1,aaF];have q0:xo=184+abd A:=aeW _ _ _ t1;rw[<-q0];refine⟨t1,o1,hs1,?_⟩;rw[l2,l1,hlm,z1];rcases hend with e | e
      · rw[show xo+t=xo+xs+abd n.toList by omega,show bs.length+n0=bs.length by omega];exact t8
      · rw[e];show xo+t=bs.length+n0;have:=hendl.2;rw[e]at t8;have t8:xo+xs+abd n.toList=bs.length:=t8;omega
    · rw[aaU hs1 hle _ (by omega)];omega
   refine M.rt (fun c hc q hq=> ?_) ?_
   · rw[g1]at hq;rw[g2,adz];obtain⟨y,hy,ey,hyu,hyc⟩:=abA hq;rcases hdA y hy with rfl | ⟨hyP,hd⟩
     · rw[u1]at hyu;cases hyu
     · have:=hM.facts y hyP;refine⟨by rw[<-ey];exact hF c hc _ (abe hyP hyu hyc),fun z hz _=> ?_⟩;have:=hnm z hz;have:=hM.facts z (hnm z hz).1;omega
   · rw[g1,abf,abF,aaL,u1];rw[hb,abF,aaL]at hadj;simp only[Bool.and_eq_true,Bool.or_true]at hadj ⊢;refine⟨hadj.1,trivial,?_⟩;have h2:=hadj.2.2
     cases n with
     | none=>exact h2
     | some m=>
      have hm:=hf m rfl;have h2:afW true (m::B1)=true:=h2;rw[aaL,hm,Bool.and_eq_true]at h2;exact ap5 h2.2
 · have hd:z.off+z.size<=y1.off\/y1.off+y1.size<=z.off:=by
    rw[hb]at hz;rcases List.mem_append.1 hz with hz | hz
    · exact .inl (by have:=tA z hz;omega)
    · rcases List.mem_cons.1 hz with rfl | hz
      · exact absurd rfl hzo
      · rcases List.mem_append.1 hz with hz | hz
        · have:=hf z (by simpa using hz);rw[hzu]at this;cases this
        · exact .inr (inB z hz)
   have hzf:=hM.ls.st.facts hz;have k:=k1.pay hM.facts hM.ls.st.apart hz hzu hi;obtain⟨i1,i2⟩:=hi;rw[acI hs1 hle i (by omega),k,aga _ _ _ (by omega)]
 · have hxP:(⟨xo,xs,true⟩:Bk)∈H.blks:=by rw[hb];simp
   have k:=k1.pay hM.facts hM.ls.st.apart hxP rfl hi;obtain⟨i1,i2⟩:=hi;dsimp only at i1 i2;have hzf:=hM.ls.st.facts hxP;dsimp only at hzf;rw[acI hs1 hle i (by omega),k,aga _ _ _ (by omega)]
end
structure Dst where
 bs:List UInt8
 wt:List (Nat × List UInt8)
 left:Int
 off:Bool
def dwr (s:Dst) (p:Nat) (d:List UInt8):Nat × Dst:=if s.off=true\/s.left=0 then (6,{s with off:=true}) else (0,{s with wt:=s.wt++ [(p,d)],left:=ab1 s.left 1})
def dfl (s:Dst):Nat × Dst:=if s.off=true then (6,s) else (0,{s with bs:=aeH s.bs s.wt,wt:= []})
def aib (s:Dst) (p:Nat) (b:List UInt8):Nat × Dst:=
 (if wk (need b.length) s.left s.off<need b.length then 6 else 0,{s with wt:=s.wt++agO p b (wk (need b.length) s.left s.off),left:=ab1 s.left (wk (need b.length) s.left s.off),off:=s.off || decide (wk (need b.length) s.left s.off<need b.length)})
section
variable {N:Nat} {S S':Nat->Prop} {w w1 w2:World} {g:Nat} {s:Dst}
end
def DS (N:Nat) (S:Nat->Prop) (w:World) (g:Nat) (s:Dst):Prop:=
 ∃h c W cw ws,Dk S w g h c W cw s.bs ws s.left s.off/\ws.map Wr.two=s.wt/\s.bs.length=512*N/\∀j,S j->j<w.heap.size
section
variable {N:Nat} {S S':Nat->Prop} {w w1 w2:World} {g:Nat} {s:Dst}
theorem DS.below (h:DS N S w g s) (hb:Below w.heap.size w w1):DS N S w1 g s:=by
 obtain⟨q,c,W,cw,ws,k,e1,e2,hs⟩:=h;exact⟨q,c,W,cw,ws,k.below hb,e1,e2,fun j hj=>Nat.lt_of_lt_of_le (hs j hj) hb.size⟩
theorem DS.tch{R:Nat->Prop}(h:DS N S w g s) (ht:Tch R w w1) (hd:∀j,S j->¬R j):DS N S w1 g s:=by
 obtain⟨q,c,W,cw,ws,k,e1,e2,hs⟩:=h;exact⟨q,c,W,cw,ws,k.tch ht hd,e1,e2,fun j hj=>Nat.lt_of_lt_of_le (hs j hj) ht.size⟩
theorem DS.regrow (h:DS N (ad1 (ad1 S w w1) w1 w2) w2 g s) (h1:w.heap.size<=w1.heap.size) (h2:w1.heap.size<=w2.heap.size):DS N (ad1 S w w2) w2 g s:=by
 obtain⟨q,c,W,cw,ws,k,e1,e2,hs⟩:=h;exact⟨q,c,W,cw,ws,k.regrow h1 h2,e1,e2,fun j hj=>by
  rcases hj with h | h
  · exact hs j (.inl (.inl h))
  · exact h.2⟩
theorem DS.grown (h:DS N S w1 g s) (_ht:Tch S w w1):DS N (ad1 S w w1) w1 g s:=by
 obtain⟨q,c,W,cw,ws,k,e1,e2,hs⟩:=h;exact⟨q,c,W,cw,ws,k.more fun j hj=> .inl (k.foot hj).1,e1,e2,fun j hj=>by
  rcases hj with h | h
  · exact hs j h
  · exact h.2⟩
def StpD (N:Nat) (S:Nat->Prop) (w:World) (g:Nat) (r:Nat × Dst) (e:Ending) (w':World):Prop:=e= .returned (ajt r.1)/\DS N (ad1 S w w') w' g r.2/\Tch S w w'
theorem DS.flush (h:DS N S w g s) (hN2:N<=128):
 Calls Tryz.prog 209 #[.pointer (some ⟨g,0,none⟩)] w fun e w'=>StpD N S w g (dfl s) e w':=by
 obtain⟨q,c,W,cw,ws,k,e1,e2,hs⟩:=h;obtain⟨bs,wt,left,off⟩:=s;dsimp only at k e1 e2
 cases off with
 | true=>
  refine(anF k).mono ?_;rintro e w' ⟨rfl,rfl⟩;exact⟨rfl,DS.grown ⟨q,c,W,cw,ws,k,e1,e2,hs⟩ (Tch.refl _ _),Tch.refl _ _⟩
 | false=>
  have hf:=k.fits;refine(ape k (by omega)).mono ?_;rintro e w' ⟨rfl,k',ht⟩;refine⟨rfl,DS.grown ⟨q,c,none,0,[],?_,rfl,?_,fun j hj=>Nat.lt_of_lt_of_le (hs j hj) ht.size⟩ ht,ht⟩
  · unfold dfl;rw[if_neg Bool.false_ne_true,<-e1];exact k'
  · unfold dfl;rw[if_neg Bool.false_ne_true,<-e1];dsimp only;rw[abX _ _ hf];exact e2
theorem DS.outs (h:DS N S w g s) (hN2:N<=128) (hw:s.wt.length<=100000) (hl:s.left<=9223372036854775807) (p:Nat) (A:Option Addr) (cA:Nat) (b:List UInt8) (hr:Rd w w.heap.size A b.length b) (hbc:b.length<=cA) (hcm:cA<=9223372036854775807) (hA:0<b.length->∀a,A=some a->¬S a.block) (hp:p+need b.length<=N):
 Calls Tryz.prog 208 #[.pointer (some ⟨g,0,none⟩), .int .i64 (p:Int), .slice A b.length cA] w fun e w'=>StpD N S w g (aib s p b) e w':=by
 obtain⟨q,c,W,cw,ws,k,e1,e2,hs⟩:=h;obtain⟨bs,wt,left,off⟩:=s;dsimp only at k e1 e2 hw hl;have hws:ws.length<=100000:=by have:=congrArg List.length e1;simp at this;omega
 refine(anP k N e2 hN2 hws hl p A cA b hr hbc hcm hA _ rfl hp _ rfl).mono ?_;rintro e w' ⟨rfl,⟨W',cw',vs,k',hv⟩,ht⟩;unfold aib;refine⟨?_,⟨q,c,W',cw',vs,k',?_,e2,fun j hj=> ?_⟩,ht⟩
 · dsimp only;split
   · rfl
   · rfl
 · rw[hv,e1]
 · rcases hj with h | h
   · exact Nat.lt_of_lt_of_le (hs j h) ht.size
   · exact h.2
theorem DS.two{r:Nat × Dst}{P:Ending->World->Prop}{f:FuncId}{vs:Array Value}(ht:Tch S w w1) (hc:Calls Tryz.prog f vs w1 fun e w2=>StpD N (ad1 S w w1) w1 g r e w2) (h1:w.heap.size<=w1.heap.size) (hP:∀e w2,e= .returned (ajt r.1)->DS N (ad1 S w w2) w2 g r.2->Tch S w w2->P e w2):Calls Tryz.prog f vs w1 P:=
 hc.mono fun e w2 h=>hP e w2 h.1 (h.2.1.regrow h1 h.2.2.size) (ht.regrow h.2.2)
theorem StpD.from{r:Nat × Dst}{e:Ending}(hb:Below w.heap.size w w1) (h0:e= .returned (ajt r.1)) (h1:DS N (ad1 S w1 w2) w2 g r.2) (h2:Tch S w1 w2):StpD N S w g r e w2:=by
 refine⟨h0,?_,(Tch.of_below (S:=S) hb).trans h2 fun i hi hg=>hg⟩;obtain⟨q,c,W,cw,ws,k,e1,e2,hs⟩:=h1;have hg:∀j,ad1 S w1 w2 j->ad1 S w w2 j:=fun j hj=>by
  rcases hj with h | h
  · exact .inl h
  · exact .inr ⟨Nat.le_trans hb.size h.1,h.2⟩
 refine⟨q,c,W,cw,ws,k.more fun j hj=>hg j (k.foot hj).1,e1,e2,fun j hj=> ?_⟩;rcases hj with h | h
 · exact hs j (.inl h)
 · exact h.2
theorem DS.read (h:DS N S w g s) (hN2:N<=128) (ho:s.off=false) (p:Nat) (hp:p<N):
 Calls Tryz.prog 204 #[.pointer (some ⟨g,0,none⟩), .int .i64 (p:Int)] w fun e w'=>arr (abB s.bs s.wt p) w e w':=by
 obtain⟨q,c,W,cw,ws,k,e1,e2,hs⟩:=h;rw[ho]at k;rw[<-e1];exact amw k (by omega) p (by omega)
theorem DS.reads (h:DS N S w g s) (hN2:N<=128) (ho:s.off=false) (p n:Nat) (hp:p+need n<=N):
 Calls Tryz.prog 206 #[.pointer (some ⟨g,0,none⟩), .int .i64 (p:Int), .int .i64 (n:Int)] w fun e w'=>arr ((adw s.bs s.wt p (need n)).take n) w e w':=by
 obtain⟨q,c,W,cw,ws,k,e1,e2,hs⟩:=h;rw[<-e1];exact apo k N e2 hN2 p n _ rfl hp (fun e=>by rw[ho]at e;cases e) _ rfl
end
end Go.Proofs.YtncadccbepjekaaGreatDoor
