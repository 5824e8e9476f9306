/- Texts of mine, joined. -/
import Derived.Test.YtncadccbepjekaaGreatDoorU45
import Derived.Test.YtncadccbepjekaaGreatDoorU46
import Derived.Test.YtncadccbepjekaaGreatDoorU47
set_option maxRecDepth 100000
namespace Go.Proofs.YtncadccbepjekaaGreatDoor
open Go.RowKit Go.ChangeShapes Go.WideShapes Go.Deep
section
variable {H:Type} {enc:TypeId × Value->H} {w:World} {base:Nat} {held:Bool} {fuel:Nat} {A:Option Addr} {len cap:Nat} {x:DataW H × List MemPlace}
theorem ajx (h:DataW.trod enc Tryz.prog w base (fun _=>true) held fuel 22 [.slice A len cap]=some x):∃l:List Cl,l.length=len/\ClRd w w.heap.size A l/\len<=maxLen:=by
 have hC:Tryz.prog.cellsOf 46=7:=by kernel_rfl
 have hC1:Tryz.prog.cellsOf 3=1:=by kernel_rfl
 have hC6:Tryz.prog.cellsOf 43=6:=by kernel_rfl
 have hone:oneCellFields Tryz.prog (match Tryz.prog.underlying 43 with
  | some (.struct fs)=>fs
  | _=> #[])=true:=by kernel_rfl
 rw[Tryz.underlying43]at hone;dsimp only at hone;rcases open_slice Tryz.underlying22 h with⟨hcs,_⟩ | ⟨a,l,c,m,n,D,Pl,hcs,_,hl,hm,hmm,_,hi⟩
 · simp at hcs;obtain⟨rfl,rfl,rfl⟩:=hcs;exact⟨[],rfl,fun hn=>absurd hn (by simp),Nat.zero_le _⟩
 · simp at hcs;obtain⟨rfl,rfl,rfl⟩:=hcs;simp only[if_true]at hmm;subst hmm;rw[hC]at hi;obtain⟨ds,hd,hp⟩:=alQ (p:=fun i (d:Cl)=>d.ok/\Rd w w.heap.size d.A d.b.length d.b/\w.cell? (a.add (i*7))=some (.int .i64 d.which)/\w.cell? (a.add (i*7+1))=some (.int .i64 d.op)/\w.cell? (a.add (i*7+2))=some (.int .u64 (d.h:Int))/\
    w.cell? (a.add (i*7+3))=some (.int .u64 (d.n:Int))/\w.cell? (a.add (i*7+4))=some (.int .u64 (d.m:Int))/\w.cell? (a.add (i*7+5))=some (.int .u64 (d.at_:Int))/\w.cell? (a.add (i*7+6))=some (.slice d.A d.b.length d.c)) len (fun i hil=>by
    obtain⟨cs',hc,ht⟩:=hi i (by omega);obtain⟨_,hcl,hat⟩:=World.cells?_some hc;obtain⟨xs,n',_,_,_,hlen,hf⟩:=DataW.trod_struct Tryz.underlying46 ht;match cs',hcl,xs,hlen with
    | [v,v0,v1,v2,v3,v4,v5],_,[y,z],_=>
     have g:DataW.trod enc Tryz.prog w base (fun _=>true) held n' 3 (List.take (Tryz.prog.cellsOf 3) (List.drop 0 [v,v0,v1,v2,v3,v4,v5]))= [y,z][0]?:=hf 0 _ rfl;have f:DataW.trod enc Tryz.prog w base (fun _=>true) held n' 43 (List.take (Tryz.prog.cellsOf 43) (List.drop 1 [v,v0,v1,v2,v3,v4,v5]))= [y,z][1]?:=hf 1 _ rfl;rw[hC1]at g;rw[hC6]at f;simp only[List.drop_zero,List.drop_succ_cons,List.take_succ_cons,List.take_zero,List.getElem?_cons_zero,List.getElem?_cons_succ]at g f;obtain⟨xs2,n2,_,_,_,hlen2,hf2⟩:=DataW.trod_struct Tryz.underlying43 f;match xs2,hlen2 with
     | [y0,y1,y2,y3,y4,y5],_=>
      have g0:=hf2 0 _ rfl;have g1:=hf2 1 _ rfl;have g2:=hf2 2 _ rfl;have g3:=hf2 3 _ rfl;have g4:=hf2 4 _ rfl;have g5:=hf2 5 _ rfl;rw[(hone_of hone 0 _ rfl).1,(hone_of hone 0 _ rfl).2]at g0;rw[(hone_of hone 1 _ rfl).1,(hone_of hone 1 _ rfl).2]at g1;rw[(hone_of hone 2 _ rfl).1,(hone_of hone 2 _ rfl).2]at g2;rw[(hone_of hone 3 _ rfl).1,(hone_of hone 3 _ rfl).2]at g3;rw[(hone_of hone 4 _ rfl).1,(hone_of hone 4 _ rfl).2]at g4;rw[(hone_of hone 5 _ rfl).1,(hone_of hone 5 _ rfl).2]at g5;simp only[List.drop_zero,List.drop_succ_cons,List.take_succ_cons,List.take_zero,List.getElem?_cons_zero,List.getElem?_cons_succ]at g0 g1 g2 g3 g4 g5;obtain⟨k,hk,_,wk⟩:=DataW.trod_int Tryz.underlying3 g;obtain⟨n0,h0,_,w0⟩:=DataW.trod_int Tryz.underlying3 g0;obtain⟨n1,h1,_,w1⟩:=DataW.trod_int Tryz.underlying25 g1;obtain⟨n2,h2,_,w2⟩:=DataW.trod_int Tryz.underlying25 g2;obtain⟨n3,h3,_,w3⟩:=DataW.trod_int Tryz.underlying25 g3;obtain⟨n4,h4,_,w4⟩:=DataW.trod_int Tryz.underlying25 g4;obtain⟨bA,bn,bc,rfl⟩:∃bA bn bc,v5= .slice bA bn bc:=by
       rcases open_slice Tryz.underlying37 g5 with⟨h,_⟩ | ⟨a,l,c,_,_,_,_,h,_⟩
       · exact⟨_,_,_,by simpa using h⟩
       · exact⟨_,_,_,by simpa using h⟩
      obtain⟨bs,hbs,hbl,hbc,_⟩:=ar9 g5;obtain rfl:bs.length=bn:=hbs.1;simp at hk h0 h1 h2 h3 h4;subst hk h0 h1 h2 h3 h4;have bk:=bounds_i64 wk;have b0:=bounds_i64 w0;have b1:=bounds_u64 w1;have b2:=bounds_u64 w2;have b3:=bounds_u64 w3;have b4:=bounds_u64 w4;obtain⟨m1,rfl⟩:∃m:Nat,n1=(m:Int):=⟨n1.toNat,by omega⟩;obtain⟨m2,rfl⟩:∃m:Nat,n2=(m:Int):=⟨n2.toNat,by omega⟩;obtain⟨m3,rfl⟩:∃m:Nat,n3=(m:Int):=⟨n3.toNat,by omega⟩;obtain⟨m4,rfl⟩:∃m:Nat,n4=(m:Int):=⟨n4.toNat,by omega⟩;have a0:=hat 0 (by omega);have a1:=hat 1 (by omega);have a2:=hat 2 (by omega);have a3:=hat 3 (by omega);have a4:=hat 4 (by omega);have a5:=hat 5 (by omega);have a6:=hat 6 (by omega);rw[Go.Deep.add_add]at a0 a1 a2 a3 a4 a5 a6;exact⟨⟨k,n0,m1,m2,m3,m4,bA,bc,bs⟩,⟨by dsimp only;omega,by dsimp only;omega,by dsimp only;omega,by dsimp only;omega,by dsimp only;omega,by dsimp only;omega,Nat.le_trans hbl hbc⟩,hbs,a0,a1,a2,a3,a4,a5,a6⟩)
   refine⟨ds,hd,fun hn=> ?_,by omega⟩;obtain⟨d,hd0⟩:∃d,ds[0]?=some d:=⟨ds[0],List.getElem?_eq_getElem hn⟩;obtain⟨_,_,h0,_⟩:=hp 0 d hd0;rw[Nat.zero_mul]at h0;obtain⟨b,o,rfl,hlt,e⟩:=ag7 h0;refine⟨b,o,rfl,hlt,fun j d hj=> ?_⟩;obtain⟨k1,k2,h0,h1,h2,h3,h4,h5,h6⟩:=hp j d hj;rw[e]at h0 h1 h2 h3 h4 h5 h6;exact⟨⟨h0,h1,h2,h3,h4,h5,h6⟩,k2,k1⟩
end
open Go.RowKit
structure Cs (B N:Nat) (w:World) (q ga cap:Nat) (A:Option Addr) (c:Nat) (bs:List UInt8) (H:Hp) (S:Nat->Prop) (gd:Nat) (s:Dst) (At:Option Addr) (ct:Nat) (told:List Nat) (Al:Option Addr) (cl:Nat) (lb:List UInt8):Prop where
 hv:Hv B w q ga 0 cap A c bs H
 ds:DS N S w gd s
 sB:∀k,S k->B<=k
 sH:∀k,S k->¬(k=q\/foot ga A k)
 ot:w.ownsRow B 25 1 (.slice At told.length ct) told.length (told.map uV)
 oS:∀k,(Value.slice At told.length ct).ownBlock=some k->¬S k
 ol:w.ownsRow B 5 1 (.slice Al lb.length cl) lb.length (lb.map bv)
 oL:∀k,(Value.slice Al lb.length cl).ownBlock=some k->¬S k/\¬foot ga A k
 sz:B<=w.heap.size
theorem agt{g n k:Nat}{A A':Option Addr}(hA:A'=A\/∀a,A'=some a->n<=a.block) (hk:k<n) (hf:foot g A' k):foot g A k:=by
 rcases hf with rfl | ⟨a,e,rfl⟩
 · exact .inl rfl
 · rcases hA with rfl | hA
   · exact .inr ⟨a,e,rfl⟩
   · have:=hA a e;omega
section
variable {B N:Nat} {w w':World} {q ga cap:Nat} {A:Option Addr} {c:Nat} {bs:List UInt8} {H:Hp} {S:Nat->Prop} {gd:Nat} {s:Dst} {At:Option Addr} {ct:Nat} {told:List Nat} {Al:Option Addr} {cl:Nat} {lb:List UInt8}
theorem Cs.below (h:Cs B N w q ga cap A c bs H S gd s At ct told Al cl lb) (hb:Below w.heap.size w w'):Cs B N w' q ga cap A c bs H S gd s At ct told Al cl lb:=
 ⟨h.hv.below hb,h.ds.below hb,h.sB,h.sH,aav h.ot hb,h.oS,aav h.ol hb,h.oL,Nat.le_trans h.sz hb.size⟩
theorem Cs.do_ (h:Cs B N w q ga cap A c bs H S gd s At ct told Al cl lb){A':Option Addr}{c':Nat}{bs':List UInt8}{H':Hp}(hv:Hv B w' q ga 0 cap A' c' bs' H') (t:Tch (foot ga A) w w') (hA:A'=A\/∀a,A'=some a->w.heap.size<=a.block):Cs B N w' q ga cap A' c' bs' H' S gd s At ct told Al cl lb:=
 ⟨hv,h.ds.tch t fun j hj hf=>h.sH j hj (.inr hf),h.sB,fun k hk hf=>by
  rcases hf with rfl | hf
  · exact h.sH _ hk (.inl rfl)
  · exact h.sH k hk (.inr (agt hA (h.ds.gz k hk) hf)),h.hv.ph.ownO t h.ot (by decide) (by decide) (by decide),h.oS,acc h.ol fun k e=>t.block k (aba h.ol k e) (h.oL k e).2,fun k e=>⟨(h.oL k e).1,fun hf=>(h.oL k e).2 (agt hA (aba h.ol k e) hf)⟩,Nat.le_trans h.sz t.size⟩
theorem Cs.save (h:Cs B N w q ga cap A c bs H S gd s At ct told Al cl lb){s':Dst}(hd:DS N (adz S w w') w' gd s') (t:Tch S w w'):Cs B N w' q ga cap A c bs H (adz S w w') gd s' At ct told Al cl lb:=
 ⟨h.hv.keepO t fun k hk hs=>h.sH k hs hk,hd,fun k hk=>hk.elim (h.sB k) fun e=>Nat.le_trans h.sz e.1,fun k hk hf=>hk.elim (fun e=>h.sH k e hf) fun e=>by
  have h1:k<w.heap.size:=by
   rcases hf with rfl | hf
   · exact h.hv.ph.lt
   · exact h.hv.ph.ar.foot_lt hf
  omega,acc h.ot fun k e=>t.block k (aba h.ot k e) (h.oS k e),fun k e hs=>hs.elim (h.oS k e) fun x=>by have:=aba h.ot k e;omega,
  acc h.ol fun k e=>t.block k (aba h.ol k e) (h.oL k e).1,fun k e=>⟨fun hs=>hs.elim (h.oL k e).1 fun x=>by have:=aba h.ol k e;omega,(h.oL k e).2⟩,Nat.le_trans h.sz t.size⟩
theorem Cs.telled (h:Cs B N w q ga cap A c bs H S gd s At ct told Al cl lb){At':Option Addr}{ct':Nat}{told':List Nat}(ho:w'.ownsRow B 25 1 (.slice At' told'.length ct') told'.length (told'.map uV)) (gr:w.grownBy w' (Value.slice At told.length ct).ownBlock) (lie:(Value.slice At' told'.length ct').ownBlock=(Value.slice At told.length ct).ownBlock\/(Value.slice At' told'.length ct').ownBlock=some w.heap.size):Cs B N w' q ga cap A c bs H S gd s At' ct' told' Al cl lb:=by
 have tg:Tch (fun k=>(Value.slice At told.length ct).ownBlock=some k) w w':=Tch.grown gr (fun k e=>e);refine⟨h.hv.keepO tg (fun k hk hf=>h.hv.ph.oth (ajt h.ot hf) hk),h.ds.tch tg fun j hj e=>h.oS j e hj,h.sB,h.sH,ho,fun k e hs=> ?_,acc h.ol fun k e=>tg.block k (aba h.ol k e) fun e2=> ?_,h.oL,Nat.le_trans h.sz tg.size⟩
 · rcases lie with l | l
   · exact h.oS k (l▸e) hs
   · rw[l]at e;injection e with e;have:=h.ds.gz k hs;omega
 · rcases h.ol.2 with⟨h',_⟩ | ⟨g',cap',cur,hv,hg,hh,r⟩
   · rw[h']at e
     cases e
   · rw[hv]at e;injection e with e;subst e;obtain⟨cs,ty,hk,_,_,n3⟩:=ajt h.ot e2;rw[hh]at hk;injection hk with e1;injection e1 with _ e2 _;exact n3 e2.symm
theorem Cs.last (h:Cs B N w q ga cap A c bs H S gd s At ct told Al cl lb){n:Nat}{Al':Option Addr}{cl':Nat}{lb':List UInt8}(hB:B<=n) (hz:∀k,(S k\/foot ga A k)->k<n) (ho:w.ownsRow n 5 1 (.slice Al' lb'.length cl') lb'.length (lb'.map bv)):Cs B N w q ga cap A c bs H S gd s At ct told Al' cl' lb':=
 ⟨h.hv,h.ds,h.sB,h.sH,h.ot,h.oS,acY ho hB,fun k e=>⟨fun hs=>by have:=hz k (.inl hs);have:=afb ho k e;omega,fun hf=>by have:=hz k (.inr hf);have:=afb ho k e;omega⟩,h.sz⟩
theorem DS.blen{s:Dst}(h:DS N S w gd s):s.bs.length=512*N:=by
 obtain⟨_,_,_,_,_,_,_,e,_⟩:=h;exact e
theorem Cs.far (h:Cs B N w q ga cap A c bs H S gd s At ct told Al cl lb):∀k,(S k\/foot ga A k)->k<w.heap.size:=fun k hk=>hk.elim (h.ds.gz k) fun hf=>h.hv.ph.ar.foot_lt hf
end
theorem aox (p:Nat) (b rec:List UInt8) (s:Dst):(abb p b rec s).2.left<=s.left:=by
 have hf:∀s:Dst,(dfl s).2.left=s.left:=fun s=>by unfold dfl;split<;>rfl
 have ho:∀(s:Dst) (b:List UInt8) (p:Nat),(adS s p b).2.left<=s.left:=fun s b p=>ajm _ _;have ha:∀(r:Nat × Dst) (f:Dst->Nat × Dst),r.2.left<=s.left->(∀t,(f t).2.left<=t.left)->(andThen r f).2.left<=s.left:=fun r f h1 h2=>by
  unfold andThen;split
  · exact Int.le_trans (h2 _) h1
  · exact h1
 unfold abb;refine ha _ _ (ha _ _ (ha _ _ (ha _ _ (ha _ _ (asZ _ _ _).2 ?_) ?_) ?_) ?_) ?_
 · exact fun t=>Int.le_of_eq (hf t)
 · exact fun t=>ho t _ _
 · exact fun t=>Int.le_of_eq (hf t)
 · exact fun t=>(asZ _ _ _).2
 · exact fun t=>Int.le_of_eq (hf t)
theorem aoy (x y:Sk) (half:Nat) (b:List UInt8) (s:Dst):(afK x y half b s).2.left<=s.left:=by
 unfold afK;split
 · exact Int.le_refl _
 · exact aox _ _ _ _
def Ps (half cap m:Nat) (torn saved:Bool) (s:Dst) (lb:List UInt8):Prop:=
 ∃V,(∀kb,aol (abw s.bs (aeI s.wt kb)) half=V)/\s.left<=9223372036854775807/\saved=V.isSome/\(∀n l d,V=some (n,l,d)->adR (n:Int) l d=true/\aaH n l d=lb/\n<=cap)/\(torn=false->s.off=false/\s.wt= []/\max (aaE s.bs [] half 0).G (aaE s.bs [] half 1).G<=m)
theorem ajy (kb:List Bool):aeI ([]:List (Nat × List UInt8)) kb= []:=by cases kb<;>rfl
section
variable {half cap m:Nat} {torn saved:Bool} {s:Dst} {lb b:List UInt8}
theorem Ps.start (N:Nat) (hN:2*half<=N) (h1:1<=half) (left:Int) (hl:left<=9223372036854775807) (cap:Nat):Ps half cap 0 false false ⟨List.replicate (N*512) 0,[],left,false⟩ []:=by
 have e0:=abT (N*512) half 0 (by omega);have e1:=abT (N*512) half 1 (by omega);refine⟨none,fun kb=> ?_,hl,rfl,fun _ _ _ e=>(by cases e),fun _=>⟨rfl,rfl,?_⟩⟩
 · show aol (abw (List.replicate (N*512) 0) (aeI [] kb)) half=none;rw[ajy];show akM (aaE (List.replicate (N*512) 0) [] half 0) (aaE (List.replicate (N*512) 0) [] half 1)=none;rw[e0,e1];rfl
 · show max (aaE (List.replicate (N*512) 0) [] half 0).G (aaE (List.replicate (N*512) 0) [] half 1).G<=0;rw[e0,e1];exact Nat.le_refl _
theorem Ps.save (h:Ps half cap m false saved s lb) (h1:1<=half) (h64:half<=64) (hl:2*half*512<=s.bs.length){n:Nat}{l:List Rk}{d:List (List UInt8)}(hm:adR (n:Int) l d=true) (hb:aaH n l d=b) (hn:n<=cap) (hm2:m<1000000){o:Nat × Dst}(hO:afK (aaE s.bs s.wt half 0) (aaE s.bs s.wt half 1) half b s=o):
 (o.1=7/\512*(half-1)<b.length/\Ps half cap (m+1) false saved o.2 lb)\/(o.1=0/\Ps half cap (m+1) false true o.2 b)\/(o.1=6/\Ps half cap (m+1) true saved o.2 lb):=by
 obtain⟨V,hV,hlf,hsv,hlb,ht⟩:=h;obtain⟨ho,hw,hG⟩:=ht rfl;have hleft:=aoy (aaE s.bs s.wt half 0) (aaE s.bs s.wt half 1) half b s;rw[hO]at hleft;have hlf':o.2.left<=9223372036854775807:=Int.le_trans hleft hlf;rw[hw]at hO;have hV0:=hV [];rw[hw,ajy]at hV0;rcases aqH ho hw h1 h64 hl hm hb hO with⟨e1,e2,e3⟩ | ⟨e1,e2,e3,e4,e5,e6⟩ | ⟨e1,e2⟩
 · refine .inl ⟨e1,by omega,?_⟩;rw[e2];exact⟨V,hV,hlf,hsv,hlb,fun _=>⟨ho,hw,by omega⟩⟩
 · refine .inr (.inl ⟨e1,some (n,l,d),fun kb=> ?_,hlf',rfl,?_,fun _=>⟨e2,e3,by omega⟩⟩)
   · rw[e3,ajy];exact e5
   · intro n' l' d' e;injection e with e;injection e with e7 e;injection e with e8 e9;subst e7 e8 e9;exact⟨hm,hb,hn⟩
 · exact .inr (.inr ⟨e1,V,fun kb=>(e2 kb).trans hV0,hlf',hsv,hlb,fun e=>by cases e⟩)
theorem Ps.load (h:Ps half cap m torn saved s lb) (kb:List Bool) (h1:1024<=cap) (h2:cap<=16384){bs:List UInt8}(hbs:abw s.bs (aeI s.wt kb)=bs){G:Nat × Nat × List Rk × List (List UInt8)}(hG:al6 (aaE bs [] half 0) (aaE bs [] half 1) 16 (cap:Int)=G):
 (saved=false/\G=(8,0,[],[]))\/(saved=true/\∃n l d,G=(0,n,l,d)/\adR (n:Int) l d=true/\aaH n l d=lb):=by
 obtain⟨V,hV,_,hsv,hlb,_⟩:=h;have hV:=hV kb;rw[hbs]at hV;unfold aol akM at hV;unfold al6 at hG;rcases aev (aaE bs [] half 0) (aaE bs [] half 1)with e | e | e
 · rw[e]at hV hG;rw[if_neg (by decide),if_neg (by decide)]at hV;rw[if_pos (by decide)]at hG;subst hV;exact .inl ⟨hsv,hG.symm⟩
 · rw[e]at hV hG;rw[if_pos rfl]at hV;obtain⟨f1,f2,f3⟩:=hlb _ _ _ hV.symm;rw[if_neg (by decide),if_neg (fun h=>h ⟨rfl,by omega,by omega,by omega⟩),if_pos rfl,if_neg (by omega)]at hG;subst hV;exact .inr ⟨hsv,_,_,_,hG.symm,f1,f2⟩
 · rw[e]at hV hG;rw[if_neg (by decide),if_pos rfl]at hV;obtain⟨f1,f2,f3⟩:=hlb _ _ _ hV.symm;rw[if_neg (by decide),if_neg (fun h=>h ⟨rfl,by omega,by omega,by omega⟩),if_neg (by decide),if_neg (by omega)]at hG;subst hV;exact .inr ⟨hsv,_,_,_,hG.symm,f1,f2⟩
end
structure Tv (B:Nat) (w:World) (cap s1 q1 g1:Nat) (A1:Option Addr) (c1:Nat) (b1:List UInt8) (H1:Hp) (s2 q2 g2:Nat) (A2:Option Addr) (c2:Nat) (b2:List UInt8) (H2:Hp):Prop where
 h1:Hv B w q1 g1 s1 cap A1 c1 b1 H1
 h2:Hv B w q2 g2 s2 cap A2 c2 b2 H2
 dj:∀k,(k=q1\/foot g1 A1 k)->¬(k=q2\/foot g2 A2 k)
section
variable {B:Nat} {w w':World} {cap s1 q1 g1 c1 s2 q2 g2 c2:Nat} {A1 A2:Option Addr} {b1 b2:List UInt8} {H1 H2 H':Hp}
theorem Tv.below (h:Tv B w cap s1 q1 g1 A1 c1 b1 H1 s2 q2 g2 A2 c2 b2 H2) (hb:Below w.heap.size w w'):Tv B w' cap s1 q1 g1 A1 c1 b1 H1 s2 q2 g2 A2 c2 b2 H2:=⟨h.h1.below hb,h.h2.below hb,h.dj⟩
theorem Tv.one (h:Tv B w cap s1 q1 g1 A1 c1 b1 H1 s2 q2 g2 A2 c2 b2 H2){A':Option Addr}{c':Nat}{b':List UInt8}(hv:Hv B w' q1 g1 s1 cap A' c' b' H') (t:Tch (foot g1 A1) w w') (hA:A'=A1\/∀a,A'=some a->w.heap.size<=a.block):Tv B w' cap s1 q1 g1 A' c' b' H' s2 q2 g2 A2 c2 b2 H2:=
 ⟨hv,h.h2.keepO t (fun k hk hf=>h.dj k (.inr hf) hk),fun k hk hk2=>h.dj k (hk.imp id fun hf=>agt hA (h.h2.own_lt hk2) hf) hk2⟩
theorem Tv.two (h:Tv B w cap s1 q1 g1 A1 c1 b1 H1 s2 q2 g2 A2 c2 b2 H2){A':Option Addr}{c':Nat}{b':List UInt8}(hv:Hv B w' q2 g2 s2 cap A' c' b' H') (t:Tch (foot g2 A2) w w') (hA:A'=A2\/∀a,A'=some a->w.heap.size<=a.block):Tv B w' cap s1 q1 g1 A1 c1 b1 H1 s2 q2 g2 A' c' b' H':=
 ⟨h.h1.keepO t (fun k hk hf=>h.dj k hk (.inr hf)),hv,fun k hk hk2=>h.dj k hk (hk2.imp id fun hf=>agt hA (h.h1.own_lt hk) hf)⟩
theorem Tv.tchO (h:Tv B w cap s1 q1 g1 A1 c1 b1 H1 s2 q2 g2 A2 c2 b2 H2){S:Nat->Prop}(ht:Tch S w w') (hS:∀k,S k->Oth w k):Tv B w' cap s1 q1 g1 A1 c1 b1 H1 s2 q2 g2 A2 c2 b2 H2:=
 ⟨h.h1.keepO ht (fun k hk hs=>h.h1.ph.oth (hS k hs) hk),h.h2.keepO ht (fun k hk hs=>h.h2.ph.oth (hS k hs) hk),h.dj⟩
end
theorem aoz{half N:Nat}(h1:1<=half) (h64:half<=64) (hN:N=2*half){n:Nat}{l:List Rk}{d:List (List UInt8)}{b:List UInt8}(hm:adR (n:Int) l d=true) (hb:aaH n l d=b) (hfit:b.length<=512*(half-1)){s0:Dst}(hs:(⟨List.replicate (N*512) 0,[],-1,false⟩:Dst)=s0){o:Nat × Dst}(hO:afK afo afo half b s0=o):
 o.1=0/\o.2.off=false/\aaE o.2.bs o.2.wt half 0=⟨1,b.length,abd 0 b,true,n,l,d⟩/\aaE o.2.bs o.2.wt half 1=afo:=by
 subst hs hN;have hl:ajn (⟨List.replicate (2*half*512) 0,[],-1,false⟩:Dst):=⟨rfl,by show(-1:Int)<0;omega⟩;have e1:aaE (List.replicate (2*half*512) 0) [] half 1=afo:=abT _ _ _ (by omega);have hz:(List.replicate (2*half*512) (0:UInt8)).length=2*half*512:=List.length_replicate;unfold afK at hO;rw[if_neg (by show ¬(512*(half-1)<b.length\/4611686018427387904<=max 0 0);omega)]at hO;have hO:abb (0*half) b (abx 1 b.length (abd 0 b)) ⟨List.replicate (2*half*512) 0,[],-1,false⟩=o:=hO;obtain⟨v1,v2,v3⟩:=afL hl (0*half) b (abx 1 b.length (abd 0 b));have hx:=afM hl rfl half 0 1 n l d hm b hb hfit h1 (by show(0*half+half)*512<=(List.replicate (2*half*512) (0:UInt8)).length;rw[hz];omega) (by omega) h64;have hy:=aeQ hl rfl half 0 1 b (abx 1 b.length (abd 0 b)) (acQ _ _ _) (.inr (by omega)) h1 hfit (by show(0*half+half)*512<=(List.replicate (2*half*512) (0:UInt8)).length;rw[hz];omega);rw[hO]at v1 v2 v3 hx hy;exact⟨v1,v2.1,by rw[v3];exact hx,by rw[v3];exact hy.trans e1⟩
end Go.Proofs.YtncadccbepjekaaGreatDoor
