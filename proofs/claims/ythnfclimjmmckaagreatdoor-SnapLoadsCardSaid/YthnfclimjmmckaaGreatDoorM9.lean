/- Texts of mine, joined. -/
import Derived.Deep.Cut
import Derived.WalkKit
import Derived.LaidEql
import Derived.Stop.Asserts
import Derived.RowKitTokens
import Derived.Test.YthnfclimjmmckaaGreatDoorM8
set_option maxRecDepth 100000
set_option maxHeartbeats 4000000
namespace Go.Proofs.YthnfclimjmmckaaGreatDoor
open Go.RowKit
theorem agN:(Tryz.prog.info? 37).map (fun i=>(i.zero,i.size,i.bytes))=some (some (.slice none 0 0),1,24):=by kernel_rfl
theorem ab9 (w:World):(Instr.buildSlice 56 0 #[]).run Tryz.prog w= .ok (.slice (some ⟨w.heap.size,0,none⟩) 0 0) (w.alloc (.cells #[] 132)):=by
 simp[go_sem]
theorem afG (w:World):(Instr.buildSlice 57 0 #[]).run Tryz.prog w= .ok (.slice (some ⟨w.heap.size,0,none⟩) 0 0) (w.alloc (.cells #[] 37)):=by
 simp[go_sem]
theorem afH:∀(l:List Bk) (i:Nat),aaD (l.take i)=(aaD l).take (i*3)
 | [],i=>by simp[aaD]
 | x::r,0=>by simp[aaD]
 | x::r,i+1=>by
  have e:(i+1)*3=i*3+1+1+1:=by omega
  rw[e];simp[aaD,afH r i]
theorem afI:∀(l:List Bk) (i:Nat),aaD (l.drop i)=(aaD l).drop (i*3)
 | [],i=>by simp[aaD]
 | x::r,0=>by simp
 | x::r,i+1=>by
  have e:(i+1)*3=i*3+1+1+1:=by omega
  rw[e];simp[aaD,afI r i]
theorem abx (l:List Bk):∀u∈aaD l,u.oneCell'=true:=by
 induction l with
 | nil=>intro u hu;cases hu
 | cons x r ih=>
  intro u hu;simp only[aaD,List.mem_cons]at hu;rcases hu with rfl | rfl | rfl | hu
  · rfl
  · rfl
  · rfl
  · exact ih u hu
theorem alD{l:List Dt}(h:∀d∈l,∃A n c,d.1=Value.slice A n c):∀u∈l.map Prod.fst,u.oneCell'=true:=by
 intro u hu;obtain⟨d,hd,rfl⟩:=List.mem_map.1 hu;obtain⟨A,n,c,e⟩:=h d hd;rw[e];rfl
theorem aq9 (b k j:Nat):(⟨b,k,none⟩:Addr).add j=⟨b,k+j,none⟩:=by unfold Addr.add;split<;>simp_all
theorem acL{w:World}{base n c size b:Nat}{t:TypeId}{xs:List Value}(h:w.ownsRow base t size (.slice (some ⟨b,0,none⟩) n c) n xs) (k m:Nat) (hkm:k+m<=n) (A:Addr) (hA:m=0\/A=⟨b,k*size,none⟩):Src w (some A) m c ((xs.drop (k*size)).take (m*size)):=by
 refine⟨fun e=>(by cases e),fun ad e j u hu=> ?_⟩;injection e with e;subst e;rcases hA with rfl | rfl
 · simp at hu
 · rw[aq9];have hlen:j<m*size:=by
    rcases Nat.lt_or_ge j (m*size)with h1 | h1
    · exact h1
    · rw[List.getElem?_eq_none (Nat.le_trans (List.length_take_le _ _) h1)]at hu;cases hu
   rw[List.getElem?_take,if_pos hlen,List.getElem?_drop]at hu;have h2:k*size+m*size<=n*size:=by rw[<-Nat.add_mul];exact Nat.mul_le_mul_right _ hkm
   rw[h.cellAt _ (by omega)];exact hu
theorem Src.cap{w:World}{A:Addr}{m c c':Nat}{xs:List Value}(h:Src w (some A) m c xs):Src w (some A) m c' xs:=⟨fun e=>(by cases e),h.2⟩
section
variable {F:Nat->Prop} {w w':World} {p gl:Nat} {H:Hp} {Vb Vd:Value} {cs:List Value}
theorem amK (w:World) (p i:Nat) (v:Value):∀k,k≠p->(w.setCell ⟨p,i,none⟩ v).heap[k]?=w.heap[k]?:=fun k hk=>Below.heap_setCell w ⟨p,i,none⟩ v k hk
theorem Hm.p_gl (h:Hm F w p H Vb Vd gl cs):gl≠p:=fun e=>by
 have h1:=h.obj;rw[<-e,h.row]at h1;injection h1 with h1;injection h1 with _ h1 _;exact absurd h1 (by decide)
theorem Hm.bset (h:Hm F w p H Vb Vd gl cs) (V:Value) (l:List Bk) (hown:w.ownsRow 0 132 3 V l.length (aaD l)):
 Hm (fun k=>F k\/V.ownBlock=some k) (w.setCell ⟨p,1,none⟩ V) p {H with blks:=l} V Vd gl cs:=by
 have hk:=amK w p 1 V;refine⟨?_,aaP hown (fun k e=>hk k (ab5 hown h.obj (by decide) k e)),aaP h.od (fun k e=>hk k (ab5 h.od h.obj (by decide) k e)),(hk gl h.p_gl).trans h.row,h.len,fun d hd=> ?_, .inl h.fp, .inl h.fl,fun k e=> .inr e,fun k e=> .inl (h.fd k e),fun d v k hd h1 e=> .inl (h.fi d v k hd h1 e),h.sl⟩
 · have:=heap_setCell_same w p 1 _ _ V h.obj;rw[this];rfl
 · obtain⟨v,h1,h2⟩:=h.at_ d hd;exact⟨v,h1,aaP h2 (fun k e=>hk k (ab5 h2 h.obj (by decide) k e))⟩
theorem Hm.dset (h:Hm F w p H Vb Vd gl cs) (V:Value) (l:List Dt) (hown:w.ownsRow 0 37 1 V l.length (l.map Prod.fst)) (hsl:∀d∈l,∃A n c,d.1=Value.slice A n c):
 Hm (fun k=>F k\/V.ownBlock=some k) (w.setCell ⟨p,2,none⟩ V) p {H with ds:=l} Vb V gl cs:=by
 have hk:=amK w p 2 V;refine⟨?_,aaP h.ob (fun k e=>hk k (ab5 h.ob h.obj (by decide) k e)),aaP hown (fun k e=>hk k (ab5 hown h.obj (by decide) k e)),(hk gl h.p_gl).trans h.row,h.len,fun d hd=> ?_, .inl h.fp, .inl h.fl,fun k e=> .inl (h.fb k e),fun k e=> .inr e,fun d v k hd h1 e=> .inl (h.fi d v k hd h1 e),hsl⟩
 · have:=heap_setCell_same w p 2 _ _ V h.obj;rw[this];rfl
 · obtain⟨v,h1,h2⟩:=h.at_ d hd;exact⟨v,h1,aaP h2 (fun k e=>hk k (ab5 h2 h.obj (by decide) k e))⟩
theorem agO{n size:Nat}{t:TypeId}{V:Value}{xs:List Value}(h:w.ownsRow 0 t size V n xs) (hn:0<n):∃b c,V= .slice (some ⟨b,0,none⟩) n c/\b<w.heap.size/\n<=c/\c<=maxLen:=by
 rcases h.2 with⟨_,h0⟩ | ⟨b,c,cur,rfl,_,hh,hnc,hm,_⟩
 · omega
 · exact⟨b,c,rfl,aan hh,hnc,hm⟩
end
theorem abt (a:Act) (d:Tmp) (v:Value) (hd:d<a.tmps.size) (s:Tmp):(a.put (some d) v).eval (.tmp s)=if s=d then v else a.eval (.tmp s):=by
 show(a.tmps.setIfInBounds d v).getD s undef=_;by_cases h:s=d
 · subst h;rw[if_pos rfl,Array.getD_eq_getD_getElem?,Array.getElem?_setIfInBounds_self_of_lt hd];rfl
 · rw[if_neg h,Array.getD_eq_getD_getElem?,Array.getElem?_setIfInBounds_ne (fun e=>h e.symm),<-Array.getD_eq_getD_getElem?];rfl
theorem abg (a:Act) (d:Option Tmp) (v:Value):(a.put d v).tmps.size=a.tmps.size:=by
 cases d with
 | none=>rfl
 | some d=>exact Array.size_setIfInBounds
theorem aiA (a:Act) (d d':Tmp) (v v':Value) (h:d≠d'):(a.put (some d) v).put (some d') v'=(a.put (some d') v').put (some d) v:=by
 show Act.mk _ _=Act.mk _ _;congr 1;exact Array.setIfInBounds_comm _ _ h
section
variable {P:Program} {ops:Array Oper} {Q:Exit->Act->World->Prop} {T:List Nat} {X:PT} {a:Act} {w:World} {e t:TypeId} {z:Value} {size bytes:Nat} {i1 i8 i10 i11 i18:Nat} {d1 d8 d10 d11 d18 s8 s18 s10:Tmp} {o1 o8 o10 o11 o18:Oper}
 {A1 A2:Option Addr} {m1 c1 m2 c2:Nat} {n1 n2:List Value} {cv:Array Value}
structure Mid (P:Program) (ops:Array Oper) (a:Act) (w:World) (e t:TypeId) (z:Value) (size bytes:Nat) (i1 i8 i10 i11 i18:Nat) (d1 d8 d10 d11 d18 s8 s18 s10:Tmp) (o1 o8 o10 o11 o18:Oper) (A1 A2:Option Addr) (m1 c1 m2 c2:Nat) (n1 n2:List Value) (cv:Array Value):Prop where
 g1:ops[i1]?=some o1/\o1.dst=some d1/\∀y,Region.wanted o1 y=true
 g8:ops[i8]?=some o8/\o8.dst=some d8/\∀y,Region.wanted o8 y=true
 g10:ops[i10]?=some o10/\o10.dst=some d10/\∀y,Region.wanted o10 y=true
 g11:ops[i11]?=some o11/\o11.dst=some d11/\∀y,Region.wanted o11 y=true
 g18:ops[i18]?=some o18/\o18.dst=some d18/\∀y,Region.wanted o18 y=true
 r1:∀(b:Act) (v:World),(execOp b.eval o1).run P v= .ok (.value (.slice (some ⟨v.heap.size,0,none⟩) 0 0)) (v.alloc (.cells #[] e))
 r10:∀(b:Act) (v:World),b.eval (.tmp s10)=a.eval (.tmp s10)->(execOp b.eval o10).run P v= .ok (.value (.slice (some ⟨v.heap.size,0,none⟩) 1 1)) (v.alloc (.cells cv e))
 k8:o8.op= .call {callee:= .builtin .append,args:= #[.tmp d1, .tmp s8],argTypes:= #[t,t]}
 k11:o11.op= .call {callee:= .builtin .append,args:= #[.tmp d8, .tmp d10],argTypes:= #[t,t]}
 k18:o18.op= .call {callee:= .builtin .append,args:= #[.tmp d11, .tmp s18],argTypes:= #[t,t]}
 ht:P.underlying t=some (.slice e)
 info:(P.info? e).map (fun i=>(i.zero,i.size,i.bytes))=some (some z,size,bytes)
 hz:z.cells.size=size
 h0:0<size
 hby:bytes<=1000
 ne: [d1,d8,d10,d11,d18].Nodup/\∀s∈ [s8,s18,s10],s∉ [d1,d8,d10,d11,d18]
 lt:d1<a.tmps.size/\d8<a.tmps.size/\d10<a.tmps.size/\d11<a.tmps.size/\d18<a.tmps.size
 e8:a.eval (.tmp s8)= .slice A1 m1 c1
 e18:a.eval (.tmp s18)= .slice A2 m2 c2
 l1:n1.length=m1*size
 l2:n2.length=m2*size
 q1:Src w A1 m1 c1 n1
 q2:Src w A2 m2 c2 n2
 b1:∀ad,A1=some ad->ad.block<w.heap.size
 b2:∀ad,A2=some ad->ad.block<w.heap.size
 u1:∀u∈n1,u.oneCell'=true
 u2:∀u∈n2,u.oneCell'=true
 cvl:cv.size=size
 cvu:∀u∈cv.toList,u.oneCell'=true
 small:m1+m2<=900000
variable (M:Mid P ops a w e t z size bytes i1 i8 i10 i11 i18 d1 d8 d10 d11 d18 s8 s18 s10 o1 o8 o10 o11 o18 A1 A2 m1 c1 m2 c2 n1 n2 cv)
def as3 (P:Program) (ops:Array Oper) (Q:Exit->Act->World->Prop) (T:List Nat) (X:PT) (a:Act) (w:World) (e:TypeId) (size:Nat) (d1 d8 d10 d11 d18:Tmp) (m1 m2:Nat) (n1 n2:List Value) (cv:Array Value):Prop:=
 ∀v1 v8 v10 v11 v18 w',w'.ownsRow w.heap.size e size v18 (m1+1+m2) (n1++(cv.toList++n2))->Below w.heap.size w w'->X.wp P ops Q T w.heap.size (((((a.put (some d1) v1).put (some d8) v8).put (some d10) v10).put (some d11) v11).put (some d18) v18) w'
include M
theorem akG (hK:as3 P ops Q T X a w e size d1 d8 d10 d11 d18 m1 m2 n1 n2 cv) (v1 v8 v10:Value) (g10:Nat) (w3:World) (hv10:v10= .slice (some ⟨g10,0,none⟩) 1 1) (hg:w3.heap[g10]?=some (.cells cv e (0,0))) (hown:w3.ownsRow w.heap.size e size v8 m1 n1) (hb:Below w.heap.size w w3):
 (PT.one [] i11 (.one [] i18 X)).wp P ops Q T w.heap.size (((a.put (some d1) v1).put (some d8) v8).put (some d10) v10) w3:=by
 obtain⟨lt1,lt8,lt10,lt11,lt18⟩:=M.lt;have ne:=M.ne.1;simp only[List.nodup_cons,List.mem_cons,List.not_mem_nil,or_false,not_or,List.nodup_nil,and_true]at ne;have n18:=M.ne.2 s18 (by simp);simp only[List.mem_cons,List.not_mem_nil,or_false,not_or]at n18;have hsrc:Src w3 (some ⟨g10,0,none⟩) 1 1 cv.toList:=⟨fun e=>(by cases e),fun ad ea j u hu=>by
  injection ea with ea;subst ea;have ea:(⟨g10,0,none⟩:Addr).add j=⟨g10,j,none⟩:=by unfold Addr.add;split<;>simp_all
  rw[ea,cell_of_row w3 _ j _ _ (0,0) hg];simpa using hu⟩
 refine aal (l:= []) rfl (wpQuiet_nil ?_);refine abc (some d11) (.tmp d8) (.tmp d10) t e M.g11.1 M.g11.2.1 (M.g11.2.2 _) M.k11 M.ht z size bytes M.info M.hz M.h0 w.heap.size v8 m1 n1 ?_ hown (Nat.le_refl _) hb.size (some ⟨g10,0,none⟩) 1 1 cv.toList ?_ (by rw[Array.length_toList,M.cvl];omega) hsrc M.cvu (by have:=M.small;omega) M.hby ?_
 · rw[abt _ _ _ (by rw[abg,abg];exact lt10),if_neg ne.2.1.1,abt _ _ _ (by rw[abg];exact lt8),if_pos rfl]
 · rw[abt _ _ _ (by rw[abg,abg];exact lt10),if_pos rfl,hv10]
 intro v11 w4 own4 hb4 _;have hb04:=hb.trans hb4;refine⟨w.heap.size,Nat.le_refl _,?_⟩;refine aal (l:= []) rfl (wpQuiet_nil ?_);refine abc (some d18) (.tmp d11) (.tmp s18) t e M.g18.1 M.g18.2.1 (M.g18.2.2 _) M.k18 M.ht z size bytes M.info M.hz M.h0 w.heap.size v11 (m1+1) (n1++cv.toList) ?_ own4 (Nat.le_refl _) hb04.size A2 m2 c2 n2 ?_ M.l2 (M.q2.below hb04 M.b2) M.u2 (by have:=M.small;omega) M.hby ?_
 · rw[abt _ _ _ (by rw[abg,abg,abg];exact lt11),if_pos rfl]
 · rw[abt _ _ _ (by rw[abg,abg,abg];exact lt11),if_neg n18.2.2.2.1,abt _ _ _ (by rw[abg,abg];exact lt10),if_neg n18.2.2.1,abt _ _ _ (by rw[abg];exact lt8),if_neg n18.2.1,abt _ _ _ lt1,if_neg n18.1,M.e18]
 intro v18 w5 own5 hb5 _;refine⟨w.heap.size,Nat.le_refl _,?_⟩;exact hK v1 v8 v10 v11 v18 w5 (by rw[<-List.append_assoc];exact own5) (hb04.trans hb5)
theorem atn (hK:as3 P ops Q T X a w e size d1 d8 d10 d11 d18 m1 m2 n1 n2 cv):
 wpOp P ops Q i1 (fun a'' w''=>Below w.heap.size w w''/\∃B',w.heap.size<=B'/\(PT.two [] i8 (.one [] i10 (.one [] i11 (.one [] i18 X))) i10 (.one [] i8 (.one [] i11 (.one [] i18 X)))).wp P ops Q T B' a'' w'') a w:=by
 obtain⟨lt1,lt8,lt10,lt11,lt18⟩:=M.lt;have ne:=M.ne.1;simp only[List.nodup_cons,List.mem_cons,List.not_mem_nil,or_false,not_or,List.nodup_nil,and_true]at ne;have n8:=M.ne.2 s8 (by simp);have n10:=M.ne.2 s10 (by simp);simp only[List.mem_cons,List.not_mem_nil,or_false,not_or]at n8 n10;obtain⟨w1,hw1⟩:=nmE (w.alloc (.cells #[] e));have b1:=abE hw1;have own1:w1.ownsRow w.heap.size e size (.slice (some ⟨w.heap.size,0,none⟩) 0 0) 0 []:=by rw[<-hw1];exact World.ownsRow_lit w _ 0 (Nat.le_refl _) (by unfold maxLen;omega) (by simp)
 refine aag (some d1) M.g1.1 M.g1.2.1 (M.g1.2.2 _) (by rw[M.r1,hw1]) b1 ⟨w.heap.size,Nat.le_refl _,?_⟩;obtain⟨a1,ha1⟩:=nmE (a.put (some d1) (.slice (some ⟨w.heap.size,0,none⟩) 0 0));have ev1:∀s,a1.eval (.tmp s)=if s=d1 then .slice (some ⟨w.heap.size,0,none⟩) 0 0 else a.eval (.tmp s):=fun s=>by rw[<-ha1,abt _ _ _ lt1]
 have sz1:a1.tmps.size=a.tmps.size:=by rw[<-ha1,abg]
 rw[ha1];refine aaT (l:= []) rfl (wpQuiet_nil ⟨?_,?_⟩)
 · refine abc (some d8) (.tmp d1) (.tmp s8) t e M.g8.1 M.g8.2.1 (M.g8.2.2 _) M.k8 M.ht z size bytes M.info M.hz M.h0 w.heap.size _ 0 [] (by rw[ev1,if_pos rfl]) own1 (Nat.le_refl _) b1.size A1 m1 c1 n1 (by rw[ev1,if_neg n8.1,M.e8]) M.l1 (M.q1.below b1 M.b1) M.u1 (by have:=M.small;omega) M.hby ?_;intro v8 w2 own2 hb2 _;rw[Nat.zero_add,List.nil_append]at own2;have hb02:=b1.trans hb2;refine⟨w.heap.size,Nat.le_refl _,?_⟩;refine aal (l:= []) rfl (wpQuiet_nil ?_);obtain⟨w3,hw3⟩:=nmE (w2.alloc (.cells cv e));have b3:=abE hw3;refine aag (some d10) M.g10.1 M.g10.2.1 (M.g10.2.2 _) (by rw[M.r10 _ w2 (by rw[abt _ _ _ (by rw[sz1];exact lt8),if_neg n10.2.1,ev1,if_neg n10.1]),hw3]) (b3.mono hb02.size) ⟨w.heap.size,Nat.le_refl _,?_⟩;rw[<-ha1];refine akG M hK _ v8 _ w2.heap.size w3 rfl (by rw[<-hw3];exact heap_alloc_new w2 _) (aa6 own2 b3) (hb02.trans (b3.mono hb02.size))
 · obtain⟨w2,hw2⟩:=nmE (w1.alloc (.cells cv e));have b2:=abE hw2;have hb02:=b1.trans (b2.mono b1.size);refine aag (some d10) M.g10.1 M.g10.2.1 (M.g10.2.2 _) (by rw[M.r10 _ w1 (by rw[ev1,if_neg n10.1]),hw2]) (b2.mono b1.size) ⟨w.heap.size,Nat.le_refl _,?_⟩;refine aal (l:= []) rfl (wpQuiet_nil ?_);have n2':w2.heap[w1.heap.size]?=some (.cells cv e (0,0)):=by rw[<-hw2];exact heap_alloc_new w1 _
   have hw1lt:w1.heap.size<w2.heap.size:=aan n2';refine abc (some d8) (.tmp d1) (.tmp s8) t e M.g8.1 M.g8.2.1 (M.g8.2.2 _) M.k8 M.ht z size bytes M.info M.hz M.h0 w.heap.size (.slice (some ⟨w.heap.size,0,none⟩) 0 0) 0 [] ?_ (aa6 own1 b2) (Nat.le_refl _) hb02.size A1 m1 c1 n1 ?_ M.l1 (M.q1.below hb02 M.b1) M.u1 (by have:=M.small;omega) M.hby ?_
   · rw[abt _ _ _ (by rw[sz1];exact lt10),if_neg (fun h=>ne.1.2.1 h),ev1,if_pos rfl]
   · rw[abt _ _ _ (by rw[sz1];exact lt10),if_neg n8.2.2.1,ev1,if_neg n8.1,M.e8]
   intro v8 w3 own3 hb3 gr3;rw[Nat.zero_add,List.nil_append]at own3;refine⟨w.heap.size,Nat.le_refl _,?_⟩;rw[aiA _ d10 d8 _ _ (fun h=>ne.2.1.1 h.symm),<-ha1];have hg3:w3.heap[w1.heap.size]?=some (.cells cv e (0,0)):=(gr3.block _ hw1lt (fun h=>by injection h with h;dsimp only at h;have hs:w.heap.size<w1.heap.size:=(by rw[<-hw1];simp);omega)).trans n2';exact akG M hK _ v8 _ w1.heap.size w3 rfl hg3 own3 (hb02.trans hb3)
theorem ato (hK:as3 P ops Q T X a w e size d1 d8 d10 d11 d18 m1 m2 n1 n2 cv):
 wpOp P ops Q i10 (fun a'' w''=>Below w.heap.size w w''/\∃B',w.heap.size<=B'/\(PT.one [] i1 (.one [] i8 (.one [] i11 (.one [] i18 X)))).wp P ops Q T B' a'' w'') a w:=by
 obtain⟨lt1,lt8,lt10,lt11,lt18⟩:=M.lt;have ne:=M.ne.1;simp only[List.nodup_cons,List.mem_cons,List.not_mem_nil,or_false,not_or,List.nodup_nil,and_true]at ne;have n8:=M.ne.2 s8 (by simp);simp only[List.mem_cons,List.not_mem_nil,or_false,not_or]at n8;obtain⟨w1,hw1⟩:=nmE (w.alloc (.cells cv e));have b1:=abE hw1;have g1:=anE hw1;refine aag (some d10) M.g10.1 M.g10.2.1 (M.g10.2.2 _) (by rw[M.r10 _ w rfl,hw1]) b1 ⟨w.heap.size,Nat.le_refl _,?_⟩;refine aal (l:= []) rfl (wpQuiet_nil ?_);obtain⟨w2,hw2⟩:=nmE (w1.alloc (.cells #[] e));have b2:=abE hw2;have hb02:=b1.trans (b2.mono b1.size);have own2:w2.ownsRow w.heap.size e size (.slice (some ⟨w1.heap.size,0,none⟩) 0 0) 0 []:=by rw[<-hw2];exact World.ownsRow_lit w1 _ 0 b1.size (by unfold maxLen;omega) (by simp)
 have hlt1:w.heap.size<w1.heap.size:=aan g1;refine aag (some d1) M.g1.1 M.g1.2.1 (M.g1.2.2 _) (by rw[M.r1,hw2]) (b2.mono b1.size) ⟨w.heap.size,Nat.le_refl _,?_⟩;refine aal (l:= []) rfl (wpQuiet_nil ?_);refine abc (some d8) (.tmp d1) (.tmp s8) t e M.g8.1 M.g8.2.1 (M.g8.2.2 _) M.k8 M.ht z size bytes M.info M.hz M.h0 w.heap.size (.slice (some ⟨w1.heap.size,0,none⟩) 0 0) 0 [] ?_ own2 (Nat.le_refl _) hb02.size A1 m1 c1 n1 ?_ M.l1 (M.q1.below hb02 M.b1) M.u1 (by have:=M.small;omega) M.hby ?_
 · rw[abt _ _ _ (by rw[abg];exact lt1),if_pos rfl]
 · rw[abt _ _ _ (by rw[abg];exact lt1),if_neg n8.1,abt _ _ _ lt10,if_neg n8.2.2.1,M.e8]
 intro v8 w3 own3 hb3 gr3;rw[Nat.zero_add,List.nil_append]at own3;refine⟨w.heap.size,Nat.le_refl _,?_⟩;have hg3:w3.heap[w.heap.size]?=some (.cells cv e (0,0)):=(gr3.block _ (Nat.lt_of_lt_of_le hlt1 b2.size) (fun h=>by injection h with h;dsimp only at h;omega)).trans ((b2.block _ hlt1).trans g1);rw[aiA _ d10 d1 _ _ (fun h=>ne.1.2.1 h.symm),aiA _ d10 d8 _ _ (fun h=>ne.2.1.1 h.symm)];exact akG M hK _ v8 _ w.heap.size w3 rfl hg3 own3 (hb02.trans hb3)
theorem aey (hK:as3 P ops Q T X a w e size d1 d8 d10 d11 d18 m1 m2 n1 n2 cv):
 wpOp P ops Q i1 (fun a'' w''=>Below w.heap.size w w''/\∃B',w.heap.size<=B'/\(PT.two [] i8 (.one [] i10 (.one [] i11 (.one [] i18 X))) i10 (.one [] i8 (.one [] i11 (.one [] i18 X)))).wp P ops Q T B' a'' w'') a w/\
 wpOp P ops Q i10 (fun a'' w''=>Below w.heap.size w w''/\∃B',w.heap.size<=B'/\(PT.one [] i1 (.one [] i8 (.one [] i11 (.one [] i18 X)))).wp P ops Q T B' a'' w'') a w:=⟨atn M hK,ato M hK⟩
end
theorem agP (w:World) (o s:Int) (u:Bool):(Instr.buildSlice 56 1 #[(0, .agg #[.int .i64 o, .int .i64 s, .bool u])]).run Tryz.prog w= .ok (.slice (some ⟨w.heap.size,0,none⟩) 1 1) (w.alloc (.cells #[.int .i64 o, .int .i64 s, .bool u] 132)):=by
 simp[go_sem]
theorem afb (w:World):(Instr.buildSlice 57 1 #[(0, .slice none 0 0)]).run Tryz.prog w= .ok (.slice (some ⟨w.heap.size,0,none⟩) 1 1) (w.alloc (.cells #[.slice none 0 0] 37)):=by
 simp[go_sem]
theorem aiB (w:World) (m:Nat) (hm:m=0):Src w none m 0 []:=⟨fun _=>⟨hm,rfl,rfl⟩,fun ad e=>(by cases e)⟩
section
variable {F:Nat->Prop} {w w':World} {p gl:Nat} {H:Hp} {Vb Vd:Value} {cs:List Value}
theorem aoA{n size:Nat}{t:TypeId}{V:Value}{xs:List Value}(h:w.ownsRow 0 t size V n xs) (i:Nat) (hi:i<=n):(V= .slice none 0 0/\n=0/\i=0)\/(∃b,V= .slice (some ⟨b,0,none⟩) n i/\b<w.heap.size/\n=i/\i<=9223372036854775807)\/∃b c,V= .slice (some ⟨b,0,none⟩) n c/\b<w.heap.size/\n<=c/\c≠i/\c<=9223372036854775807:=by
 rcases h.2 with⟨rfl,h0⟩ | ⟨b,c,cur,rfl,_,hh,hnc,hm,_⟩
 · exact .inl ⟨rfl,h0,by omega⟩
 · unfold maxLen at hm;by_cases hc:c=i
   · subst hc;exact .inr (.inl ⟨b,rfl,aan hh,by omega,hm⟩)
   · exact .inr (.inr ⟨b,c,rfl,aan hh,hnc,hc,hm⟩)
theorem aqj (n i:Nat) (h:Hm F w p H Vb Vd gl cs) (hN:H.blks.length=n) (hi:i<=n) (hn:n<=100000) (hdl:H.ds.length=n) (x:Bk):
 Calls Tryz.prog 161 #[.pointer (some ⟨p,0,none⟩), .int .i64 (i:Int), .agg #[.int .i64 (x.off:Int), .int .i64 (x.size:Int), .bool x.used]] w fun e w'=>e= .returned (.tuple #[])/\HT F w p (H.put i x) w':=by
 obtain⟨w0,hw0⟩:=nmE (w.alloc (.cells #[.int .i64 (x.off:Int), .int .i64 (x.size:Int), .bool x.used] 132));obtain⟨wd,hwd⟩:=nmE w0.drew;have hbd:Below w.heap.size w wd:=by rw[<-hwd,<-hw0];exact((Below.refl _ _).alloc (Nat.le_refl _) _).drew
 obtain⟨gx,hgxe⟩:=nmE w.heap.size;have hnx:wd.heap[gx]?=some (.cells #[.int .i64 (x.off:Int), .int .i64 (x.size:Int), .bool x.used] 132 (0,0)):=by rw[<-hwd,<-hw0,<-hgxe];exact heap_alloc_new w _
 have GX:=hE0 (aar hnx).1;have hgx:gx<wd.heap.size:=aan hnx;have HH:=hE0 h;have HH1:=hE0 (h.below hbd);have HN:=hE0 hN;have HDL:Hid (H.ds.length=n):=hdl;have HGX:=hE0 hgxe;have HWD1:Hid ((w.alloc (.cells #[.int .i64 (x.off:Int), .int .i64 (x.size:Int), .bool x.used] 132)).drew=wd):=(show _=_ by rw[hw0];exact hwd);have HBD:=hE0 hbd;have EE1:=hE0 HH1.out.c1;have hpd1:=HH1.out.lt;have hob:wd.ownsRow 0 132 3 Vb n (aaD H.blks):=by have e:=HH1.out.ob;rw[hN]at e;exact e
 have HOB:=hE0 hob;clear h hN hdl hw0 hwd hbd hgxe hnx hob;go_enter Tryz.func161,Tryz.ntmps161
 go_wp2_with fail
 rw[HGX.out];go_cut [] from 6 (fun wx=>∃V1,Hm (fun k=>F k\/V1.ownBlock=some k) wx p {H with blks:=H.blks.take i++x::H.blks.drop i} V1 Vd gl cs/\Tch F w wx/\∀k,V1.ownBlock=some k->w.heap.size<=k)
 case first=>
  have hob:=HOB.out;clear HOB;rcases aoA hob i hi with⟨rfl,hz1,_⟩ | ⟨b1,rfl,_,hf1,_⟩ | ⟨b1,c1,rfl,_,hc1,hd1,_⟩
  · have HN0:=hE0 hz1;clear hz1 hob;refine aaB wd.heap.size (.two [0,2,3,4,5,6,7,9,12,13,14,15,16,17] 1 (.two [] 8 (.one [] 10 (.one [] 11 (.one [] 18 (.fin [19,20])))) 10 (.one [] 8 (.one [] 11 (.one [] 18 (.fin [19,20]))))) 10 (.one [] 1 (.one [] 8 (.one [] 11 (.one [] 18 (.fin [19,20])))))) [21] (by kernel_rfl) (by kernel_rfl) (by kernel_rfl) (fun _ _ _ _ _ h=>h) ?_;rw[HWD1.out];have t1:∀z:LaterB wd.heap.size wd,z.val.cell? ⟨p,1,none⟩=some (.slice none 0 0):=fun z=>(z.ext.cell (p:=⟨p,1,none⟩) hpd1).trans EE1.out;have hi0v:i<=0:=by have:=HN0.out;omega
    have t2:∀z:LaterB wd.heap.size wd,z.val.cell? ⟨gx,0,none⟩=some (.int .i64 (x.off:Int)):=fun z=>(z.ext.cell (p:=⟨gx,0,none⟩) hgx).trans GX.out.1;have t3:∀z:LaterB wd.heap.size wd,z.val.cell? ⟨gx,1,none⟩=some (.int .i64 (x.size:Int)):=fun z=>(z.ext.cell (p:=⟨gx,1,none⟩) hgx).trans GX.out.2.1;have t4:∀z:LaterB wd.heap.size wd,z.val.cell? ⟨gx,2,none⟩=some (.bool x.used):=fun z=>(z.ext.cell (p:=⟨gx,2,none⟩) hgx).trans GX.out.2.2;refine aaT (l:= ?seg1n) ?hseg1n ?_
    case hseg1n=>simp only[pick,lE1,lE2,lE3];rfl
    repeat (go_big_quiet_step (fail))
    refine wpQuiet_nil ?_;clear t1 t2 t3 t4 hi0v;refine aey (e:=132) (t:=56) (z:=(.agg #[.int .i64 0, .int .i64 0, .bool false])) (size:=3) (bytes:=24) (d1:=7) (d8:=14) (d10:=16) (d11:=17) (d18:=24) (s8:=13) (s18:=23) (s10:=15) (A1:=none) (A2:=none) (m1:=0) (c1:=0) (m2:=0) (c2:=0) (n1:= []) (n2:= []) (cv:= #[.int .i64 (x.off:Int), .int .i64 (x.size:Int), .bool x.used]) ⟨⟨rfl,rfl,fun _=>rfl⟩,⟨rfl,rfl,fun _=>rfl⟩,⟨rfl,rfl,fun _=>rfl⟩,⟨rfl,rfl,fun _=>rfl⟩,⟨rfl,rfl,fun _=>rfl⟩,fun b v=>aah rfl rfl (ab9 v),fun b v hb=>aah rfl (by show [(0,b.eval (.tmp 15))]=_;rw[hb];rfl) (agP v (x.off:Int) (x.size:Int) x.used),rfl,rfl,rfl,Tryz.underlying56,ado,rfl,by decide,by decide,by decide,⟨Nat.lt_of_lt_of_eq (m:=47) (by decide) rfl,Nat.lt_of_lt_of_eq (m:=47) (by decide) rfl,Nat.lt_of_lt_of_eq (m:=47) (by decide) rfl,Nat.lt_of_lt_of_eq (m:=47) (by decide) rfl,Nat.lt_of_lt_of_eq (m:=47) (by decide) rfl⟩,rfl,rfl,rfl,rfl,(aiB _ _ rfl),(aiB _ _ rfl),(fun a e=>(by cases e)),(fun a e=>(by cases e)),(fun u hu=>(by cases hu)),(fun u hu=>(by cases hu)),rfl,(by intro u hu;simp only[List.mem_cons,List.not_mem_nil,or_false]at hu;rcases hu with rfl | rfl | rfl<;>rfl),by omega⟩ ?_;intro r1 r8 r10 r11 u1 v1 ownu1 bv21;simp only[Act.put,lE4,lE5,lE6];simp only[Nat.add_zero,Nat.zero_add]at ownu1;obtain⟨uA1,uc1,rfl⟩:=aa4 ownu1;have hrow1:v1.ownsRow wd.heap.size 132 3 (.slice uA1 1 uc1) (H.blks.take i++x::H.blks.drop i).length (aaD (H.blks.take i++x::H.blks.drop i)):=by
     have hnil:H.blks= []:=List.eq_nil_of_length_eq_zero (by have:=HN.out;have:=HN0.out;omega);have e:=ownu1;have hi0:i=0:=by have:=HN0.out;omega
     subst hi0;rw[hnil];exact e
    have HM1:=hE0 (HH1.out.below bv21);have hm2':=HM1.out.bset _ _ (acg hrow1 (Nat.zero_le _));have htc:Tch F w (v1.setCell ⟨p,1,none⟩ (.slice uA1 (1) uc1)):=(Tch.of_below (S:=F) (HBD.out.trans (bv21.mono HBD.out.size))).trans (Tch.set v1 ⟨p,1,none⟩ _ HH.out.fp) (fun _ _ h=>h);have HRES:=hE0 (And.intro hm2' (And.intro htc (fun k hk=>Nat.le_trans HBD.out.size (hrow1.lt k hk).1)));clear ownu1 hrow1 bv21 hm2' htc;have q1:=HM1.out.c1;have f1:=HM1.out.thaw 1;have hp1:=HM1.out.lt;refine aaF (l:= ?la1n) (t:= ?tl1n) ?hla1n ?htl1n ?_
    case hla1n=>simp only[pick,lE1,lE2,lE3];rfl
    case htl1n=>simp only[pick,lE1,lE2,lE3];rfl
    repeat (go_big_quiet_step (fail))
    refine wpQuiet_nil ?_;go_wp2_with fail
    go_meet
    case rel=>exact⟨_,HRES.out⟩
  · have HNI:=hE0 hf1;clear hf1;have K1:=hE0 hob;have hbd1:b1<wd.heap.size:=aek K1.out rfl;clear hob;refine aaB wd.heap.size (.two [0,2,3,4,5,6,7,9,12,13,14,15,16,17] 1 (.two [] 8 (.one [] 10 (.one [] 11 (.one [] 18 (.fin [19,20])))) 10 (.one [] 8 (.one [] 11 (.one [] 18 (.fin [19,20]))))) 10 (.one [] 1 (.one [] 8 (.one [] 11 (.one [] 18 (.fin [19,20])))))) [21] (by kernel_rfl) (by kernel_rfl) (by kernel_rfl) (fun _ _ _ _ _ h=>h) ?_;rw[HWD1.out];have t1:∀z:LaterB wd.heap.size wd,z.val.cell? ⟨p,1,none⟩=some (.slice (some ⟨b1,0,none⟩) n i):=fun z=>(z.ext.cell (p:=⟨p,1,none⟩) hpd1).trans EE1.out;have t2:∀z:LaterB wd.heap.size wd,z.val.cell? ⟨gx,0,none⟩=some (.int .i64 (x.off:Int)):=fun z=>(z.ext.cell (p:=⟨gx,0,none⟩) hgx).trans GX.out.1;have t3:∀z:LaterB wd.heap.size wd,z.val.cell? ⟨gx,1,none⟩=some (.int .i64 (x.size:Int)):=fun z=>(z.ext.cell (p:=⟨gx,1,none⟩) hgx).trans GX.out.2.1;have t4:∀z:LaterB wd.heap.size wd,z.val.cell? ⟨gx,2,none⟩=some (.bool x.used):=fun z=>(z.ext.cell (p:=⟨gx,2,none⟩) hgx).trans GX.out.2.2;refine aaT (l:= ?seg1f) ?hseg1f ?_
    case hseg1f=>simp only[pick,lE1,lE2,lE3];rfl
    repeat (go_big_quiet_step (fail))
    refine wpQuiet_nil ?_;clear t1 t2 t3 t4;refine aey (e:=132) (t:=56) (z:=(.agg #[.int .i64 0, .int .i64 0, .bool false])) (size:=3) (bytes:=24) (d1:=7) (d8:=14) (d10:=16) (d11:=17) (d18:=24) (s8:=13) (s18:=23) (s10:=15) (A1:=(some ⟨b1,0,none⟩)) (A2:=(some ⟨b1,0,none⟩)) (m1:=i) (c1:=i) (m2:=(n-i)) (c2:=0) (n1:=(((aaD H.blks).drop (0*3)).take (i*3))) (n2:=(((aaD H.blks).drop (i*3)).take ((n-i)*3))) (cv:= #[.int .i64 (x.off:Int), .int .i64 (x.size:Int), .bool x.used]) ⟨⟨rfl,rfl,fun _=>rfl⟩,⟨rfl,rfl,fun _=>rfl⟩,⟨rfl,rfl,fun _=>rfl⟩,⟨rfl,rfl,fun _=>rfl⟩,⟨rfl,rfl,fun _=>rfl⟩,fun b v=>aah rfl rfl (ab9 v),fun b v hb=>aah rfl (by show [(0,b.eval (.tmp 15))]=_;rw[hb];rfl) (agP v (x.off:Int) (x.size:Int) x.used),rfl,rfl,rfl,Tryz.underlying56,ado,rfl,by decide,by decide,by decide,⟨Nat.lt_of_lt_of_eq (m:=47) (by decide) rfl,Nat.lt_of_lt_of_eq (m:=47) (by decide) rfl,Nat.lt_of_lt_of_eq (m:=47) (by decide) rfl,Nat.lt_of_lt_of_eq (m:=47) (by decide) rfl,Nat.lt_of_lt_of_eq (m:=47) (by decide) rfl⟩,rfl,rfl,(by have:=K1.out.1;rw[List.length_take,List.length_drop];omega),(by have:=K1.out.1;rw[List.length_take,List.length_drop];omega),((acL K1.out 0 i (by omega) ⟨b1,0,none⟩ (.inr (by rw[Nat.zero_mul]))).cap (c':=i)),((acL K1.out i (n-i) (by omega) ⟨b1,0,none⟩ (.inl (by have:=HNI.out;omega))).cap (c':=0)),(fun a e=>(by cases e;exact hbd1)),(fun a e=>(by cases e;exact hbd1)),(fun u hu=>(abx H.blks) u (List.mem_of_mem_drop (List.mem_of_mem_take hu))),(fun u hu=>(abx H.blks) u (List.mem_of_mem_drop (List.mem_of_mem_take hu))),rfl,(by intro u hu;simp only[List.mem_cons,List.not_mem_nil,or_false]at hu;rcases hu with rfl | rfl | rfl<;>rfl),by omega⟩ ?_;intro r1 r8 r10 r11 u1 v1 ownu1 bv21;simp only[Act.put,lE4,lE5,lE6];obtain⟨uA1,uc1,rfl⟩:=aa4 ownu1;have e1u:i+1+(n-i)=(H.blks.take i++x::H.blks.drop i).length:=by have:=HN.out;rw[List.length_append,List.length_take,List.length_cons,List.length_drop];omega
    have hrow1:v1.ownsRow wd.heap.size 132 3 (.slice uA1 (i+1+(n-i)) uc1) (H.blks.take i++x::H.blks.drop i).length (aaD (H.blks.take i++x::H.blks.drop i)):=by
     rw[<-e1u,adb,afH,show aaD (x::H.blks.drop i)= [.int .i64 (x.off:Int), .int .i64 (x.size:Int), .bool x.used]++aaD (H.blks.drop i) from rfl,afI];have e:=ownu1;rw[Nat.zero_mul,List.drop_zero,List.take_of_length_le (i:=(n-i)*3) (by have:=K1.out.1;rw[List.length_drop];omega)]at e;exact e
    clear e1u;have HM1:=hE0 (HH1.out.below bv21);have hm2':=HM1.out.bset _ _ (acg hrow1 (Nat.zero_le _));have htc:Tch F w (v1.setCell ⟨p,1,none⟩ (.slice uA1 (i+1+(n-i)) uc1)):=(Tch.of_below (S:=F) (HBD.out.trans (bv21.mono HBD.out.size))).trans (Tch.set v1 ⟨p,1,none⟩ _ HH.out.fp) (fun _ _ h=>h);have HRES:=hE0 (And.intro hm2' (And.intro htc (fun k hk=>Nat.le_trans HBD.out.size (hrow1.lt k hk).1)));clear ownu1 hrow1 bv21 hm2' htc;have q1:=HM1.out.c1;have f1:=HM1.out.thaw 1;have hp1:=HM1.out.lt;refine aaF (l:= ?la1f) (t:= ?tl1f) ?hla1f ?htl1f ?_
    case hla1f=>simp only[pick,lE1,lE2,lE3];rfl
    case htl1f=>simp only[pick,lE1,lE2,lE3];rfl
    repeat (go_big_quiet_step (fail))
    refine wpQuiet_nil ?_;go_wp2_with fail
    go_meet
    case rel=>exact⟨_,HRES.out⟩
  · have K1:=hE0 hob;have hbd1:b1<wd.heap.size:=aek K1.out rfl;clear hob;refine aaB wd.heap.size (.two [0,2,3,4,5,6,7,9,12,13,14,15,16,17] 1 (.two [] 8 (.one [] 10 (.one [] 11 (.one [] 18 (.fin [19,20])))) 10 (.one [] 8 (.one [] 11 (.one [] 18 (.fin [19,20]))))) 10 (.one [] 1 (.one [] 8 (.one [] 11 (.one [] 18 (.fin [19,20])))))) [21] (by kernel_rfl) (by kernel_rfl) (by kernel_rfl) (fun _ _ _ _ _ h=>h) ?_;rw[HWD1.out];have t1:∀z:LaterB wd.heap.size wd,z.val.cell? ⟨p,1,none⟩=some (.slice (some ⟨b1,0,none⟩) n c1):=fun z=>(z.ext.cell (p:=⟨p,1,none⟩) hpd1).trans EE1.out;have t2:∀z:LaterB wd.heap.size wd,z.val.cell? ⟨gx,0,none⟩=some (.int .i64 (x.off:Int)):=fun z=>(z.ext.cell (p:=⟨gx,0,none⟩) hgx).trans GX.out.1;have t3:∀z:LaterB wd.heap.size wd,z.val.cell? ⟨gx,1,none⟩=some (.int .i64 (x.size:Int)):=fun z=>(z.ext.cell (p:=⟨gx,1,none⟩) hgx).trans GX.out.2.1;have t4:∀z:LaterB wd.heap.size wd,z.val.cell? ⟨gx,2,none⟩=some (.bool x.used):=fun z=>(z.ext.cell (p:=⟨gx,2,none⟩) hgx).trans GX.out.2.2;refine aaT (l:= ?seg1g) ?hseg1g ?_
    case hseg1g=>simp only[pick,lE1,lE2,lE3];rfl
    repeat (go_big_quiet_step (fail))
    refine wpQuiet_nil ?_;clear t1 t2 t3 t4;refine aey (e:=132) (t:=56) (z:=(.agg #[.int .i64 0, .int .i64 0, .bool false])) (size:=3) (bytes:=24) (d1:=7) (d8:=14) (d10:=16) (d11:=17) (d18:=24) (s8:=13) (s18:=23) (s10:=15) (A1:=(some ⟨b1,0,none⟩)) (A2:=(some ⟨b1,i*3,none⟩)) (m1:=i) (c1:=c1) (m2:=(n-i)) (c2:=(c1-i)) (n1:=(((aaD H.blks).drop (0*3)).take (i*3))) (n2:=(((aaD H.blks).drop (i*3)).take ((n-i)*3))) (cv:= #[.int .i64 (x.off:Int), .int .i64 (x.size:Int), .bool x.used]) ⟨⟨rfl,rfl,fun _=>rfl⟩,⟨rfl,rfl,fun _=>rfl⟩,⟨rfl,rfl,fun _=>rfl⟩,⟨rfl,rfl,fun _=>rfl⟩,⟨rfl,rfl,fun _=>rfl⟩,fun b v=>aah rfl rfl (ab9 v),fun b v hb=>aah rfl (by show [(0,b.eval (.tmp 15))]=_;rw[hb];rfl) (agP v (x.off:Int) (x.size:Int) x.used),rfl,rfl,rfl,Tryz.underlying56,ado,rfl,by decide,by decide,by decide,⟨Nat.lt_of_lt_of_eq (m:=47) (by decide) rfl,Nat.lt_of_lt_of_eq (m:=47) (by decide) rfl,Nat.lt_of_lt_of_eq (m:=47) (by decide) rfl,Nat.lt_of_lt_of_eq (m:=47) (by decide) rfl,Nat.lt_of_lt_of_eq (m:=47) (by decide) rfl⟩,rfl,rfl,(by have:=K1.out.1;rw[List.length_take,List.length_drop];omega),(by have:=K1.out.1;rw[List.length_take,List.length_drop];omega),((acL K1.out 0 i (by omega) ⟨b1,0,none⟩ (.inr (by rw[Nat.zero_mul]))).cap (c':=c1)),((acL K1.out i (n-i) (by omega) ⟨b1,i*3,none⟩ (.inr (by first | rfl | rw[Nat.mul_one]))).cap (c':=c1-i)),(fun a e=>(by cases e;exact hbd1)),(fun a e=>(by cases e;exact hbd1)),(fun u hu=>(abx H.blks) u (List.mem_of_mem_drop (List.mem_of_mem_take hu))),(fun u hu=>(abx H.blks) u (List.mem_of_mem_drop (List.mem_of_mem_take hu))),rfl,(by intro u hu;simp only[List.mem_cons,List.not_mem_nil,or_false]at hu;rcases hu with rfl | rfl | rfl<;>rfl),by omega⟩ ?_;intro r1 r8 r10 r11 u1 v1 ownu1 bv21;simp only[Act.put,lE4,lE5,lE6];obtain⟨uA1,uc1,rfl⟩:=aa4 ownu1;have e1u:i+1+(n-i)=(H.blks.take i++x::H.blks.drop i).length:=by have:=HN.out;rw[List.length_append,List.length_take,List.length_cons,List.length_drop];omega
    have hrow1:v1.ownsRow wd.heap.size 132 3 (.slice uA1 (i+1+(n-i)) uc1) (H.blks.take i++x::H.blks.drop i).length (aaD (H.blks.take i++x::H.blks.drop i)):=by
     rw[<-e1u,adb,afH,show aaD (x::H.blks.drop i)= [.int .i64 (x.off:Int), .int .i64 (x.size:Int), .bool x.used]++aaD (H.blks.drop i) from rfl,afI];have e:=ownu1;rw[Nat.zero_mul,List.drop_zero,List.take_of_length_le (i:=(n-i)*3) (by have:=K1.out.1;rw[List.length_drop];omega)]at e;exact e
    clear e1u;have HM1:=hE0 (HH1.out.below bv21);have hm2':=HM1.out.bset _ _ (acg hrow1 (Nat.zero_le _));have htc:Tch F w (v1.setCell ⟨p,1,none⟩ (.slice uA1 (i+1+(n-i)) uc1)):=(Tch.of_below (S:=F) (HBD.out.trans (bv21.mono HBD.out.size))).trans (Tch.set v1 ⟨p,1,none⟩ _ HH.out.fp) (fun _ _ h=>h);have HRES:=hE0 (And.intro hm2' (And.intro htc (fun k hk=>Nat.le_trans HBD.out.size (hrow1.lt k hk).1)));clear ownu1 hrow1 bv21 hm2' htc;have q1:=HM1.out.c1;have f1:=HM1.out.thaw 1;have hp1:=HM1.out.lt;refine aaF (l:= ?la1g) (t:= ?tl1g) ?hla1g ?htl1g ?_
    case hla1g=>simp only[pick,lE1,lE2,lE3];rfl
    case htl1g=>simp only[pick,lE1,lE2,lE3];rfl
    repeat (go_big_quiet_step (fail))
    refine wpQuiet_nil ?_;go_wp2_with fail
    go_meet
    case rel=>exact⟨_,HRES.out⟩
 case rest=>
  obtain⟨V1,hm1,htc,hl1⟩:=hcut;clear HOB EE1 hpd1 GX hgx HGX HWD1 HH1;obtain⟨we,hwe⟩:=nmE wc.drew;have hbe:=adE hwe;have HME:=hE0 (hm1.below hbe);have HTC:=hE0 (htc.trans (Tch.of_below (S:=F) hbe) (fun _ _ h=>h));have HL1:=hE0 hl1;have HWD2:=hE0 hwe;have EE2:=hE0 HME.out.c2;have hpd2:=HME.out.lt;have hod:we.ownsRow 0 37 1 Vd n (H.ds.map Prod.fst):=by have e:=HME.out.od;dsimp only at e;rw[HDL.out]at e;exact e
  clear hm1 htc hl1 hwe hbe;rcases aoA hod i hi with⟨rfl,hz2,_⟩ | ⟨b2,rfl,_,hf2,_⟩ | ⟨b2,c2,rfl,_,hc2,hd2,_⟩
  · go_wp2_with fail
    have HN0:=hE0 hz2;clear hz2 hod;refine aaB we.heap.size (.two [0,2,3,4,5,6,7,11,12,13,14,15,16] 1 (.two [] 8 (.one [] 9 (.one [] 10 (.one [] 17 (.fin [18,19])))) 9 (.one [] 8 (.one [] 10 (.one [] 17 (.fin [18,19]))))) 9 (.one [] 1 (.one [] 8 (.one [] 10 (.one [] 17 (.fin [18,19])))))) [20] (by kernel_rfl) (by kernel_rfl) (by kernel_rfl) (fun _ _ _ _ _ h=>h) ?_;rw[HWD2.out];have t1:∀z:LaterB we.heap.size we,z.val.cell? ⟨p,2,none⟩=some (.slice none 0 0):=fun z=>(z.ext.cell (p:=⟨p,2,none⟩) hpd2).trans EE2.out;have hi0v:i<=0:=by have:=HN0.out;omega
    refine aaT (l:= ?seg2n) ?hseg2n ?_
    case hseg2n=>simp only[pick,lE1,lE2,lE3];rfl
    repeat (go_big_quiet_step (fail))
    refine wpQuiet_nil ?_;clear t1 hi0v;refine aey (e:=37) (t:=57) (z:=(.slice none 0 0)) (size:=1) (bytes:=24) (d1:=28) (d8:=35) (d10:=36) (d11:=37) (d18:=44) (s8:=34) (s18:=43) (s10:=0) (A1:=none) (A2:=none) (m1:=0) (c1:=0) (m2:=0) (c2:=0) (n1:= []) (n2:= []) (cv:= #[.slice none 0 0]) ⟨⟨rfl,rfl,fun _=>rfl⟩,⟨rfl,rfl,fun _=>rfl⟩,⟨rfl,rfl,fun _=>rfl⟩,⟨rfl,rfl,fun _=>rfl⟩,⟨rfl,rfl,fun _=>rfl⟩,fun b v=>aah rfl rfl (afG v),fun b v hb=>aah rfl rfl (afb v),rfl,rfl,rfl,Tryz.underlying57,agN,rfl,by decide,by decide,by decide,⟨Nat.lt_of_lt_of_eq (m:=47) (by decide) rfl,Nat.lt_of_lt_of_eq (m:=47) (by decide) rfl,Nat.lt_of_lt_of_eq (m:=47) (by decide) rfl,Nat.lt_of_lt_of_eq (m:=47) (by decide) rfl,Nat.lt_of_lt_of_eq (m:=47) (by decide) rfl⟩,rfl,rfl,rfl,rfl,(aiB _ _ rfl),(aiB _ _ rfl),(fun a e=>(by cases e)),(fun a e=>(by cases e)),(fun u hu=>(by cases hu)),(fun u hu=>(by cases hu)),rfl,(by intro u hu;simp only[List.mem_cons,List.not_mem_nil,or_false]at hu;subst hu;rfl),by omega⟩ ?_;intro r1 r8 r10 r11 u2 v2 ownu2 bv22;simp only[Act.put,lE4,lE5,lE6];simp only[Nat.add_zero,Nat.zero_add]at ownu2;obtain⟨uA2,uc2,rfl⟩:=aa4 ownu2;have hrow2:v2.ownsRow we.heap.size 37 1 (.slice uA2 1 uc2) (H.ds.take i++acB::H.ds.drop i).length ((H.ds.take i++acB::H.ds.drop i).map Prod.fst):=by
     have hnil:H.ds= []:=List.eq_nil_of_length_eq_zero (by have:=HDL.out;have:=HN0.out;omega);have e:=ownu2;have hi0:i=0:=by have:=HN0.out;omega
     subst hi0;rw[hnil];exact e
    have HM2:=hE0 (HME.out.below bv22);have hm3:=HM2.out.dset _ _ (acg hrow2 (Nat.zero_le _)) (fun d hd=>by
     rcases List.mem_append.1 hd with h | h
     · exact HH.out.sl d (List.mem_of_mem_take h)
     · rcases List.mem_cons.1 h with rfl | h
       · exact⟨_,_,_,rfl⟩
       · exact HH.out.sl d (List.mem_of_mem_drop h))
    have hto:HT F w p (H.put i x) (v2.setCell ⟨p,2,none⟩ (.slice uA2 (1) uc2)):=by
     refine⟨_,⟨_,_,_,_,hm3⟩,?_,fun k hk=> ?_⟩
     · exact(HTC.out.trans (Tch.of_below (S:=F) bv22) (fun _ _ h=>h)).trans (Tch.set v2 ⟨p,2,none⟩ _ HH.out.fp) (fun _ _ h=>h)
     · rcases hk with(hk | hk) | hk
       · exact .inl hk
       · exact .inr (HL1.out k hk)
       · exact .inr (by have:=(hrow2.lt k hk).1;have:=HTC.out.size;omega)
    have HTO:=hE0 hto;clear ownu2 hrow2 hm3 hto bv22;have q2:=HM2.out.c2;have f2:=HM2.out.thaw 2;have hp2:=HM2.out.lt;refine aaF (l:= ?la2n) (t:= ?tl2n) ?hla2n ?htl2n ?_
    case hla2n=>simp only[pick,lE1,lE2,lE3];rfl
    case htl2n=>simp only[pick,lE1,lE2,lE3];rfl
    repeat (go_big_quiet_step (fail))
    refine wpQuiet_nil ?_;go_wp2
    go_end0
    exact⟨rfl,HTO.out⟩
  · go_wp2_with fail
    have HNI:=hE0 hf2;clear hf2;have K2:=hE0 hod;have hbd2:b2<we.heap.size:=aek K2.out rfl;clear hod;refine aaB we.heap.size (.two [0,2,3,4,5,6,7,11,12,13,14,15,16] 1 (.two [] 8 (.one [] 9 (.one [] 10 (.one [] 17 (.fin [18,19])))) 9 (.one [] 8 (.one [] 10 (.one [] 17 (.fin [18,19]))))) 9 (.one [] 1 (.one [] 8 (.one [] 10 (.one [] 17 (.fin [18,19])))))) [20] (by kernel_rfl) (by kernel_rfl) (by kernel_rfl) (fun _ _ _ _ _ h=>h) ?_;rw[HWD2.out];have t1:∀z:LaterB we.heap.size we,z.val.cell? ⟨p,2,none⟩=some (.slice (some ⟨b2,0,none⟩) n i):=fun z=>(z.ext.cell (p:=⟨p,2,none⟩) hpd2).trans EE2.out;refine aaT (l:= ?seg2f) ?hseg2f ?_
    case hseg2f=>simp only[pick,lE1,lE2,lE3];rfl
    repeat (go_big_quiet_step (fail))
    refine wpQuiet_nil ?_;clear t1;refine aey (e:=37) (t:=57) (z:=(.slice none 0 0)) (size:=1) (bytes:=24) (d1:=28) (d8:=35) (d10:=36) (d11:=37) (d18:=44) (s8:=34) (s18:=43) (s10:=0) (A1:=(some ⟨b2,0,none⟩)) (A2:=(some ⟨b2,0,none⟩)) (m1:=i) (c1:=i) (m2:=(n-i)) (c2:=0) (n1:=(((H.ds.map Prod.fst).drop (0*1)).take (i*1))) (n2:=(((H.ds.map Prod.fst).drop (i*1)).take ((n-i)*1))) (cv:= #[.slice none 0 0]) ⟨⟨rfl,rfl,fun _=>rfl⟩,⟨rfl,rfl,fun _=>rfl⟩,⟨rfl,rfl,fun _=>rfl⟩,⟨rfl,rfl,fun _=>rfl⟩,⟨rfl,rfl,fun _=>rfl⟩,fun b v=>aah rfl rfl (afG v),fun b v hb=>aah rfl rfl (afb v),rfl,rfl,rfl,Tryz.underlying57,agN,rfl,by decide,by decide,by decide,⟨Nat.lt_of_lt_of_eq (m:=47) (by decide) rfl,Nat.lt_of_lt_of_eq (m:=47) (by decide) rfl,Nat.lt_of_lt_of_eq (m:=47) (by decide) rfl,Nat.lt_of_lt_of_eq (m:=47) (by decide) rfl,Nat.lt_of_lt_of_eq (m:=47) (by decide) rfl⟩,rfl,rfl,(by have:=K2.out.1;rw[List.length_take,List.length_drop];omega),(by have:=K2.out.1;rw[List.length_take,List.length_drop];omega),((acL K2.out 0 i (by omega) ⟨b2,0,none⟩ (.inr (by rw[Nat.zero_mul]))).cap (c':=i)),((acL K2.out i (n-i) (by omega) ⟨b2,0,none⟩ (.inl (by have:=HNI.out;omega))).cap (c':=0)),(fun a e=>(by cases e;exact hbd2)),(fun a e=>(by cases e;exact hbd2)),(fun u hu=>(alD HH.out.sl) u (List.mem_of_mem_drop (List.mem_of_mem_take hu))),(fun u hu=>(alD HH.out.sl) u (List.mem_of_mem_drop (List.mem_of_mem_take hu))),rfl,(by intro u hu;simp only[List.mem_cons,List.not_mem_nil,or_false]at hu;subst hu;rfl),by omega⟩ ?_;intro r1 r8 r10 r11 u2 v2 ownu2 bv22;simp only[Act.put,lE4,lE5,lE6];obtain⟨uA2,uc2,rfl⟩:=aa4 ownu2;have e2u:i+1+(n-i)=(H.ds.take i++acB::H.ds.drop i).length:=by have:=HDL.out;rw[List.length_append,List.length_take,List.length_cons,List.length_drop];omega
    have hrow2:v2.ownsRow we.heap.size 37 1 (.slice uA2 (i+1+(n-i)) uc2) (H.ds.take i++acB::H.ds.drop i).length ((H.ds.take i++acB::H.ds.drop i).map Prod.fst):=by
     rw[<-e2u,List.map_append,List.map_take,List.map_cons,List.map_drop];have e:=ownu2;rw[Nat.zero_mul,List.drop_zero,Nat.mul_one,Nat.mul_one,List.take_of_length_le (i:=n-i) (by have:=K2.out.1;rw[List.length_drop];omega)]at e;exact e
    clear e2u;have HM2:=hE0 (HME.out.below bv22);have hm3:=HM2.out.dset _ _ (acg hrow2 (Nat.zero_le _)) (fun d hd=>by
     rcases List.mem_append.1 hd with h | h
     · exact HH.out.sl d (List.mem_of_mem_take h)
     · rcases List.mem_cons.1 h with rfl | h
       · exact⟨_,_,_,rfl⟩
       · exact HH.out.sl d (List.mem_of_mem_drop h))
    have hto:HT F w p (H.put i x) (v2.setCell ⟨p,2,none⟩ (.slice uA2 (i+1+(n-i)) uc2)):=by
     refine⟨_,⟨_,_,_,_,hm3⟩,?_,fun k hk=> ?_⟩
     · exact(HTC.out.trans (Tch.of_below (S:=F) bv22) (fun _ _ h=>h)).trans (Tch.set v2 ⟨p,2,none⟩ _ HH.out.fp) (fun _ _ h=>h)
     · rcases hk with(hk | hk) | hk
       · exact .inl hk
       · exact .inr (HL1.out k hk)
       · exact .inr (by have:=(hrow2.lt k hk).1;have:=HTC.out.size;omega)
    have HTO:=hE0 hto;clear ownu2 hrow2 hm3 hto bv22;have q2:=HM2.out.c2;have f2:=HM2.out.thaw 2;have hp2:=HM2.out.lt;refine aaF (l:= ?la2f) (t:= ?tl2f) ?hla2f ?htl2f ?_
    case hla2f=>simp only[pick,lE1,lE2,lE3];rfl
    case htl2f=>simp only[pick,lE1,lE2,lE3];rfl
    repeat (go_big_quiet_step (fail))
    refine wpQuiet_nil ?_;go_wp2
    go_end0
    exact⟨rfl,HTO.out⟩
  · go_wp2_with fail
    have K2:=hE0 hod;have hbd2:b2<we.heap.size:=aek K2.out rfl;clear hod;refine aaB we.heap.size (.two [0,2,3,4,5,6,7,11,12,13,14,15,16] 1 (.two [] 8 (.one [] 9 (.one [] 10 (.one [] 17 (.fin [18,19])))) 9 (.one [] 8 (.one [] 10 (.one [] 17 (.fin [18,19]))))) 9 (.one [] 1 (.one [] 8 (.one [] 10 (.one [] 17 (.fin [18,19])))))) [20] (by kernel_rfl) (by kernel_rfl) (by kernel_rfl) (fun _ _ _ _ _ h=>h) ?_;rw[HWD2.out];have t1:∀z:LaterB we.heap.size we,z.val.cell? ⟨p,2,none⟩=some (.slice (some ⟨b2,0,none⟩) n c2):=fun z=>(z.ext.cell (p:=⟨p,2,none⟩) hpd2).trans EE2.out;refine aaT (l:= ?seg2g) ?hseg2g ?_
    case hseg2g=>simp only[pick,lE1,lE2,lE3];rfl
    repeat (go_big_quiet_step (fail))
    refine wpQuiet_nil ?_;clear t1;refine aey (e:=37) (t:=57) (z:=(.slice none 0 0)) (size:=1) (bytes:=24) (d1:=28) (d8:=35) (d10:=36) (d11:=37) (d18:=44) (s8:=34) (s18:=43) (s10:=0) (A1:=(some ⟨b2,0,none⟩)) (A2:=(some ⟨b2,i,none⟩)) (m1:=i) (c1:=c2) (m2:=(n-i)) (c2:=(c2-i)) (n1:=(((H.ds.map Prod.fst).drop (0*1)).take (i*1))) (n2:=(((H.ds.map Prod.fst).drop (i*1)).take ((n-i)*1))) (cv:= #[.slice none 0 0]) ⟨⟨rfl,rfl,fun _=>rfl⟩,⟨rfl,rfl,fun _=>rfl⟩,⟨rfl,rfl,fun _=>rfl⟩,⟨rfl,rfl,fun _=>rfl⟩,⟨rfl,rfl,fun _=>rfl⟩,fun b v=>aah rfl rfl (afG v),fun b v hb=>aah rfl rfl (afb v),rfl,rfl,rfl,Tryz.underlying57,agN,rfl,by decide,by decide,by decide,⟨Nat.lt_of_lt_of_eq (m:=47) (by decide) rfl,Nat.lt_of_lt_of_eq (m:=47) (by decide) rfl,Nat.lt_of_lt_of_eq (m:=47) (by decide) rfl,Nat.lt_of_lt_of_eq (m:=47) (by decide) rfl,Nat.lt_of_lt_of_eq (m:=47) (by decide) rfl⟩,rfl,rfl,(by have:=K2.out.1;rw[List.length_take,List.length_drop];omega),(by have:=K2.out.1;rw[List.length_take,List.length_drop];omega),((acL K2.out 0 i (by omega) ⟨b2,0,none⟩ (.inr (by rw[Nat.zero_mul]))).cap (c':=c2)),((acL K2.out i (n-i) (by omega) ⟨b2,i,none⟩ (.inr (by first | rfl | rw[Nat.mul_one]))).cap (c':=c2-i)),(fun a e=>(by cases e;exact hbd2)),(fun a e=>(by cases e;exact hbd2)),(fun u hu=>(alD HH.out.sl) u (List.mem_of_mem_drop (List.mem_of_mem_take hu))),(fun u hu=>(alD HH.out.sl) u (List.mem_of_mem_drop (List.mem_of_mem_take hu))),rfl,(by intro u hu;simp only[List.mem_cons,List.not_mem_nil,or_false]at hu;subst hu;rfl),by omega⟩ ?_;intro r1 r8 r10 r11 u2 v2 ownu2 bv22;simp only[Act.put,lE4,lE5,lE6];obtain⟨uA2,uc2,rfl⟩:=aa4 ownu2;have e2u:i+1+(n-i)=(H.ds.take i++acB::H.ds.drop i).length:=by have:=HDL.out;rw[List.length_append,List.length_take,List.length_cons,List.length_drop];omega
    have hrow2:v2.ownsRow we.heap.size 37 1 (.slice uA2 (i+1+(n-i)) uc2) (H.ds.take i++acB::H.ds.drop i).length ((H.ds.take i++acB::H.ds.drop i).map Prod.fst):=by
     rw[<-e2u,List.map_append,List.map_take,List.map_cons,List.map_drop];have e:=ownu2;rw[Nat.zero_mul,List.drop_zero,Nat.mul_one,Nat.mul_one,List.take_of_length_le (i:=n-i) (by have:=K2.out.1;rw[List.length_drop];omega)]at e;exact e
    clear e2u;have HM2:=hE0 (HME.out.below bv22);have hm3:=HM2.out.dset _ _ (acg hrow2 (Nat.zero_le _)) (fun d hd=>by
     rcases List.mem_append.1 hd with h | h
     · exact HH.out.sl d (List.mem_of_mem_take h)
     · rcases List.mem_cons.1 h with rfl | h
       · exact⟨_,_,_,rfl⟩
       · exact HH.out.sl d (List.mem_of_mem_drop h))
    have hto:HT F w p (H.put i x) (v2.setCell ⟨p,2,none⟩ (.slice uA2 (i+1+(n-i)) uc2)):=by
     refine⟨_,⟨_,_,_,_,hm3⟩,?_,fun k hk=> ?_⟩
     · exact(HTC.out.trans (Tch.of_below (S:=F) bv22) (fun _ _ h=>h)).trans (Tch.set v2 ⟨p,2,none⟩ _ HH.out.fp) (fun _ _ h=>h)
     · rcases hk with(hk | hk) | hk
       · exact .inl hk
       · exact .inr (HL1.out k hk)
       · exact .inr (by have:=(hrow2.lt k hk).1;have:=HTC.out.size;omega)
    have HTO:=hE0 hto;clear ownu2 hrow2 hm3 hto bv22;have q2:=HM2.out.c2;have f2:=HM2.out.thaw 2;have hp2:=HM2.out.lt;refine aaF (l:= ?la2g) (t:= ?tl2g) ?hla2g ?htl2g ?_
    case hla2g=>simp only[pick,lE1,lE2,lE3];rfl
    case htl2g=>simp only[pick,lE1,lE2,lE3];rfl
    repeat (go_big_quiet_step (fail))
    refine wpQuiet_nil ?_;go_wp2
    go_end0
    exact⟨rfl,HTO.out⟩
end
section
variable {F:Nat->Prop} {w w':World} {p gl:Nat} {H:Hp} {Vb Vd:Value} {cs:List Value}
theorem akH{base n size b c:Nat}{t:TypeId}{xs:List Value}(h:w.ownsRow base t size (.slice (some ⟨b,0,none⟩) n c) n xs) (j:Nat) (u:Value):(w.setCell ⟨b,j,none⟩ u).ownsRow base t size (.slice (some ⟨b,0,none⟩) n c) n (xs.set j u):=by
 refine⟨by rw[List.length_set];exact h.1, .inr ?_⟩;rcases h.2 with⟨h0,_⟩ | ⟨b',c',cur,hv,hb,hh,h1,h2,h3,h4⟩
 · cases h0
 · injection hv with e1 _ e3;injection e1 with e1;injection e1 with e1;subst e1 e3;refine⟨b,c,cur.setIfInBounds j u,rfl,hb,heap_setCell_same w b j _ _ u hh,h1,h2,by rw[Array.size_setIfInBounds];exact h3,?_⟩;rw[Array.toList_setIfInBounds,List.take_set,h4]
theorem Hm.dcell (h:Hm F w p H Vb Vd gl cs){b c i:Nat}(hV:Vd= .slice (some ⟨b,0,none⟩) H.ds.length c) (x:Dt) (hx:∃A n c,x.1=Value.slice A n c):Hm F (w.setCell ⟨b,i,none⟩ x.1) p {H with ds:=H.ds.set i x} Vb Vd gl cs:=by
 subst hV;obtain⟨cur,hcur⟩:∃cur,w.heap[b]?=some (.cells cur 37 (0,0)):=by
  rcases h.od.2 with⟨h0,_⟩ | ⟨b',c',cur,hv,_,hh,_⟩
  · cases h0
  · injection hv with e1;injection e1 with e1;injection e1 with e1;subst e1;exact⟨cur,hh⟩
 have hk:∀k,k≠b->(w.setCell ⟨b,i,none⟩ x.1).heap[k]?=w.heap[k]?:=fun k hk=>Below.heap_setCell w ⟨b,i,none⟩ x.1 k hk;have hpb:p≠b:=fun e=>by
  have h1:=h.obj;rw[e,hcur]at h1;injection h1 with h1;injection h1 with _ h1 _;exact absurd h1 (by decide)
 have hgb:gl≠b:=fun e=>by
  have h1:=h.row;rw[e,hcur]at h1;injection h1 with h1;injection h1 with _ h1 _;exact absurd h1 (by decide)
 refine⟨(hk p hpb).trans h.obj,aaP h.ob (fun k e=>hk k (ab5 h.ob hcur (by decide) k e)),?_,(hk gl hgb).trans h.row,h.len,fun d hd=> ?_,h.fp,h.fl,h.fb,h.fd,h.fi,fun d hd=> ?_⟩
 · dsimp only;rw[List.length_set,List.map_set];exact akH h.od i _
 · obtain⟨v,h1,h2⟩:=h.at_ d hd;exact⟨v,h1,aaP h2 (fun k e=>hk k (ab5 h2 hcur (by decide) k e))⟩
 · rcases List.mem_or_eq_of_mem_set hd with h' | h'
   · exact h.sl d h'
   · rw[h'];exact hx
theorem Hm.wipeM (h:Hm F w p H Vb Vd gl cs){b c i:Nat}(hV:Vd= .slice (some ⟨b,0,none⟩) H.ds.length c):Hm F (w.setCell ⟨b,i,none⟩ (.slice none 0 0)) p (H.wipe i) Vb Vd gl cs:=h.dcell hV acB ⟨_,_,_,rfl⟩
theorem asI{n b c:Nat}{l:List Bk}(h:w.ownsRow 0 132 3 (.slice (some ⟨b,0,none⟩) n c) n (aaD l)){i:Nat}{x:Bk}(hx:l[i]?=some x):(w.cell? ⟨b,i*3,none⟩=some (.int .i64 (x.off:Int))/\w.cell? ⟨b,i*3+1,none⟩=some (.int .i64 (x.size:Int))/\w.cell? ⟨b,i*3+2,none⟩=some (.bool x.used))/\∀j,w.frozen? ⟨b,j,none⟩=false:=by
 obtain⟨b',c',hv,_,_,_,h1,h2⟩:=aiy h hx;injection hv with e1 _ e3;injection e1 with e1;injection e1 with e1;subst e1 e3;exact⟨h1,h2⟩
structure Hz (F:Nat->Prop) (w:World) (p:Nat) (F':Nat->Prop) (w':World) (H':Hp) (Vb Vd:Value) (gl:Nat) (cs:List Value):Prop where
 hm:Hm F' w' p H' Vb Vd gl cs
 tc:Tch F w w'
 sub:∀k,F' k->F k\/w.heap.size<=k
section
variable {F' F2:Nat->Prop} {w2:World} {H' H2:Hp} {Vb2 Vd2:Value} {gl2:Nat} {cs2:List Value}
theorem Hz.step (h:Hz F w p F' w' H' Vb Vd gl cs) (t:HT F' w' p H2 w2):∃F2 Vb2 Vd2 gl2 cs2,Hz F w p F2 w2 H2 Vb2 Vd2 gl2 cs2:=by
 obtain⟨F2,⟨Vb2,Vd2,gl2,cs2,h2⟩,t2,f2⟩:=t;refine⟨F2,Vb2,Vd2,gl2,cs2,h2,h.tc.trans t2 (fun i hi h1=> ?_),fun j hj=> ?_⟩
 · rcases h.sub i h1 with h | h
   · exact h
   · omega
 · rcases f2 j hj with h' | h'
   · exact h.sub j h'
   · exact .inr (Nat.le_trans h.tc.size h')
theorem Hz.fin (h:Hz F w p F' w' H' Vb Vd gl cs):HT F w p H' w':=⟨F',⟨_,_,_,_,h.hm⟩,h.tc,h.sub⟩
end
theorem aqk (h:Hm F w p H Vb Vd gl cs) (i:Nat) (hi:i<=H.blks.length) (hn:H.blks.length<=100000) (hdl:H.ds.length=H.blks.length) (x:Bk):
 Calls Tryz.prog 161 #[.pointer (some ⟨p,0,none⟩), .int .i64 (i:Int), .agg #[.int .i64 (x.off:Int), .int .i64 (x.size:Int), .bool x.used]] w fun e w'=>e= .returned (.tuple #[])/\HT F w p (H.put i x) w':=by
 exact aqj H.blks.length i h rfl hi hn hdl x
end
theorem alE{w:World}{base n m size b c:Nat}{t:TypeId}{xs:List Value}(h:w.ownsRow base t size (.slice (some ⟨b,0,none⟩) m c) n xs) (j:Nat):w.frozen? ⟨b,j,none⟩=false:=by
 rcases h.2 with⟨h0,_⟩ | ⟨b',c',cur,hv,_,hh,_⟩
 · cases h0
 · injection hv with e1;injection e1 with e1;injection e1 with e1;subst e1;exact frozen_of_row w b j _ _ hh
section
variable {F:Nat->Prop} {w w':World} {p gl:Nat} {H:Hp} {Vb Vd:Value} {cs:List Value}
theorem agQ{w:World}{base n b c:Nat}{t:TypeId}{xs:List Value}(h:w.ownsRow base t 1 (.slice (some ⟨b,0,none⟩) n c) n xs){j:Nat}(hj:j<n):∃v,w.cell? ⟨b,j,none⟩=some v/\xs[j]?=some v:=by
 have hl:=h.1;rw[Nat.mul_one]at hl;exact⟨xs[j]'(by omega),by rw[h.cellAt j (by omega)];exact List.getElem?_eq_getElem _,List.getElem?_eq_getElem _⟩
theorem Hm.at_n{n b c:Nat}(h:Hm F w p H (.slice (some ⟨b,0,none⟩) n c) Vd gl cs) (hn:H.blks.length=n){i:Nat}(hi:i<n):w.cell? ⟨b,i*3,none⟩=some (.int .i64 ((aaL H.blks i).off:Int))/\w.cell? ⟨b,i*3+1,none⟩=some (.int .i64 ((aaL H.blks i).size:Int))/\w.cell? ⟨b,i*3+2,none⟩=some (.bool (aaL H.blks i).used):=by
 have e:=h.ob;rw[hn]at e;exact(asI e (acc (by omega))).1
end
theorem aql (w:World) (cap:Nat):
 Calls Tryz.prog 10 #[.int .i64 (cap:Int)] w fun e w'=>∃p,e= .returned (.pointer (some ⟨p,0,none⟩))/\HM (fun k=>w.heap.size<=k) w' p ⟨cap,[],[],fun _=> []⟩/\Below w.heap.size w w':=by
 obtain⟨c22,h22⟩:∃c22:List Value,List.replicate 22 (Value.slice none 0 0)=c22:=⟨_,rfl⟩;obtain⟨wg,hwg⟩:=nmE (w.alloc (.cells c22.toArray 23));obtain⟨wo,hwo⟩:=nmE (wg.alloc (.cells #[.int .i64 (cap:Int), .slice none 0 0, .slice none 0 0, .slice (some ⟨w.heap.size,0,none⟩) 22 22] 96));have b1:=abE hwg;have b2:=abE hwo;have n1:=anE hwg;have n2:=anE hwo;have hm:HM (fun k=>w.heap.size<=k) wo wg.heap.size ⟨cap,[],[],fun _=> []⟩:=by
  refine⟨.slice none 0 0, .slice none 0 0,w.heap.size,c22,n2,World.ownsRow_nil _ _ _ _,World.ownsRow_nil _ _ _ _,(b2.block _ (aan n1)).trans n1,by rw[<-h22];exact List.length_replicate,fun d hd=>⟨.slice none 0 0,?_,World.ownsRow_nil _ _ _ _⟩,b1.size,Nat.le_refl _,fun k e=>(by cases e),fun k e=>(by cases e),fun d v k hd hv e=> ?_,fun d hd=>(by cases hd)⟩
  · rw[<-h22,List.getElem?_replicate,if_pos hd]
  · rw[<-h22,List.getElem?_replicate,if_pos hd]at hv;injection hv with hv;subst hv
    cases e
 have HM0:=hE0 hm;have HB0:=hE0 (b1.trans (b2.mono b1.size));have HMS:∀W:World,(Instr.makeSlice 94 (.int .i64 22) (.int .i64 22)).run Tryz.prog W= .ok (.slice (some ⟨W.heap.size,0,none⟩) 22 22) (W.alloc (.cells c22.toArray 23)):=fun W=>by rw[<-h22];exact aon W
 have HWG:=hE0 hwg;have HWO:=hE0 hwo;have HGI:Hid (wg.heap.size=w.heap.size+1):=(show _=_ by rw[<-hwg];simp);clear h22 hwg hwo b1 b2 n1 n2 hm;go_enter Tryz.func10,Tryz.ntmps10
 go_wp2_with (first | (rw[HWG.out]) | (rw[HWO.out]) | fail)
 go_ret
 exact⟨wg.heap.size,by first | rfl | rw[HGI.out],HM0.out,HB0.out⟩
theorem amL{l:List Bk}{s:Nat}{LL:List Nat}{j y i:Nat}(hy:LL[j]?=some y) (ha:atB (y:Int) l=some i):ad7 l s (LL.drop j)=if s<=(aaL l i).size then some i else ad7 l s (LL.drop (j+1)):=by
 have hj:j<LL.length:=ada hy;have e:LL[j]=y:=by rw[List.getElem?_eq_getElem hj]at hy;injection hy
 rw[List.drop_eq_getElem_cons hj,e];rw[ad7,ha]
section
variable {F:Nat->Prop} {w w':World} {p gl:Nat} {H:Hp} {Vb Vd:Value} {cs:List Value}
theorem ajx (h:Hm F w p H Vb Vd gl cs) (hok:H.Ok) (N:Nat) (hf:H.Few N) (hN:N<=50000) (hL:H.Listed) (s:Nat) (hs:aa3 (s:Int)=true) (x:Option Nat) (hx:H.find s=x):
 Calls Tryz.prog 159 #[.pointer (some ⟨p,0,none⟩), .int .i64 (s:Int)] w fun e w'=>e= .returned (.int .i64 (ixV x))/\w=w':=by
 obtain⟨cl,hcl,hcl22⟩:∃c:Nat,aaw (s:Int)=(c:Int)/\c<22:=acb (x:=⟨0,s,false⟩) hs;have hss:=(aae _).1 hs;have hn512:=hok.n;have hx':H.findC s (22-cl) cl=x:=by rw[<-hx];unfold Hp.find;rw[hcl];rfl
 have HC:=hE0 (fun W=>ahf W (s:Int) (by omega) (cl:Int) hcl);have HX:=hE0 hx';have HH:=hE0 h;have HF:=hE0 hf;have HLI:=hE0 hL;have HOK:=hE0 hok;have c1:=h.c1;have c3:=h.c3;have HAT:Hid (∀(y:Nat) (i:Nat),y<=100000->atB (y:Int) H.blks=some i->Calls Tryz.prog 103 #[.pointer (some ⟨p,0,none⟩), .int .i64 (y:Int)] w fun e w'=>e= .returned (.int .i64 (ixV (some i)))/\w=w'):=fun y i hy ha=>aoz h (by omega) (y:Int) (by omega) _ ha;clear h hf hL hok hx hx' hcl hs;go_enter Tryz.func159,Tryz.ntmps159
 go_wp2_with fail
 refine(HC.out _).mono ?_;rintro e w1 ⟨rfl,rfl⟩;clear HC;go_wp2
 go_loopw [5] (fun t wr=>∃d k:Nat,t= .int .i64 (d:Int)/\d+k=22/\x=H.findC s k d/\w=wr) (fun t _=>22-(intOf t).toNat)
 case atStart=>exact⟨cl,22-cl,rfl,by omega,HX.out.symm,rfl⟩
 case round=>
  obtain⟨d,k,rfl,hdk,hxf,rfl⟩:=hrel;by_cases hd22:d<22
  · obtain⟨k,rfl⟩:∃k',k=k'+1:=⟨k-1,by omega⟩;obtain⟨A,cc,hcell,hlo⟩:=HH.out.lcell hd22;have hrw:=(aq8 hlo).1;have hfew:=HF.out d hd22;have hlst:=HLI.out d hd22;have hxf':x=(match ad7 H.blks s (H.lists d)with
     | some i=>some i
     | none=>H.findC s k (d+1)):=hxf
    obtain⟨LL,hLL⟩:=nmE (H.lists d);rw[hLL]at hcell hrw hfew hlst hxf';obtain⟨M,hM⟩:=nmE LL.length;rw[hM]at hcell hfew;have HM:=hE0 hM;have HXF:=hE0 hxf';have HRW:=hE0 hrw;have HLS:=hE0 hlst;have hdi:(d:Int)<22:=by omega
    clear hLL hM hxf hxf' hrw hlst hlo HX HF HLI;go_wp2
    go_loopw [6] (fun i wr=>∃j:Nat,j<=M/\i= .int .i64 (j:Int)/\ad7 H.blks s LL=ad7 H.blks s (LL.drop j)/\w=wr) (fun i _=>M-(intOf i).toNat)
    case atStart=>exact⟨0,Nat.zero_le _,rfl,rfl,rfl⟩
    case round=>
     obtain⟨j,hj,rfl,hall,rfl⟩:=hrel;by_cases hlt:j<M
     · obtain⟨y,hy⟩:∃y,LL[j]?=some y:=⟨LL[j]'(by rw[HM.out];exact hlt),List.getElem?_eq_getElem _⟩;obtain⟨i,hi⟩:=HLS.out y (List.mem_of_getElem? hy);obtain⟨bd,od,rfl,hbd,_,hcd⟩:=HRW.out (by rw[HM.out];omega);have hyc:=hcd j y hy;obtain⟨hib,hoff⟩:=ajd hi;have hst:=amL (s:=s) hy hi;have hsz:=(aae _).1 (HOK.out.sz hib);have hy5:y<=100000:=by
        have h1:=(aau _ _ _ (HOK.out.at_ hib).2.2).1;have h2:=HOK.out.le;omega
       have HA:=hE0 (HAT.out y i hy5 hi);have hji:(j:Int)<(M:Int):=by omega
       have hi512:i<512:=by omega
       have HST:Hid (ad7 H.blks s LL=if s<=(aaL H.blks i).size then some i else ad7 H.blks s (LL.drop (j+1))):=(show _=_ by rw[hall,hst]);obtain⟨b1,cb,rfl,_,hnb,_⟩:=agO HH.out.ob (by omega);have d1:=(HH.out.at_n rfl hib).2.1;obtain⟨n,hn⟩:=nmE H.blks.length;rw[hn]at c1 hib hnb;obtain⟨xs,hxs⟩:=nmE ((aaL H.blks i).size);rw[hxs]at d1 hsz HST;have hin:(i:Int)<(n:Int):=by omega
       clear hi hy hoff hst hn hxs hbd hcd HAT HLS HOK HRW HH hall;by_cases hge:s<=xs
       · have hx1:x=some i:=by rw[HXF.out,HST.out,if_pos hge]
         subst hx1;have hge2:(s:Int)<=(xs:Int):=by omega
         clear HXF HST;go_wp2_with fail
         refine HA.out.mono ?_;rintro e w2 ⟨rfl,rfl⟩;clear HA;dsimp only[ixV];go_wp2
         go_ret
         exact⟨rfl,rfl⟩
       · have hge2:(xs:Int)<(s:Int):=by omega
         have hst2:ad7 H.blks s LL=ad7 H.blks s (LL.drop (j+1)):=by rw[HST.out,if_neg hge]
         have HST2:=hE0 hst2;clear hst2 HST;go_wp2_with fail
         refine HA.out.mono ?_;rintro e w2 ⟨rfl,rfl⟩;clear HA;dsimp only[ixV];go_wp2
         go_roundw
         case rel=>exact⟨j+1,by omega,by go_num,HST2.out,trivial⟩
         case measure=>simp only[intOf];omega
     · obtain rfl:M=j:=by omega
       have hx2:x=H.findC s k (d+1):=by
        rw[HXF.out,hall,List.drop_of_length_le (by rw[HM.out];exact Nat.le_refl _)];rfl
       have HX2:=hE0 hx2;clear hx2 hall HXF HRW HLS;go_wp2
       go_roundw
       case rel=>exact⟨d+1,k,by go_num,by omega,HX2.out,trivial⟩
       case measure=>simp only[intOf];omega
  · obtain⟨rfl,rfl⟩:d=22/\k=0:=by omega
    obtain rfl:x=none:=by rw[hxf];rfl
    clear hxf HX HH HF HLI HAT HOK;go_wp2
    go_ret
    exact⟨rfl,rfl⟩
end
def asJ (x:Option Nat):Int:=if x.isSome then 0 else 5
theorem alF{H:Hp}{s:Nat}(h:H.find s=none):H.take s=if H.cap<acz H.blks+s-afs H.blks then (none,H)
 else if 0<afs H.blks then (some (aaL H.blks (H.blks.length-1)).off,((H.out (H.blks.length-1)).size (H.blks.length-1) s).use (H.blks.length-1) true)
 else (some (acz H.blks),H.put H.blks.length ⟨acz H.blks,s,true⟩):=by
 unfold Hp.take;rw[h]
theorem ajy{l:List Bk}(h:l.length=0):afs l=0:=by unfold afs;rw[if_pos h]
section
variable {F:Nat->Prop} {w w':World} {p gl:Nat} {H:Hp} {Vb Vd:Value} {cs:List Value}
theorem as4 (h:Hm F w p H Vb Vd gl cs) (hok:H.Ok) (N:Nat) (hf:H.Few N) (hN:N<=50000) (hL:H.Listed) (s:Nat) (hs:aa3 (s:Int)=true) (hcap:H.cap<=100000) (hx:H.find s=none) (hz:H.blks.length=0) (hr:H.cap<acz H.blks+s-afs H.blks):
 Calls Tryz.prog 102 #[.pointer (some ⟨p,0,none⟩), .int .i64 (s:Int)] w fun e w'=>e= .returned (.tuple #[.int .i64 (((H.take s).1.getD 0:Nat):Int), .int .i64 (asJ (H.take s).1)])/\HT F w p (H.take s).2 w':=by
 have htk:=alF hx;have hn512:=hok.n;have hle:=hok.le;have hss:=(aae _).1 hs;obtain⟨A1,c1,rfl⟩:=aa4 h.ob;have htf:afs H.blks=0:=ajy hz;rw[if_pos hr]at htk;rw[htf]at hr;obtain⟨wd,hwd⟩:=nmE w.drew;have hbd:=adE hwd;have hd:=h.below hbd;have HFI:=hE0 (ajx h hok N hf hN hL s hs _ hx);have HLEN:=hE0 (aiz hd (by omega) (by omega));have q1:=h.c1;have r0:=hd.c0;have hpd:=hd.lt;have HH:=hE0 h;have HD:=hE0 hd;have HBD:=hE0 hbd;have HWD:=hE0 hwd;have HTK:=hE0 htk;obtain⟨ll,hll⟩:=nmE (acz H.blks);rw[hll]at HLEN hr hle;obtain⟨cap,hcp⟩:=nmE H.cap;rw[hcp]at r0 hr hcap;obtain⟨n,hn⟩:=nmE H.blks.length;rw[hn]at q1 hz hn512;have hz2:(n:Int)-1= -1:=by omega
 have hz3:(n:Int)<=0:=by omega
 have hrm:(cap:Int)<(ll:Int)+(s:Int):=by omega
 have HZ:=hE0 hz;have HN:=hE0 hn;have HLL:=hE0 hll;clear h hd hbd hwd htk hx hok hL hs htf hr hcp hz hn hll hf;go_enter Tryz.func102,Tryz.ntmps102
 go_wp2_with fail
 refine HFI.out.mono ?_;rintro e w2 ⟨rfl,rfl⟩;clear HFI;dsimp only[ixV];go_wp2_with fail
 refine aad wd.heap.size [([0,2,4,6,7,8,9],1)] [3,5,10] [] (by kernel_rfl) (by kernel_rfl) (by kernel_rfl) (fun _ _ _ _ _ h=>h) ?_;rw[HWD.out];have t1:=tfE r0 hpd;refine tail_cons (l:= ?segTZN) ?hsegTZN ?_
 case hsegTZN=>simp only[pick,lE1,lE2,lE3];rfl
 repeat (go_big_quiet_step (fail))
 refine wpQuiet_nil ?_;clear t1;refine aaf (vs:= #[.pointer (some ⟨p,0,none⟩)]) Tryz.call69 rfl rfl rfl (R:=fun r w'=>r= .int .i64 (ll:Int)/\w'=wd) (HLEN.out.mono ?_) wd.heap.size (Nat.le_refl _) ?_
 · rintro e w' ⟨rfl,rfl⟩;exact⟨_,rfl,Below.refl _ _,rfl,rfl⟩
 rintro r w11 _ ⟨rfl,rfl⟩;refine aam (l:= ?laTZN) (t:= []) ?hlaTZN ?htlTZN ?_
 case hlaTZN=>simp only[pick,lE1,lE2,lE3];rfl
 case htlTZN=>rfl
 simp only[Act.put,lE4,lE5,lE6];repeat (go_big_quiet_step (fail))
 refine wpQuiet_nil ?_;go_wp2
 go_ret2
 exact⟨by rw[HTK.out];rfl,by rw[HTK.out];exact HT.of_below ⟨_,_,_,_,HH.out⟩ HBD.out⟩
theorem aqm (h:Hm F w p H Vb Vd gl cs) (hok:H.Ok) (N:Nat) (hf:H.Few N) (hN:N<=50000) (hL:H.Listed) (s:Nat) (hs:aa3 (s:Int)=true) (hcap:H.cap<=100000) (hx:H.find s=none) (hz:H.blks.length=0) (hr:¬H.cap<acz H.blks+s-afs H.blks):
 Calls Tryz.prog 102 #[.pointer (some ⟨p,0,none⟩), .int .i64 (s:Int)] w fun e w'=>e= .returned (.tuple #[.int .i64 (((H.take s).1.getD 0:Nat):Int), .int .i64 (asJ (H.take s).1)])/\HT F w p (H.take s).2 w':=by
 have htk:=alF hx;have hn512:=hok.n;have hle:=hok.le;have hss:=(aae _).1 hs;obtain⟨A1,c1,rfl⟩:=aa4 h.ob;have htf:afs H.blks=0:=ajy hz;rw[if_neg hr,htf,if_neg (by omega)]at htk;rw[htf]at hr;obtain⟨wd,hwd⟩:=nmE w.drew;have hbd:=adE hwd;have hd:=h.below hbd;have HFI:=hE0 (ajx h hok N hf hN hL s hs _ hx);have HLEN:=hE0 (aiz hd (by omega) (by omega));have q1:=h.c1;have r0:=hd.c0;have hpd:=hd.lt;have HH:=hE0 h;have HD:=hE0 hd;have HBD:=hE0 hbd;have HWD:=hE0 hwd;have HTK:=hE0 htk;have HPUT:=hE0 (aqk hd H.blks.length (Nat.le_refl _) (by omega) hok.dl ⟨acz H.blks,s,true⟩);obtain⟨ll,hll⟩:=nmE (acz H.blks);rw[hll]at HLEN hr hle HPUT;obtain⟨cap,hcp⟩:=nmE H.cap;rw[hcp]at r0 hr hcap;obtain⟨n,hn⟩:=nmE H.blks.length;rw[hn]at q1 hz hn512 HPUT;have hz2:(n:Int)-1= -1:=by omega
 have hz3:(n:Int)<=0:=by omega
 have hrm:(ll:Int)+(s:Int)<=(cap:Int):=by omega
 have HZ:=hE0 hz;have HN:=hE0 hn;have HLL:=hE0 hll;clear h hd hbd hwd htk hx hok hL hs htf hr hcp hz hn hll hf;go_enter Tryz.func102,Tryz.ntmps102
 go_wp2_with fail
 refine HFI.out.mono ?_;rintro e w2 ⟨rfl,rfl⟩;clear HFI;dsimp only[ixV];go_wp2_with fail
 refine aad wd.heap.size [([0,2,4,6,7,8,9],1)] [3,5,10] [] (by kernel_rfl) (by kernel_rfl) (by kernel_rfl) (fun _ _ _ _ _ h=>h) ?_;rw[HWD.out];have t1:=tfE r0 hpd;refine tail_cons (l:= ?segTZR) ?hsegTZR ?_
 case hsegTZR=>simp only[pick,lE1,lE2,lE3];rfl
 repeat (go_big_quiet_step (fail))
 refine wpQuiet_nil ?_;clear t1;refine aaf (vs:= #[.pointer (some ⟨p,0,none⟩)]) Tryz.call69 rfl rfl rfl (R:=fun r w'=>r= .int .i64 (ll:Int)/\w'=wd) (HLEN.out.mono ?_) wd.heap.size (Nat.le_refl _) ?_
 · rintro e w' ⟨rfl,rfl⟩;exact⟨_,rfl,Below.refl _ _,rfl,rfl⟩
 rintro r w11 _ ⟨rfl,rfl⟩;refine aam (l:= ?laTZR) (t:= []) ?hlaTZR ?htlTZR ?_
 case hlaTZR=>simp only[pick,lE1,lE2,lE3];rfl
 case htlTZR=>rfl
 simp only[Act.put,lE4,lE5,lE6];repeat (go_big_quiet_step (fail))
 refine wpQuiet_nil ?_;go_wp2_with fail
 refine HLEN.out.mono ?_;rintro e w12 ⟨rfl,rfl⟩;have q2:=HD.out.c1;rw[HN.out]at q2;go_wp2_with fail
 refine HPUT.out.mono ?_;rintro e w13 ⟨rfl,ht⟩;have hto:HT F w p (H.take s).2 w13:=by
  rw[HTK.out];dsimp only;rw[HN.out,HLL.out];exact HT.after HBD.out ht
 have HTO:=hE0 hto;clear hto ht HPUT HLEN q2;go_wp2
 go_ret2
 exact⟨by rw[HTK.out,HLL.out];rfl,HTO.out⟩
end
theorem agR:∀{l:List Nat},(∀a∈l,l.count a=1)->l.Nodup
 | [],_=>List.nodup_nil
 | x::r,h=>by
  have h1:=h x (by simp);rw[List.count_cons_self]at h1;have hx:x∉r:=List.count_eq_zero.1 (by omega);refine List.nodup_cons.2 ⟨hx,agR fun a ha=> ?_⟩;have h2:=h a (by simp[ha]);have hne:x≠a:=fun e=>hx (e▸ha);rw[List.count_cons_of_ne hne]at h2;exact h2
section
variable {bs:List UInt8} {H:Hp}
theorem Rt.nfree (h:Rt bs H):(∀c,c<22->(H.lists c).Nodup/\∀o∈H.lists c,o∈abL H.blks c)/\aeX H.blks=true/\aiN bs H.blks 22 0 (abq H.blks)=true:=by
 have hk:=h.chk;unfold aci at hk;rw[h.walk]at hk;simp only[Bool.and_eq_true]at hk;refine⟨fun c hc=> ?_,hk.2.1,hk.2.2⟩;obtain⟨al,h1,h2⟩:=aeY 22 0 _ hk.2.2 c (Nat.zero_le _) (by omega);rw[h.all_ c hc]at h1;injection h1 with h1;subst h1;have h2':=List.all_eq_true.1 h2;refine⟨agR fun a ha=> ?_,fun o ho=> ?_⟩
 · have:=h2' a ha;unfold okO at this;rw[Bool.and_eq_true]at this;simpa using this.2
 · have h3:=h2' o ho;unfold okO at h3;rw[Bool.and_eq_true]at h3;have h4:=h3.1;unfold acX at h4;obtain⟨x,hx,hx2⟩:=List.any_eq_true.1 h4;simp only[Bool.and_eq_true,beq_iff_eq]at hx2;have hm:=acY (h.all_ c hc) o ho;have hg:=(aaC h.walk).2.2 x hx;unfold aaz at hm;rw[<-hx2.1,hg]at hm;simp only[Bool.and_eq_true,beq_iff_eq]at hm;rw[<-hx2.1];exact anv hx (by simpa using hx2.2) hm.2.2
theorem aqn{l:List Bk}{o e:Nat}(h:ach o l e){x y:Bk}(hx:x∈l) (hy:y∈l) (he:x.off=y.off):x=y:=by
 have h1:=(aae _).1 ((aau _ _ _ h).2 x hx).2.2.1;have h2:=(aae _).1 ((aau _ _ _ h).2 y hy).2.2.1;rcases abz l o e h x hx y hy with h' | h' | h'
 · exact h'
 · omega
 · omega
theorem asK{l:List Bk}{o e:Nat}(h:ach o l e){x:Bk}(hx:x∈l):∃i,atB (x.off:Int) l=some i/\i<l.length/\aaL l i=x:=by
 obtain⟨i,hi⟩:=anC hx;obtain⟨h1,h2⟩:=ajd hi;refine⟨i,hi,h1,aqn h (List.mem_of_getElem? (acc h1)) hx (by omega)⟩
end
theorem ar1{H:Hp}{s:Nat}:∀{i:Nat},H.find s=some i->i<H.blks.length:=by
 have one:∀(LL:List Nat) (i:Nat),ad7 H.blks s LL=some i->i<H.blks.length:=by
  intro LL;induction LL with
  | nil=>intro i h;cases h
  | cons o r ih=>
   intro i h;unfold ad7 at h;split at h
   · cases h
   · rename_i j hj;split at h
     · injection h with h;subst h;exact(ajd hj).1
     · exact ih i h
 have go:∀(k c i:Nat),H.findC s k c=some i->i<H.blks.length:=by
  intro k;induction k with
  | zero=>intro c i h;cases h
  | succ k ih=>
   intro c i h;unfold Hp.findC at h;split at h
   · rename_i j hj;injection h with h;subst h;exact one _ _ hj
   · exact ih _ _ h
 intro i h;exact go _ _ _ h
section
variable {H:Hp} {i s N:Nat}
theorem Hp.Ok.giveB (h:H.Ok):(H.giveB i).Ok:=by
 unfold Hp.giveB;split
 · rename_i hn;have hlt:i+1<H.blks.length:=by
    unfold anw at hn;rw[Bool.and_eq_true,decide_eq_true_eq]at hn;exact hn.1
   exact Hp.Ok.join (Hp.Ok.out h) hlt
 · exact h
theorem Hp.Ok.giveC (h:H.Ok) (hi:i<H.blks.length):(H.giveC i).Ok:=by
 unfold Hp.giveC;split
 · rename_i hn;have hlt:i-1+1<H.blks.length:=by
    unfold ast at hn;rw[Bool.and_eq_true,decide_eq_true_eq]at hn;have:=hn.1;omega
   exact Hp.Ok.in_ (Hp.Ok.join (Hp.Ok.out h) hlt)
 · exact Hp.Ok.in_ h
theorem aqo (hi:i<H.blks.length):i<(H.giveB i).blks.length:=by
 unfold Hp.giveB;split
 · rename_i hn;have hlt:i+1<H.blks.length:=by
    unfold anw at hn;rw[Bool.and_eq_true,decide_eq_true_eq]at hn;exact hn.1
   exact(arx (H.out (i+1)) (i:=i) hlt).1
 · exact hi
theorem Hp.Ok.give (h:H.Ok) (hi:i<H.blks.length):(H.give i).Ok:=by
 have h1:((H.use i false).wipe i).Ok:=(h.use hi false).wipe;have l1:i<((H.use i false).wipe i).blks.length:=by
  show i<(H.blks.set i _).length;rw[List.length_set];exact hi
 exact(h1.giveB).giveC (aqo l1)
theorem Hp.Ok.cutA (h:H.Ok) (hi:i<H.blks.length) (hs:aa3 (s:Int)=true):(H.cut i s).Ok:=by
 unfold Hp.cut;split
 · exact h.use hi true
 · rename_i hge;exact(h.cut hi hs (by omega)).give (by rw[ary H hi];omega)
theorem Hp.Ok.last (h:H.Ok){k:Nat}(hk:H.blks.length=k+1) (u:Bool) (hs:aa3 (s:Int)=true) (hle:(aaL H.blks k).off+s<=16384):(((H.size k s).use k u)).Ok/\(H.size k s).Ok:=by
 obtain⟨a,b,c⟩:=h.at_ (i:=k) (by omega);have hd:H.blks.drop (k+1)= []:=List.drop_of_length_le (by omega);have go:∀y:Bk,y.off=(aaL H.blks k).off->y.size=s->ach 184 (H.blks.set k y) ((aaL H.blks k).off+s):=fun y ho hsz=>by
  rw[anz y (acc (i:=k) (by omega)),hd];exact ah9 (by rw[ho];exact a) (by rw[hsz];exact hs) (by rw[ho,hsz];rfl)
 have e1:((H.size k s).use k u).blks=H.blks.set k {aaL H.blks k with size:=s,used:=u}:=by
  show(H.blks.set k _).set k _=_;rw[List.set_set];congr 1;show {aaL (H.blks.set k {aaL H.blks k with size:=s}) k with used:=u}=_;rw[alf _ _ _ _ (by omega),if_pos rfl]
 have t1:=go {aaL H.blks k with size:=s,used:=u} rfl rfl;have t2:=go {aaL H.blks k with size:=s} rfl rfl;refine⟨⟨?_,?_,?_⟩,?_,?_,?_⟩
 · rw[e1,abX t1];exact t1
 · rw[e1,abX t1];exact hle
 · show H.ds.length=((H.size k s).use k u).blks.length;rw[e1,List.length_set];exact h.dl
 · show ach 184 (H.blks.set k _) (acz (H.blks.set k _));rw[abX t2];exact t2
 · show acz (H.blks.set k _)<=_;rw[abX t2];exact hle
 · show H.ds.length=(H.blks.set k _).length;rw[List.length_set];exact h.dl
theorem aqp (h:H.Ok){k:Nat}(hk:H.blks.length=k+1):(aaL H.blks k).off+(aaL H.blks k).size=acz H.blks:=by
 have h4:=(h.at_ (i:=k) (by omega)).2.2;rw[List.drop_of_length_le (by omega)]at h4;exact h4
theorem Hp.Ok.take (h:H.Ok) (hc:H.cap<=16384) (hs:aa3 (s:Int)=true):(H.take s).2.Ok:=by
 unfold Hp.take;split
 · rename_i i hf;exact Hp.Ok.cutA (Hp.Ok.out h) (ar1 (H:=H) hf) hs
 · split
   · exact h
   · rename_i hr;split
     · rename_i htl;obtain⟨k,hk⟩:∃k,H.blks.length=0\/H.blks.length=k+1:=⟨H.blks.length-1,by omega⟩;rcases hk with hk | hk
       · unfold afs at htl;rw[if_pos hk]at htl;omega
       · have he:=aqp h hk;have htf:afs H.blks=(aaL H.blks k).size:=by
          unfold afs at htl ⊢;rw[if_neg (by omega),show H.blks.length-1=k by omega]at htl ⊢;split at htl
          · omega
          · rename_i hu;rw[if_neg hu]
         rw[show H.blks.length-1=k by omega];exact(Hp.Ok.last (Hp.Ok.out (i:=k) h) hk true hs (by show(aaL H.blks k).off+s<=_;omega)).1
     · rename_i htl;have ht:ach 184 (H.blks++ [⟨acz H.blks,s,true⟩]) (acz H.blks+s):=ai6 _ _ _ _ h.tl rfl hs;have e:(H.put H.blks.length ⟨acz H.blks,s,true⟩).blks=H.blks++ [⟨acz H.blks,s,true⟩]:=by
        show H.blks.take _++_::H.blks.drop _=_;rw[List.take_length,List.drop_length]
       refine⟨?_,?_,?_⟩
       · rw[e,abX ht];exact ht
       · rw[e,abX ht];omega
       · rw[e];show(H.ds.take _++acB::H.ds.drop _).length=_;have:=h.dl;simp only[List.length_append,List.length_take,List.length_drop,List.length_cons,List.length_nil];omega
end
def Hp.swallow (H:Hp) (i:Nat):Hp:=if anw H.blks i=true then (H.out (i+1)).drop (i+1) else H
def aqq (l:List Bk) (i:Nat):Nat:=(aaL l i).size+(if anw l i=true then (aaL l (i+1)).size else 0)
def Hp.widen (H:Hp) (i:Nat):Hp:=(H.swallow i).size i (aqq H.blks i)
def Hp.copyD (H:Hp) (p o:Nat):Hp:={H with ds:=H.ds.set p (H.ds.getD o acB)}
def Hp.moveD (H:Hp) (p o:Int):Hp:=match atB p H.blks,atB o H.blks with
 | some ip,some io=>H.copyD ip io
 | _,_=>H
def asL (H:Hp) (i s:Nat):Bool:=decide ((aaL H.blks i).off+aqq H.blks i=acz H.blks)&&decide (acz H.blks+s-aqq H.blks i<=H.cap)
def Hp.resize (H:Hp) (o:Int) (s:Nat):(Nat × Int) × Hp:=match aeA H.blks o with
 | none=>((0,3),H)
 | some i=>if s<=(aaL H.blks i).size then (((aaL H.blks i).off,0),H.cut i s)
  else if s<=aqq H.blks i then (((aaL H.blks i).off,0),(H.widen i).cut i s)
  else if asL H i s=true then (((aaL H.blks i).off,0),(H.widen i).size i s)
  else match (H.take s).1 with
   | none=>((0,5),H)
   | some p=>((p,0),(((H.take s).2.moveD (p:Int) o).giveO o).getD ((H.take s).2.moveD (p:Int) o))
section
variable {H:Hp} {i s N:Nat}
end
def aoB (bs bs':List UInt8) (x:Bk):Prop:=bs'.length=bs.length/\∀q,(q<x.off+8\/x.off+x.size<=q+8)->bs'[q]?=bs[q]?
theorem ahJ{bs bs':List UInt8}{c:Nat}:∀(k last p:Nat) (l:List Nat),aeN bs c k last p=some l->(∀o∈l,aaz bs' o (c:Int)=true/\aai bs' (o+16)=aai bs (o+16)/\aai bs' (o+8)=aai bs (o+8))->aeN bs' c k last p=some l
 | 0,last,p,l,h,_=>by
  unfold aeN at h ⊢;split at h
  · rename_i hp;rw[if_pos hp];exact h
  · cases h
 | k+1,last,p,l,h,hm=>by
  unfold aeN at h ⊢;by_cases hp:p=0
  · rw[if_pos hp]at h ⊢;exact h
  · rw[if_neg hp]at h ⊢;dsimp only at h ⊢;by_cases hc:aaz bs p (c:Int)=true/\aai bs (p+16)=last
    · rw[if_pos hc]at h
      cases hr:aeN bs c k p (aai bs (p+8))with
      | none=>rw[hr]at h;cases h
      | some l'=>
       rw[hr]at h;injection h with h;subst h;obtain⟨m1,m2,m3⟩:=hm p (by simp);rw[if_pos ⟨m1,m2.trans hc.2⟩,m3,ahJ k p _ l' hr (fun o ho=>hm o (by simp[ho]))];rfl
    · rw[if_neg hc]at h;cases h
theorem ahK{bs bs':List UInt8}{l:List Bk}(h:∀c,c<22->afL bs' c=afL bs c):∀(k c:Nat) (fr:Int),c+k=22->aiN bs' l k c fr=aiN bs l k c fr
 | 0,c,fr,_=>rfl
 | k+1,c,fr,hck=>by
  unfold aiN;rw[h c (by omega)];split
  · rfl
  · rw[ahK h k (c+1) _ (by omega)]
section
variable {bs bs':List UInt8} {H:Hp} {x:Bk}
theorem Rt.fill (h:Rt bs H) (hx:x∈H.blks) (hu:x.used=true) (ha:aoB bs bs' x):Rt bs' H:=by
 obtain⟨h184,ht,hg⟩:=aaC h.walk;obtain⟨hl,hq⟩:=ha;have hxm:=(aau _ _ _ ht).2 x hx;have hxs:=(aae _).1 hxm.2.2.1;have hw:∀p,(p+8<=x.off+8\/x.off+x.size<=p+8)->aai bs' p=aai bs p:=fun p hp=>aaZ bs bs' p fun i h1 h2=>hq i (by omega);have hget:∀y∈H.blks,abV bs' (y.off:Int)=some y:=fun y hy=>by
  have hym:=(aae _).1 ((aau _ _ _ ht).2 y hy).2.2.1;refine ab6 bs bs' y hl (hg y hy) ?_ ?_
  · rcases abz _ _ _ ht y hy x hx with rfl | h' | h'
    · exact hw _ (.inl (by omega))
    · exact hw _ (.inl (by omega))
    · exact hw _ (.inr (by omega))
  · rcases abz _ _ _ ht y hy x hx with rfl | h' | h'
    · exact hw _ (.inr (by omega))
    · exact hw _ (.inl (by omega))
    · exact hw _ (.inr (by omega))
 have hwalk:abJ bs'=some H.blks:=adn (by rw[hl];exact ht) hget;have hall:∀c,c<22->afL bs' c=some (H.lists c):=fun c hc=>by
  have h1:=h.all_ c hc;unfold afL at h1 ⊢;rw[hl,hw 0 (.inl (by omega)),hw (8+8*c) (.inl (by omega))];split at h1
  · cases h1
  · rename_i hn;rw[if_neg hn];split at h1
    · cases h1
    · rename_i hb;rw[if_neg hb];refine ahJ _ _ _ _ h1 fun o ho=> ?_;obtain⟨y,hy,hyo,hyu,hyc⟩:=ad3 ((h.nfree.1 c hc).2 o ho);have hym:=(aae _).1 ((aau _ _ _ ht).2 y hy).2.2.1;have hye:=((aau _ _ _ ht).2 y hy).2.1;have hmm:=aeF (acY (h.all_ c hc) o ho);subst hyo;have hap:y.off+y.size<=x.off\/x.off+x.size<=y.off:=by
       rcases abz _ _ _ ht y hy x hx with h' | h' | h'
       · rw[h',hu]at hyu;cases hyu
       · exact .inl h'
       · exact .inr h'
      refine⟨?_,?_,?_⟩
      · unfold aaz;rw[hget y hy];simp only[Bool.and_eq_true,decide_eq_true_eq,beq_iff_eq,Bool.not_eq_true'];exact⟨hmm.1,hyu,hyc⟩
      · rcases hap with h' | h'
        · exact hw _ (.inl (by omega))
        · exact hw _ (.inr (by omega))
      · rcases hap with h' | h'
        · exact hw _ (.inl (by omega))
        · exact hw _ (.inr (by omega))
 refine⟨hwalk,hall,?_,by rw[hl];exact h.len⟩;have hk:=h.chk;unfold aci at hk ⊢;rw[h.walk]at hk;rw[hwalk];dsimp only at hk ⊢;have hn0:apa bs' 0=apa bs 0:=by
  unfold apa word?;rw[hl];split
  · show(some (aai bs' 0)).getD 0=(some (aai bs 0)).getD 0;rw[hw 0 (.inl (by omega))]
  · rfl
 rw[hn0,ahK (fun c hc=>(hall c hc).trans (h.all_ c hc).symm) 22 0 _ rfl];exact hk
theorem ajz (d:Nat) (cs:List UInt8) (h1:x.off+8<=d) (h2:d+cs.length+8<=x.off+x.size) (h3:x.off+x.size<=bs.length):aoB bs (lay bs d cs) x:=by
 have hle:d<=bs.length:=by omega
 refine⟨?_,fun q hq=> ?_⟩
 · unfold lay;simp only[List.length_append,List.length_take,List.length_drop];omega
 · unfold lay;rcases Nat.lt_or_ge q d with h | h
   · rw[List.getElem?_append_left (by rw[List.length_take];omega),List.getElem?_take_of_lt h]
   · have hq2:d+cs.length<=q:=by omega
     rw[List.getElem?_append_right (by rw[List.length_take];omega),List.length_take,List.getElem?_append_right (by omega),List.getElem?_drop];congr 1;omega
theorem ara (bs:List UInt8) (d:Nat) (cs:List UInt8) (hd:d<=bs.length) (k:Nat) (hk:k<cs.length):(lay bs d cs)[d+k]?=cs[k]?:=by
 unfold lay;rw[List.getElem?_append_right (by rw[List.length_take];omega),List.length_take,List.getElem?_append_left (by omega),show d+k-min d bs.length=k by omega]
end
def Sep (ds:List Dt):Prop:=ds.Pairwise fun a b=>∀k,a.1.ownBlock=some k->b.1.ownBlock≠some k
def DsS (ds ds':List Dt):Prop:=(∀d∈ds',d∈ds\/d=acB)/\(Sep ds->Sep ds')
theorem DsS.refl (ds:List Dt):DsS ds ds:=⟨fun _ h=> .inl h,id⟩
theorem DsS.trans{a b c:List Dt}(h:DsS a b) (k:DsS b c):DsS a c:=⟨fun d hd=>(k.1 d hd).elim (h.1 d) .inr,fun hs=>k.2 (h.2 hs)⟩
theorem DsS.sub{a b:List Dt}(h:List.Sublist b a):DsS a b:=⟨fun _ hd=> .inl (h.subset hd),fun hs=>List.Pairwise.sublist h hs⟩
theorem af7:(acB.1).ownBlock=none:=rfl
theorem DsS.setNil (ds:List Dt) (i:Nat):DsS ds (ds.set i acB):=by
 refine⟨fun d hd=> ?_,fun hs=> ?_⟩
 · exact List.mem_or_eq_of_mem_set hd
 · unfold Sep at hs ⊢;rw[List.pairwise_iff_getElem]at hs ⊢;intro m n hm hn hmn k;rw[List.length_set]at hm hn;rw[List.getElem_set,List.getElem_set];by_cases e1:i=m
   · rw[if_pos e1];intro hk;rw[af7]at hk;cases hk
   · rw[if_neg e1];by_cases e2:i=n
     · rw[if_pos e2];intro _ hk;rw[af7]at hk;cases hk
     · rw[if_neg e2];exact hs m n hm hn hmn k
theorem DsS.insNil (ds:List Dt) (i:Nat):DsS ds (ds.take i++acB::ds.drop i):=by
 refine⟨fun d hd=> ?_,fun hs=> ?_⟩
 · rcases List.mem_append.1 hd with h | h
   · exact .inl (List.mem_of_mem_take h)
   · rcases List.mem_cons.1 h with h | h
     · exact .inr h
     · exact .inl (List.mem_of_mem_drop h)
 · unfold Sep at hs ⊢;rw[<-List.take_append_drop i ds,List.pairwise_append]at hs;obtain⟨h1,h2,h3⟩:=hs;rw[List.pairwise_append];refine⟨h1,List.pairwise_cons.2 ⟨fun b _ k hk=>(by rw[af7]at hk;cases hk),h2⟩,fun a ha b hb k hk=> ?_⟩;rcases List.mem_cons.1 hb with rfl | hb
   · rw[af7];exact fun h=>by cases h
   · exact h3 a ha b hb k hk
theorem DsS.dropAt (ds:List Dt) (i:Nat):DsS ds (ds.take i++ds.drop (i+1)):=by
 refine DsS.sub ?_;have h:List.Sublist (ds.drop (i+1)) (ds.drop i):=by
  rw[<-List.drop_drop];exact List.drop_sublist 1 _
 have h2:=(List.Sublist.refl (ds.take i)).append h;rw[List.take_append_drop]at h2;exact h2
section
variable {H:Hp} {i s:Nat}
theorem aqr:DsS H.ds (H.giveB i).ds:=by
 unfold Hp.giveB;split
 · exact DsS.dropAt H.ds (i+1)
 · exact DsS.refl _
theorem aqs:DsS H.ds (H.giveC i).ds:=by
 unfold Hp.giveC;split
 · exact DsS.dropAt H.ds (i-1+1)
 · exact DsS.refl _
theorem ar2:DsS H.ds (H.give i).ds:=by
 unfold Hp.give;exact((DsS.setNil H.ds i).trans (aqr (H:=(H.use i false).wipe i))).trans aqs
theorem asM:DsS H.ds (H.cut i s).ds:=by
 unfold Hp.cut;split
 · exact DsS.refl _
 · exact(DsS.insNil H.ds (i+1)).trans (ar2 (H:=((H.use i true).size i s).put (i+1) _))
theorem ar3:DsS H.ds (H.take s).2.ds:=by
 unfold Hp.take;split
 · exact asM (H:=H.out _)
 · split
   · exact DsS.refl _
   · split
     · exact DsS.refl _
     · exact DsS.insNil H.ds H.blks.length
end
def amM (d:Dt):Dt:=(.slice none 0 0,d.2)
def Hp.str (H:Hp):Hp:={H with ds:=H.ds.map amM}
section
variable {H:Hp} {i s:Nat}
end
def Hp.handleB (H:Hp) (q:Nat):Option Nat:=if q<8\/20000<q then none else aeA H.blks ((q:Int)-8)
def afc (H:Hp):Nat->Hp
 | 0=>{H with lists:=fun _=> []}
 | j+1=>if (aaL H.blks j).used=true then afc H j else (afc H j).in_ j
def Hp.rebuild (H:Hp):Hp:=afc H H.blks.length
theorem ael (H:Hp):∀j,(afc H j).blks=H.blks/\(afc H j).ds=H.ds/\(afc H j).cap=H.cap
 | 0=>⟨rfl,rfl,rfl⟩
 | j+1=>by
  unfold afc;split
  · exact ael H j
  · exact ael H j
theorem aiC (H:Hp):∀j,(afc H j).Few j
 | 0=>fun d _=>Nat.le_refl _
 | j+1=>by
  unfold afc;split
  · exact(aiC H j).more (Nat.le_succ _)
  · exact(aiC H j).in_
def agS (d:List UInt8) (n:Nat) (x:UInt8):List UInt8:=d.take n++List.replicate (n-d.length) x
theorem aoC (d:List UInt8) (n:Nat) (x:UInt8):(agS d n x).length=n:=by
 unfold agS;rw[List.length_append,List.length_take,List.length_replicate];omega
theorem aqt (d:List UInt8) (n:Nat) (x:UInt8) (k:Nat) (hk:k<n):(agS d n x)[k]?=some (d.getD k x):=by
 unfold agS;rcases Nat.lt_or_ge k d.length with h | h
 · rw[List.getElem?_append_left (by rw[List.length_take];omega),List.getElem?_take_of_lt hk,List.getD_eq_getElem?_getD,List.getElem?_eq_getElem h];rfl
 · rw[List.getElem?_append_right (by rw[List.length_take];omega),List.getElem?_replicate,if_pos (by rw[List.length_take];omega),List.getD_eq_getElem?_getD,List.getElem?_eq_none h];rfl
def Hp.dset (H:Hp) (i:Nat) (d:Dt):Hp:={H with ds:=H.ds.set i d}
def Hp.fill (H:Hp) (i:Nat) (x:UInt8):Hp:=H.dset i (.slice none 0 0,agS (H.ds.getD i acB).2 ((aaL H.blks i).size-16) x)
theorem aqu{H:Hp}{i:Nat}{V:Value}{l:List UInt8}:(H.dset i (V,l)).str=H.str.dset i (.slice none 0 0,l):=by
 show({H with ds:=(H.ds.set i (V,l)).map amM}:Hp)={H with ds:=(H.ds.map amM).set i (.slice none 0 0,l)};rw[List.map_set];rfl
theorem alG{H:Hp}{i:Nat}{x:UInt8}{V:Value}:(H.dset i (V,agS (H.ds.getD i acB).2 ((aaL H.blks i).size-16) x)).str=H.str.fill i x:=by
 rw[aqu];unfold Hp.fill;have e:(H.str.ds.getD i acB).2=(H.ds.getD i acB).2:=by
  show((H.ds.map amM).getD i acB).2=_;rw[List.getD_eq_getElem?_getD,List.getD_eq_getElem?_getD,List.getElem?_map]
  cases H.ds[i]?<;>rfl
 rw[e];rfl
theorem aqv{H:Hp}{i:Nat}{x:UInt8}:(H.fill i x).str=H.str.fill i x:=alG
theorem agT{n s:Nat}(h:ab1 n=some s):aa3 (s:Int)=true:=by
 unfold ab1 at h;split at h
 · injection h with h;exact(aae _).2 (by omega)
 · cases h
def Hp.get (H:Hp) (n:Nat) (x:UInt8):(Nat × Int) × Hp:=match ab1 n with
 | none=>((0,5),H)
 | some s=>match (H.take s).1 with
  | none=>((0,5),H)
  | some o=>((o+8,0),match atB (o:Int) (H.take s).2.blks with
   | none=>(H.take s).2
   | some i=>((H.take s).2.wipe i).fill i x)
def Hp.calloc (H:Hp) (n m:Nat):(Nat × Int) × Hp:=if 18446744073709551615<n*m then ((0,5),H) else H.get (n*m) 0
def Hp.realloc (H:Hp) (q n:Nat):(Nat × Int) × Hp:=match H.handleB q with
 | none=>((0,4),H)
 | some _=>match ab1 n with
  | none=>((0,5),H)
  | some s=>if (H.resize ((q:Int)-8) s).1.2=0 then (((H.resize ((q:Int)-8) s).1.1+8,0),match atB ((H.resize ((q:Int)-8) s).1.1:Int) (H.resize ((q:Int)-8) s).2.blks with
   | none=>(H.resize ((q:Int)-8) s).2
   | some i=>(H.resize ((q:Int)-8) s).2.fill i 165)
   else ((0,(H.resize ((q:Int)-8) s).1.2),(H.resize ((q:Int)-8) s).2)
theorem akI{H:Hp}{q i:Nat}(h:H.handleB q=some i):8<=q/\q<=20000/\aeA H.blks ((q:Int)-8)=some i:=by
 unfold Hp.handleB at h;split at h
 · cases h
 · exact⟨by omega,by omega,h⟩
def Hp.At (H:Hp) (j:Nat) (x:Bk) (d:Dt):Prop:=H.blks[j]?=some x/\H.ds[j]?=some d
section
variable {H:Hp} {i j k s:Nat} {x:Bk} {d:Dt}
end
def Hp.One (H:Hp):Prop:=∀(a b:Nat) (x y:Bk),H.blks[a]?=some x->H.blks[b]?=some y->x.off=y.off->a=b
theorem Rt.one{bs:List UInt8}{H:Hp}(h:Rt bs H):H.One:=fun a b x y ha hb e=>by
 have hpw:=List.pairwise_iff_getElem.1 (ah5 _ _ _ (aaC h.walk).2.1);have e1:H.blks[a]'(ada ha)=x:=by have:=List.getElem?_eq_getElem (ada ha);rw[ha]at this;exact(Option.some.inj this).symm
 have e2:H.blks[b]'(ada hb)=y:=by have:=List.getElem?_eq_getElem (ada hb);rw[hb]at this;exact(Option.some.inj this).symm
 rcases Nat.lt_trichotomy a b with h' | h' | h'
 · exact absurd (by rw[e1,e2];exact e) (hpw a b (ada ha) (ada hb) h')
 · exact h'
 · exact absurd (by rw[e1,e2];exact e.symm) (hpw b a (ada hb) (ada ha) h')
section
variable {H:Hp} {i j k s:Nat} {x:Bk} {d:Dt}
end
def atp (bs:List UInt8) (H:Hp):Prop:=∀j x d,H.At j x d->x.used=true->d.2.length+16=x.size/\∀k,k<d.2.length->bs[x.off+8+k]?=d.2[k]?
structure RtD (bs:List UInt8) (H:Hp):Prop where
 rt:Rt bs H
 dl:H.Dl
 ho:atp bs H
section
variable {bs out:List UInt8} {H H':Hp} {s:Nat}
theorem Rt.apart (h:Rt bs H){x y:Bk}(hx:x∈H.blks) (hy:y∈H.blks) (hne:x.off≠y.off):x.off+x.size<=y.off\/y.off+y.size<=x.off:=by
 rcases abz _ _ _ (aaC h.walk).2.1 x hx y hy with e | e | e
 · exact absurd (by rw[e]) hne
 · exact .inl e
 · exact .inr e
theorem RtD.fills (h':Rt out H') (hd:H'.Dl){i:Nat}{y:Bk}(hy:H'.blks[i]?=some y) (hyu:y.used=true) (V:Value){L:List UInt8}(hL:L.length+16=y.size){b2:List UInt8}(hag:aoB out b2 y) (hb2:∀k,k<L.length->b2[y.off+8+k]?=L[k]?)
 (hoth:∀j x d,H'.At j x d->x.used=true->j≠i->d.2.length+16=x.size/\∀k,k<d.2.length->out[x.off+8+k]?=d.2[k]?):RtD b2 (H'.dset i (V,L)):=by
 have hym:=List.mem_of_getElem? hy;have hf:=h'.fill hym hyu hag;refine⟨⟨hf.walk,hf.all_,hf.chk,hf.len⟩,by show(H'.ds.set i _).length=_;rw[List.length_set];exact hd,fun j x d ha hu=> ?_⟩;obtain⟨a,b⟩:=ha;have a':H'.blks[j]?=some x:=a;have b:(H'.ds.set i (V,L))[j]?=some d:=b;by_cases e:j=i
 · subst e;obtain rfl:y=x:=Option.some.inj (hy.symm.trans a');have hl:j<H'.ds.length:=by have:=ada b;rwa [List.length_set]at this
   rw[List.getElem?_set_self hl]at b;injection b with b;subst b;exact⟨hL,hb2⟩
 · rw[List.getElem?_set_ne (fun e'=>e e'.symm)]at b;obtain⟨c1,c2⟩:=hoth j x d ⟨a',b⟩ hu e;refine⟨c1,fun k hk=> ?_⟩;rw[<-c2 k hk];have hxm:=List.mem_of_getElem? a';have hap:=h'.apart hxm hym (fun e'=>e (h'.one _ _ _ _ a' hy e'));exact hag.2 _ (by omega)
end
def aaX (cap:Nat):Hp:=⟨cap,[],[],fun _=> []⟩
theorem aoD{z:List UInt8}(hz:List.replicate 184 (0:UInt8)=z) (cap:Nat) (hc:184<=cap):Rt z ⟨cap,[],[],fun _=> []⟩:=by
 have hl:z.length=184:=by rw[<-hz];exact List.length_replicate
 have hw0:∀p,p+8<=184->p%8=0->aai z p=0:=fun p hp _=>by
  have:=acm [] 184 p hp;rw[List.append_nil,hz]at this;exact this
 have hwk:abJ z=some []:=adn (by rw[hl];rfl) (fun x hx=>by cases hx);have hli:Lists z [] (fun _=> []):=aes (by omega) (by omega) ⟨fun x hx=>(by cases hx),fun x hx=>(by cases hx)⟩ hw0;refine⟨hwk,fun c hc=>hli.all hc (Nat.zero_le _),?_,by show z.length<=cap;omega⟩;have e:abL []=fun _=> []:=rfl;rw[ad6 hwk (by rw[e];exact hli) (by rw[hw0 0 (by omega) rfl];omega)];rfl
theorem aqw{z:List UInt8}(hz:List.replicate 184 (0:UInt8)=z) (cap:Nat) (hc:184<=cap):RtD z (aaX cap):=
 ⟨aoD hz cap hc,rfl,fun j x d ha=>by have h:=ha.1;cases h⟩
theorem ahL (H:Hp) (hs:∀x∈H.blks,aa3 (x.size:Int)=true) (c:Nat):∀j,j<=H.blks.length->(afc H j).lists c=abL (H.blks.take j) c
 | 0,_=>by rw[List.take_zero];rfl
 | j+1,hj=>by
  have ih:=ahL H hs c j (by omega);have hx:=acc (l:=H.blks) (i:=j) (by omega);obtain⟨x,hxe⟩:=nmE (aaL H.blks j);rw[hxe]at hx;obtain⟨k,hk,hk22⟩:=acb (hs x (List.mem_of_getElem? hx));have ht:H.blks.take (j+1)=H.blks.take j++ [x]:=by rw[List.take_add_one,hx];rfl
  rw[ht,aet];unfold afc;rw[hxe]
  cases hu:x.used with
  | true=>rw[if_pos rfl,if_neg (by intro h;cases h.1)];exact ih
  | false=>
   rw[if_neg (by decide)];show ahg (afc H j).lists (apz (aaL (afc H j).blks j)) ((aaL (afc H j).blks j).off::(afc H j).lists (apz (aaL (afc H j).blks j))) c=_;rw[(ael H j).1,hxe];have hcl:apz x=k:=by unfold apz;rw[hk];rfl
   rw[hcl];unfold ahg;by_cases e:c=k
   · subst e;rw[if_pos rfl,if_pos ⟨rfl,hk⟩,ih]
   · rw[if_neg e,if_neg (by intro h;apply e;have:=h.2;rw[hk]at this;omega)];exact ih
theorem af8:∀(l:List Bk) (o e:Nat),ach o l e->o+l.length*32<=e
 | [],o,e,h=>by simp[ach]at h;simp;omega
 | x::r,o,e,h=>by
  obtain⟨h1,h2,h3⟩:=h;have:=af8 r _ e h3;have q:=(aae _).1 h2;rw[List.length_cons];omega
theorem aqx{l:List Bk}{e:Nat}(h:ach 184 l e) (he:e<=16384):l.length<=512:=by
 have:=af8 _ _ _ h;omega
def atP (bs:List UInt8) (l:List Bk):List Dt:=l.map fun x=>(.slice none 0 0,(bs.drop (x.off+8)).take (x.size-16))
theorem asN{bs:List UInt8}{cap:Nat}(hk:aci bs=true) (hl:bs.length<=cap):∃H:Hp,RtD bs H/\H.cap=cap:=by
 have hk':=hk;unfold aci at hk
 cases hw:abJ bs with
 | none=>rw[hw]at hk;cases hk
 | some l=>
  rw[hw]at hk;simp only[Bool.and_eq_true]at hk;have ht:=(aaC hw).2.1;refine⟨⟨cap,l,atP bs l,fun c=>(afL bs c).getD []⟩,⟨⟨hw,fun c hc=> ?_,hk',hl⟩,List.length_map _,fun j x d ha _=> ?_⟩,rfl⟩
  · obtain⟨al,h1,_⟩:=aeY 22 0 _ hk.2.2 c (Nat.zero_le _) (by omega);show afL bs c=some ((afL bs c).getD []);rw[h1];rfl
  · obtain⟨h1,h2⟩:=ha;have h1:l[j]?=some x:=h1;have h2:(l.map fun x=>((.slice none 0 0,(bs.drop (x.off+8)).take (x.size-16)):Dt))[j]?=some d:=h2;rw[List.getElem?_map,h1]at h2;injection h2 with h2;subst h2;have hm:=(aau _ _ _ ht).2 x (List.mem_of_getElem? h1);have hq:=(aae _).1 hm.2.2.1;refine⟨?_,fun k hk=> ?_⟩
    · dsimp only;rw[List.length_take,List.length_drop];omega
    · dsimp only at hk ⊢;rw[List.length_take]at hk;rw[List.getElem?_take_of_lt (by omega),List.getElem?_drop]
def aiD:List Bk->Nat × Nat × Nat
 | []=>(0,0,0)
 | x::r=>if x.used=true then ((aiD r).1+1,(aiD r).2.1,(aiD r).2.2+(x.size-16)) else ((aiD r).1,(aiD r).2.1+1,(aiD r).2.2)
structure St5 where
 used:Nat
 free:Nat
 bytes:Nat
 len:Nat
 cap:Nat
def St5.none:St5:=⟨0,0,0,0,0⟩
def Hp.stats (H:Hp):St5:=⟨(aiD H.blks).1,(aiD H.blks).2.1,(aiD H.blks).2.2,acz H.blks,H.cap⟩
structure Rp where
 code:Int
 hd:Nat
 n:Nat
 b:List UInt8
 st:St5
def Rp.err (k:Int):Rp:=⟨k,0,0,[],St5.none⟩
def Hp.heldC (H:Hp) (op:Int) (q n p:Nat) (b:List UInt8):Rp × Hp:=match H.handleB q with
 | none=>(Rp.err 4,H)
 | some i=>if op=5 then (⟨0,0,(H.ds.getD i acB).2.length,[],St5.none⟩,H)
  else if (H.ds.getD i acB).2.length<p+(if op=7 then b.length else n) then (Rp.err 2,H)
  else if op=6 then (⟨0,0,0,((H.ds.getD i acB).2.drop p).take n,St5.none⟩,H)
  else (Rp.err 0,H.dset i ((H.ds.getD i acB).1,lay (H.ds.getD i acB).2 p b))
def ar4 (r:(Nat × Int) × Hp):Rp × Hp:=(⟨r.1.2,r.1.1,0,[],St5.none⟩,r.2)
def Hp.doC (H:Hp) (op:Int) (q n m p:Nat) (b:List UInt8):Rp × Hp:=
 if op=1 then ar4 (H.get n 165)
 else if op=2 then ar4 (H.calloc n m)
 else if op=3 then match H.handleB q with
  | none=>(Rp.err 4,H)
  | some i=>(Rp.err 0,H.give i)
 else if op=4 then ar4 (H.realloc q n)
 else if op=5\/op=6\/op=7 then H.heldC op q n p b
 else if op=8 then (⟨0,0,0,[],H.stats⟩,H)
 else (Rp.err 1,H)
section
variable {H:Hp}
end
section
variable {bs:List UInt8} {P Q:List Bk} {L:Nat->List Nat}
end
theorem aez{bs:List UInt8}{c:Nat}:∀(k last p:Nat) (l:List Nat),aeN bs c k last p=some l->asj bs last l 0/\l.headD 0=p
 | k,last,p,l,h=>by
  unfold aeN at h;by_cases hp:p=0
  · rw[if_pos hp]at h;injection h with h;subst h;exact⟨trivial,hp.symm⟩
  · rw[if_neg hp]at h
    cases k with
    | zero=>cases h
    | succ k=>
     dsimp only at h;split at h
     · rename_i hc
       cases hr:aeN bs c k p (aai bs (p+8))with
       | none=>rw[hr]at h;cases h
       | some r=>
        rw[hr]at h;injection h with h;subst h;obtain⟨i1,i2⟩:=aez k _ _ r hr;exact⟨⟨hc.2,i2.symm,i1⟩,rfl⟩
     · cases h
structure Md (bs:List UInt8) (H:Hp):Prop where
 tl:ach 184 H.blks bs.length
 ls:Lists bs H.blks H.lists
 hi:aai bs 0<4194304
 len:bs.length<=H.cap
theorem Rt.md{bs:List UInt8}{H:Hp}(h:Rt bs H) (hc:H.cap<=16384):Md bs H:=by
 obtain⟨w1,w2,w3⟩:=aaC h.walk;obtain⟨n1,_,_⟩:=h.nfree;have hl:=h.len;have hk:=h.chk;unfold aci at hk;rw[h.walk]at hk;simp only[Bool.and_eq_true]at hk;have h0:aai bs 0<4194304:=by
  have e0:apa bs 0=aai bs 0:=by unfold apa word?;rw[if_pos (by omega)];rfl
  rw[<-e0];exact of_decide_eq_true hk.1
 refine⟨w2,⟨w1,by omega,⟨w3,abz _ _ _ w2⟩,fun c hc=> ?_,fun c hc=> ?_,fun c hc o ho=>ad3 ((n1 c hc).2 o ho),fun c hc=> ?_,fun c hc=>(n1 c hc).1⟩,h0,hl⟩
 · exact(aez _ _ _ _ (ah6 (h.all_ c hc)).2).2.symm
 · obtain⟨b1,b2⟩:=ah6 (h.all_ c hc);have e:=(aez _ _ _ _ b2).2;rw[b1,<-e]
   cases hL:H.lists c with
   | nil=>rfl
   | cons o r=>
    obtain⟨x,hx,ex,_⟩:=ad3 ((n1 c hc).2 o (by rw[hL];simp));have:=((aau _ _ _ w2).2 x hx).1;have:o≠0:=by omega
    simp[this]
 · exact(aez _ _ _ _ (ah6 (h.all_ c hc)).2).1
def ar5:Bool->List Bk->Bool
 | _,[]=>true
 | u,x::r=>(u || x.used)&&ar5 x.used r
theorem afd{l:List Bk}{j:Nat}{y:Bk}(h:l[j]?=some y):ad4 l j=y.used:=by unfold ad4;rw[h]
theorem alH:∀(l:List Bk) (u:Bool),ar5 u l=true ↔ (∀y,l[0]?=some y->u=true\/y.used=true)/\∀j,j+1<l.length->ad4 l (j+1)=true\/ad4 l j=true
 | [],u=>by simp[ar5]
 | x::r,u=>by
  unfold ar5;rw[Bool.and_eq_true,Bool.or_eq_true,alH r x.used];constructor
  · rintro⟨h1,h2,h3⟩;refine⟨fun y hy=> ?_,fun j hj=> ?_⟩
    · injection hy with hy;subst hy;exact h1
    · rw[List.length_cons]at hj
      cases j with
      | zero=>
       obtain⟨y,hy⟩:∃y,r[0]?=some y:=⟨_,List.getElem?_eq_getElem (by omega)⟩;rw[afd (y:=y) (by simpa using hy),afd (y:=x) rfl];exact(h2 y hy).symm
      | succ j=>exact h3 j (by omega)
  · rintro⟨h1,h2⟩;refine⟨h1 x rfl,fun y hy=> ?_,fun j hj=> ?_⟩
    · have hl:=ada hy;have:=h2 0 (by rw[List.length_cons];omega);rw[afd (y:=y) (by simpa using hy),afd (y:=x) rfl]at this;exact this.symm
    · exact h2 (j+1) (by rw[List.length_cons];omega)
theorem amN (l:List Bk):aeX l=ar5 true l:=by
 rw[Bool.eq_iff_iff,alH];unfold aeX;rw[List.all_eq_true];constructor
 · intro h;refine⟨fun _ _=> .inl rfl,fun j hj=> ?_⟩;have:=h (j+1) (List.mem_range.2 hj);unfold ad5 at this;rw[Bool.or_eq_true,Bool.or_eq_true,Nat.add_sub_cancel]at this;rcases this with h1 | h1
   · simp at h1
   · exact h1
 · rintro⟨_,h⟩ j hj;have hj:=List.mem_range.1 hj;unfold ad5
   cases j with
   | zero=>rfl
   | succ j=>
    rw[Bool.or_eq_true,Bool.or_eq_true,Nat.add_sub_cancel];exact .inr (h j hj)
section
variable {bs:List UInt8} {H:Hp}
theorem ahM (hg:∀x∈H.blks,abV bs (x.off:Int)=some x) (s:Nat):∀L:List Nat,(∀o∈L,∃i,atB (o:Int) H.blks=some i)->L.find? (fun o=>decide ((s:Int)<=(szB bs o:Int)))=(ad7 H.blks s L).map fun i=>(aaL H.blks i).off
 | [],_=>rfl
 | o::r,hL=>by
  obtain⟨i,hi⟩:=hL o (by simp);obtain⟨h1,h2⟩:=ajd hi;have h2:(aaL H.blks i).off=o:=by omega
  have hz:szB bs o=(aaL H.blks i).size:=by
   rw[<-h2];exact aqY (hg _ (List.mem_of_getElem? (acc h1)))
  have ih:=ahM hg s r fun q hq=>hL q (by simp[hq]);unfold ad7;rw[hi];dsimp only;by_cases hle:s<=(aaL H.blks i).size
  · rw[List.find?_cons_of_pos (by rw[hz];exact decide_eq_true (by omega)),if_pos hle,Option.map_some,h2]
  · rw[List.find?_cons_of_neg (by rw[hz];simp;omega),if_neg hle];exact ih
theorem Rt.findsC (h:Rt bs H) (s:Nat):∀k c,c+k=22->ag2 bs (s:Int) k c=some (((H.findC s k c).map fun i=>(aaL H.blks i).off).getD 0)
 | 0,_,_=>rfl
 | k+1,c,hc=>by
  unfold ag2 Hp.findC;rw[h.all_ c (by omega)];dsimp only;rw[ahM (aaC h.walk).2.2 s (H.lists c) (h.listed c (by omega))]
  cases ad7 H.blks s (H.lists c)with
  | none=>exact h.findsC s k (c+1) (by omega)
  | some i=>rfl
theorem Rt.finds (h:Rt bs H){s:Nat}(hs:aa3 (s:Int)=true):anu bs (s:Int)=some (((H.find s).map fun i=>(aaL H.blks i).off).getD 0):=by
 unfold anu Hp.find;refine h.findsC s _ _ ?_;obtain⟨c,h1,h2⟩:=acb (x:=⟨0,s,false⟩) hs;have h1:aaw (s:Int)=(c:Int):=h1;omega
end
def afe (g base cap:Nat) (A:Option Addr) (bs:List UInt8) (H:Hp) (y:Option Nat × Hp) (w:World) (e:Ending) (w':World):Prop:=
 match y.1 with
 | none=>e= .returned (.tuple #[.int .i64 0,abm false 5])/\Below w.heap.size w w'
 | some o=>e= .returned (.tuple #[.int .i64 (o:Int),abm true 5])/\∃out,Became 160 g base cap A out w w'/\Rt out y.2/\atD H bs y.2 out
def atq:Prop:=∀(w:World) (g base cap c:Nat) (A:Option Addr) (bs:List UInt8) (H:Hp) (o:Int),Ar w 160 g base cap A c bs->base<=4611686018427387904->cap<=16384->H.cap=cap->Rt bs H->(-9223372036854775808<=o/\o<=9223372036854775807)->
 Calls Tryz.prog 149 #[.pointer (some ⟨g,0,none⟩), .int .i64 o] w fun e w'=>ab4 ((aeA H.blks o).map (aaL H.blks)) w e w'
def frV (o:Int):Option Bk->Value
 | none=> .agg #[.int .i64 o, .int .i64 0, .bool false]
 | some y=> .agg #[.int .i64 (y.off:Int), .int .i64 (y.size:Int), .bool false]
theorem aqy{fn:Func}{R:Ending->World->Prop}{a:Act}{w:World}{p:Tmp}{g:Nat}{o s:Int}{b:Bool}(hres:fn.results= #[.cell p 132]) (hp:a.tmps.getD p undef= .pointer (some ⟨g,0,none⟩)) (hd:a.defers= [])
 (hg:w.heap[g]?=some (.cells #[.int .i64 o, .int .i64 s, .bool b] 132 (0,0))) (hR:R (.returned (.agg #[.int .i64 o, .int .i64 s, .bool b])) w):bodyPost Tryz.prog fn R .ret a w:=by
 refine bodyPost_ret (v:= .agg #[.int .i64 o, .int .i64 s, .bool b]) ?_ hd hR;exact results_cell_row hres _ _ g _ _ _ _ hp hg rfl rfl rfl
section
variable {w:World} {g base cap c:Nat} {A:Option Addr} {bs:List UInt8}
theorem ajA (o:Int) (hA:∀w1,Below w.heap.size w w1->Calls Tryz.prog 238 #[.pointer (some ⟨g,0,none⟩), .int .i64 o] w1 fun e w'=>ab4 none w1 e w'):
 Calls Tryz.prog 203 #[.pointer (some ⟨g,0,none⟩), .int .i64 o] w fun e w'=>e= .returned (frV o none)/\Below w.heap.size w w':=by
 obtain⟨w1,hw1⟩:=nmE (w.alloc (.cells #[.int .i64 0, .int .i64 0, .bool false] 132));have hb1:=abE hw1;have hn1:=anE hw1;have hG:=hA w1 hb1;dsimp only[ab4,bkV,Bk.val,Option.isSome,abm]at hG;have HG:=hE0 hG;have HW1:=hE0 hw1;have HB1:=hE0 hb1;have HN1:=hE0 hn1;clear hG hA hw1 hb1 hn1;go_enter Tryz.func203,Tryz.ntmps203
 go_wp2_with fail
 rw[HW1.out]
 with_reducible refine HG.out.mono ?_
 rintro e w2 ⟨rfl,hb2⟩;have hn2:=(hb2.block w.heap.size (aan HN1.out)).trans HN1.out;have HB2:=hE0 (HB1.out.trans (hb2.mono HB1.out.size));have HN2:=hE0 hn2;clear hb2 hn2 HG;obtain⟨⟨c0,c1,c2⟩,f0,f1,f2⟩:=aar HN2.out;have hlt:=aav HN2.out;go_wp2
 (try simp only[Exit.inBlock,Exit.then])
 refine aqy (g:=w.heap.size) (o:=o) (s:=0) (b:=false) Tryz.results203 ?_ ?_ ((heap_alloc_old _ _ (aan (ab2 HN2.out _ _ _))).trans (ab2 HN2.out _ _ _)) ?_
 · rfl
 · rfl
 · refine⟨rfl,Below.alloc (((HB2.out.setCell ?_ _).setCell ?_ _).setCell ?_ _) ?_ _⟩
   · exact Nat.le_refl _
   · exact Nat.le_refl _
   · exact Nat.le_refl _
   · simp only[World.setCell];have h9:=HB2.out.size;simpa using h9
theorem ajB (o:Int):
 Calls Tryz.prog 204 #[.pointer (some ⟨g,0,none⟩), .agg #[.int .i64 o, .int .i64 0, .bool false]] w fun e w'=>e= .returned (.tuple #[])/\Below w.heap.size w w':=by
 go_enter Tryz.func204,Tryz.ntmps204
 go_wp2
 go_end0
 exact⟨rfl,(Below.refl _ _).alloc (Nat.le_refl _) _⟩
end
def Loc (w w':World):Prop:=∀(k:Nat) (cs:Array Value),w.heap[k]?=some (.cells cs 132 (0,0))->w'.heap[k]?=some (.cells cs 132 (0,0))
theorem Loc.below{w w':World}(h:Below w.heap.size w w'):Loc w w':=fun i _ hi=>(h.block i (aan hi)).trans hi
theorem asO{w:World}{g base cap c:Nat}{A:Option Addr}{bs:List UInt8}(h:Ar w 160 g base cap A c bs){k:Nat}{cs:Array Value}(hk:w.heap[k]?=some (.cells cs 132 (0,0))):¬foot g A k:=by
 rintro(rfl | ⟨a,ea,rfl⟩)
 · have h1:=h.obj;rw[hk]at h1;injection h1 with h1;injection h1 with _ h2 _;exact absurd h2 (by decide)
 · obtain⟨h',e,cur,h1,_⟩:=h.row ea;rw[e]at hk;have hk:w.heap[h']?=some (.cells cs 132 (0,0)):=hk;rw[hk]at h1;injection h1 with h1;injection h1 with _ h2 _;exact absurd h2 (by decide)
theorem Loc.tch{w w':World}{g base cap c:Nat}{A:Option Addr}{bs:List UInt8}(h:Ar w 160 g base cap A c bs) (ht:Tch (foot g A) w w'):Loc w w':=fun i _ hi=>(ht.block i (aan hi) (asO h hi)).trans hi
section
variable {w w1:World} {g base cap:Nat} {A:Option Addr} {b1 b2:List UInt8}
theorem ar6 (h:Became 160 g base cap A b1 w w1) (n:Nat) (hl:b1.length<=cap) (hcap:cap<=16384) (hn:b1.length+n<=cap):
 Calls Tryz.prog 40 #[.pointer (some ⟨g,0,none⟩), .int .i64 (n:Int)] w1 fun e w2=>e= .returned .nilIface/\Became 160 g base cap A (b1++List.replicate n 0) w w2/\Loc w1 w2:=by
 obtain⟨A',c',a,tc,k⟩:=h;refine(aj3 a n hl hcap hn).mono ?_;rintro e w2 ⟨h1,h2⟩;have h2':=h2;obtain⟨_,_,_,ht,_⟩:=h2';exact⟨h1,Became.trans a tc k h2,Loc.tch a ht⟩
end
theorem Rt.bound{bs:List UInt8}{H:Hp}(h:Rt bs H) (hc:H.cap<=16384):bs.length<=16384/\∀y∈H.blks,184<=y.off/\32<=y.size/\y.off+y.size<=bs.length:=by
 have hM:=h.md hc;refine⟨hM.ls.small,fun y hy=> ?_⟩;have:=hM.ls.st.facts hy;omega
section
variable {w:World} {g base cap c:Nat} {A:Option Addr} {bs:List UInt8} {H:Hp}
end
theorem aqz{l:List Bk}{e:Nat}(ht:ach 184 l e){j:Nat}{x:Bk}{o:Int}(hx:l[j]?=some x) (ho:(x.off:Int)=o) (hu:x.used=true):(aeA l o).map (aaL l)=some x:=by
 have hxm:=List.mem_of_getElem? hx;obtain⟨i,h1,h2,h3⟩:=asK ht hxm;unfold aeA;rw[<-ho,h1];dsimp only;rw[h3,hu,if_pos rfl,Option.map_some,h3]
theorem ajC{l:List Bk}{o:Int}(h:∀(i:Nat) (x:Bk),l[i]?=some x->¬((x.off:Int)=o/\x.used=true)):aeA l o=none:=by
 unfold aeA
 cases hi:atB o l with
 | none=>rfl
 | some i=>
  obtain⟨x,h1,h2⟩:=af1 hi;dsimp only;rw[if_neg];intro hu;rw[agn h1]at hu;exact h i x h1 ⟨h2,hu⟩
theorem ar7{l:List Bk}{o:Int}{i:Nat}(h:aeA l o=some i):i<l.length/\((aaL l i).off:Int)=o/\(aaL l i).used=true:=by
 unfold aeA at h
 cases hi:atB o l with
 | none=>rw[hi]at h;cases h
 | some k=>
  rw[hi]at h;dsimp only at h;split at h
  · rename_i hu;injection h with h;subst h;obtain⟨x,h1,h2⟩:=af1 hi;exact⟨ada h1,by rw[agn h1];exact h2,hu⟩
  · cases h
theorem aiE{B:Nat}{w w':World}(h:Below B w w'){b j:Nat}{v:Value}(hc:w.cell? ⟨b,j,none⟩=some v) (hb:b<B):w'.cell? ⟨b,j,none⟩=some v:=
 (h.cell (p:=⟨b,j,none⟩) hb).trans hc
theorem atr:atq:=by
 intro w g base cap c A bs H o h hb hcap hc hR ho;obtain⟨l,hl⟩:=nmE H.blks;rw[hl];have hwk:=hR.walk;rw[hl]at hwk;have ht:=(aaC hwk).2.1;have hbl:=(hR.bound (by omega)).1;have hll:=ai8 hwk;obtain⟨y,hy⟩:=nmE ((aeA l o).map (aaL l));rw[hy];have HHIT:Hid (∀(j:Nat) (x:Bk),l[j]?=some x->(x.off:Int)=o->x.used=true->some x=y):=fun j x hx ho hu=>by rw[<-hy];exact(aqz ht hx ho hu).symm
 have HMISS:Hid ((∀(i:Nat) (x:Bk),l[i]?=some x->¬((x.off:Int)=o/\x.used=true))->none=y):=fun hm=>by rw[<-hy,ajC hm];rfl
 obtain⟨w1,hw1⟩:=nmE (w.alloc (.cells #[.int .i64 0, .int .i64 0, .bool false] 132));have hb1:=abE hw1;have hn1:=anE hw1;have hW:=akz w1 g base cap c A bs _ (h.below hb1) hb hbl hwk;dsimp only[adP,Option.isSome,Option.getD,abm]at hW;have HW:=hE0 hW;have HW1:=hE0 hw1;have HB1:=hE0 hb1;have HN1:=hE0 hn1;clear hW hw1 hb1 hn1 h hR hwk ht hy hl hb hcap hc;go_enter Tryz.func149,Tryz.ntmps149
 go_wp2_with fail
 rw[HW1.out]
 with_reducible refine HW.out.mono ?_
 rintro e w2 ⟨A2,c2,rfl,ho2,hb2⟩;have hcl:l.length<=c2/\c2<=9223372036854775807:=by
  rcases ho2.2 with⟨h',h0⟩ | ⟨_,_,_,h',_,_,h1,h2,_⟩
  · injection h' with _ _ e;rw[h0,e];omega
  · injection h' with _ _ e;unfold maxLen at h2;omega
 have HR:=hE0 (BkRd.of_own ho2);have HB2:=hE0 (HB1.out.trans (hb2.mono HB1.out.size));have HN2:=hE0 ((hb2.block w.heap.size (aan HN1.out)).trans HN1.out);clear ho2 hb2 HW HN1 HB1;go_wp2
 go_loopw [21] (fun t wr=>∃j:Nat,t= .int .i64 (j:Int)/\j<=l.length/\(∀(i:Nat) (x:Bk),i<j->l[i]?=some x->¬((x.off:Int)=o/\x.used=true))/\Below w2.heap.size w2 wr) (fun t _=>l.length-(intOf t).toNat)
 case atStart=>exact⟨0,rfl,Nat.zero_le _,fun i x hi=>absurd hi (Nat.not_lt_zero _),Below.refl _ _⟩
 case round=>
  obtain⟨j,rfl,hj,hno,hbe⟩:=hrel;have nl:=(hbe.block w.heap.size (aan HN2.out)).trans HN2.out;have hfin:=HB2.out.trans (hbe.mono HB2.out.size);by_cases hlt:j<l.length
  · obtain⟨x,hx⟩:∃x,l[j]?=some x:=⟨l[j],List.getElem?_eq_getElem hlt⟩;obtain⟨b2,q,rfl,hbb,hcl2⟩:=HR.out (by omega);obtain⟨p0,p1,p2⟩:=hcl2 j x hx;have r0:=aiE hbe p0 hbb;have r1:=aiE hbe p1 hbb;have r2:=aiE hbe p2 hbb;have HIT:=hE0 (HHIT.out j x hx);have HNO:Hid (¬((x.off:Int)=o/\x.used=true)->∀(i:Nat) (z:Bk),i<j+1->l[i]?=some z->¬((z.off:Int)=o/\z.used=true)):=fun hx2 i z hi hz=>by
     by_cases hij:i<j
     · exact hno i z hij hz
     · obtain rfl:i=j:=by omega
       rw[hx]at hz;injection hz with hz;rw[<-hz];exact hx2
    obtain⟨xo,xs,xu⟩:=x;dsimp only at p0 p1 p2 r0 r1 r2;obtain⟨w4,hw4⟩:=nmE (wr.alloc (.cells #[.int .i64 (xo:Int), .int .i64 (xs:Int), .bool xu] 132));have hb4:Below w2.heap.size w2 w4:=by rw[<-hw4];exact hbe.alloc hbe.size _
    have n4:=anE hw4;have nl4:w4.heap[w.heap.size]?=some (.cells #[.int .i64 0, .int .i64 0, .bool false] 132 (0,0)):=by rw[<-hw4];exact(heap_alloc_old _ _ (aan nl)).trans nl
    have hf4:Below w.heap.size w w4:=by rw[<-hw4];exact hfin.alloc hfin.size _
    obtain⟨⟨d0,d1,d2⟩,_⟩:=aar n4;have HW4:=hE0 hw4;have HB4:=hE0 hb4;have HF4:=hE0 hf4;have NL4:=hE0 nl4;have HNEQ:=hE0 (show wr.heap.size≠w.heap.size from fun e=>by have:=aan nl;omega);clear hx hbe p0 p1 p2 hb4 n4 hw4 hcl2 hno nl nl4 hf4 hfin;by_cases hxo:(xo:Int)=o
    · have e1:((xo:Int)==o)=true:=by rw[beq_iff_eq];exact hxo
      cases xu with
      | true=>
       obtain rfl:=HIT.out hxo rfl;obtain⟨⟨c0,c1,c2⟩,f0,f1,f2⟩:=aar NL4.out;have hlt4:=aav NL4.out;clear hxo HHIT HMISS HIT HNO;go_wp2_with (first | (rw[HW4.out]) | fail)
       (try simp only[Exit.inBlock,Exit.then])
       refine acn (x:= .nilIface) (g:=w.heap.size) (o:=(xo:Int)) (s:=(xs:Int)) (b:=true) Tryz.results149 ?_ ?_ ?_ ?_ ?_
       · rfl
       · rfl
       · rfl
       · exact ab2 NL4.out _ _ _
       · exact⟨rfl,((HF4.out.setCell (Nat.le_refl _) _).setCell (Nat.le_refl _) _).setCell (Nat.le_refl _) _⟩
      | false=>
       have HNO2:=hE0 (HNO.out (fun hh=>by cases hh.2));clear hxo HHIT HMISS HIT HNO;go_wp2_with (first | (rw[HW4.out]) | fail)
       go_roundw
       case rel=>exact⟨j+1,by go_num,by omega,HNO2.out,HB4.out⟩
       case measure=>simp only[intOf];omega
    · have e1:((xo:Int)==o)=false:=by rw[beq_eq_false_iff_ne];exact hxo
      have HNO2:=hE0 (HNO.out (fun hh=>hxo hh.1));clear hxo HHIT HMISS HIT HNO;go_wp2_with (first | (rw[HW4.out]) | fail)
      go_roundw
      case rel=>exact⟨j+1,by go_num,by omega,HNO2.out,HB4.out⟩
      case measure=>simp only[intOf];omega
  · obtain rfl:=HMISS.out (fun i x hx=>hno i x (by have:=ada hx;omega) hx);have NL:=hE0 nl;have HF:=hE0 hfin;obtain⟨⟨c0,c1,c2⟩,f0,f1,f2⟩:=aar NL.out;have hlt4:=aav NL.out;clear hno hbe nl hfin HHIT HMISS;go_wp2
    (try simp only[Exit.inBlock,Exit.then])
    refine acn (x:= .iface 90 (.int .i64 3)) (g:=w.heap.size) (o:=0) (s:=0) (b:=false) Tryz.results149 ?_ ?_ ?_ ?_ ?_
    · rfl
    · rfl
    · rfl
    · exact ab2 NL.out _ _ _
    · exact⟨rfl,((HF.out.setCell (Nat.le_refl _) _).setCell (Nat.le_refl _) _).setCell (Nat.le_refl _) _⟩
section
variable {w:World} {g base cap c:Nat} {A:Option Addr} {bs:List UInt8} {H:Hp}
end
section
variable {w w1:World} {g base cap c:Nat} {A:Option Addr} {bs:List UInt8} {H:Hp}
theorem ajD (h:Ar w 160 g base cap A c bs) (hbase:base<=4611686018427387904) (hcap:cap<=16384) (hl:bs.length<=cap) (s z o:Nat) (hzs:z<=s) (hs:s<=16384) (ho:o<=16384) (hlt:bs.length+(s-z)<=cap) (b1 b2:List UInt8) (hl1:b1.length=bs.length+(s-z)) (e2:setB b1 (o:Int) (s:Int) true=some b2)
 (h1:Calls Tryz.prog 203 #[.pointer (some ⟨g,0,none⟩), .int .i64 (bs.length:Int)] w fun e w'=>e= .returned (.agg #[.int .i64 (o:Int), .int .i64 (z:Int), .bool false])/\Below w.heap.size w w')
 (hO:∀w2,Became 160 g base cap A (bs++List.replicate (s-z) 0) w w2->Calls Tryz.prog 204 #[.pointer (some ⟨g,0,none⟩), .agg #[.int .i64 (o:Int), .int .i64 (z:Int), .bool false]] w2 fun e w3=>e= .returned (.tuple #[])/\Became 160 g base cap A b1 w w3/\Loc w2 w3):
 Calls Tryz.prog 200 #[.pointer (some ⟨g,0,none⟩), .int .i64 (s:Int)] w fun e w'=>e= .returned (.tuple #[.int .i64 (o:Int),abm true 5])/\Became 160 g base cap A b2 w w':=by
 have HL:=hE0 (adz h);have H1:=hE0 h1;have BC:=hE0 (show Became 160 g base cap A bs w w from⟨A,c,h,Tch.refl _ _, .inl rfl⟩);have HG:=hE0 (fun w2 (hB:Became 160 g base cap A bs w w2)=>ar6 hB (s-z) hl hcap hlt);have HO:=hE0 hO;have hl1':b1.length<=16384:=by omega
 have HS:=hE0 (fun w2 c' A' (a:Ar w2 160 g base cap A' c' b1)=>atG w2 g base cap c' A' b1 (o:Int) (s:Int) true _ a hbase hl1' (by omega) (by omega) e2);dsimp only[ap7,abm]at HS;obtain⟨bz,hbz⟩:=nmE (bs++List.replicate (s-z) 0);have e3:((s-z:Nat):Int)=(s:Int)-(z:Int):=Int.ofNat_sub hzs;rw[hbz,e3]at HG;rw[hbz]at HO;have hfz:z<=16384:=by omega
 dsimp only[abm];clear h1 hO h hlt e3 e2 hl1 hl1' hbz;go_enter Tryz.func200,Tryz.ntmps200
 go_wp2_with fail
 with_reducible refine HL.out.mono ?_
 rintro e w1 ⟨rfl,rfl⟩;go_wp2_with fail
 with_reducible refine H1.out.mono ?_
 rintro e w2 ⟨rfl,hb2⟩;obtain⟨w3,hw3⟩:=nmE (w2.alloc (.cells #[.int .i64 (o:Int), .int .i64 (z:Int), .bool false] 132));have n3:=anE hw3;have hb3:Below w.heap.size w w3:=by rw[<-hw3];exact hb2.alloc hb2.size _
 have HG3:=hE0 (HG.out w3 (adg BC.out hb3));obtain⟨⟨d0,d1,d2⟩,_⟩:=aar n3;have hlt3:=aav n3;have HW3:=hE0 hw3;have N3:=hE0 n3;clear hb2 H1 HG HL hw3 n3 hb3 BC;go_wp2_with (first | (rw[HW3.out]) | fail)
 refine HG3.out.mono ?_;clear d0 d1 d2 hlt3;rintro e w4 ⟨rfl,hB4,hL4⟩;have n4:=hL4 _ _ N3.out;have HO4:=hE0 (HO.out w4 hB4);obtain⟨⟨d0,d1,d2⟩,_⟩:=aar n4;have hlt4:=aav n4;have N4:=hE0 n4;clear hB4 hL4 HG3 HO n4 N3;go_wp2_with fail
 refine HO4.out.mono ?_;clear d0 d1 d2 hlt4;rintro e w5 ⟨rfl,hB5,hL5⟩;have n5:=hL5 _ _ N4.out;obtain⟨w6,hw6⟩:=nmE w5.drew;have n6:w6.heap[w2.heap.size]?=some (.cells #[.int .i64 (o:Int), .int .i64 (z:Int), .bool false] 132 (0,0)):=by rw[<-hw6];exact n5
 have B6:Became 160 g base cap A b1 w w6:=by rw[<-hw6];exact adg hB5 (Below.refl _ _).drew
 obtain⟨A6,c6,a6,t6,k6⟩:=B6;have hnf:=asO a6 n6;obtain⟨⟨d0,d1,d2⟩,_⟩:=aar n6;have HS6:=hE0 (HS.out w6 c6 A6 a6);have HFIN:=hE0 (fun w7 (hB:Became 160 g base cap A6 b2 w6 w7)=>Became.trans a6 t6 k6 hB);have HNF:=hE0 hnf;have HW6:=hE0 hw6;clear hB5 hL5 HO4 HS n5 N4 n6 a6 t6 k6 hw6 hnf;go_wp2_with fail
 refine ahZ (foot g A6) [([0,1,2,3,4,5,6],7)] [8,9] [] (by kernel_rfl) (by kernel_rfl) (by kernel_rfl) (fun _ _ _ _ _ h=>h) ?_;rw[HW6.out];clear HW6;have z0:∀z:LaterS (foot g A6) w6,z.val.cell? ⟨w2.heap.size,0,none⟩=some (.int .i64 (o:Int)):=fun z=>z.ext.cell d0 HNF.out;clear d0 d1 d2;refine apr (l:= ?seg1) ?hseg1 ?_
 case hseg1=>simp only[pick,lE1,lE2,lE3];rfl
 repeat (go_big_quiet_step (fail))
 refine wpQuiet_nil ?_;clear z0;refine apt (vs:= #[.pointer (some ⟨g,0,none⟩), .agg #[.int .i64 (o:Int), .int .i64 (s:Int), .bool true]]) Tryz.call184 rfl rfl rfl (R:=fun r w'=>r= .nilIface/\Became 160 g base cap A6 b2 w6 w') (HS6.out.mono ?_) ?_
 · rintro e w' ⟨rfl,hB⟩;have hB':=hB;obtain⟨_,_,_,ht,_⟩:=hB';exact⟨_,rfl,ht,rfl,hB⟩
 rintro r w7 _ ⟨rfl,hB7⟩;refine⟨foot g A6,fun _ _ h=>h,?_⟩;refine aps (l:= ?la4) (t:= []) ?hla4 ?htl4 ?_
 case hla4=>simp only[pick,lE1,lE2,lE3];rfl
 case htl4=>rfl
 simp only[Act.put,lE4,lE5,lE6];repeat (go_big_quiet_step (fail))
 refine wpQuiet_nil ?_;have HB7:=hE0 (HFIN.out w7 hB7);clear hB7 HFIN HS6;go_wp2
 go_ret2
 exact⟨rfl,HB7.out⟩
end
structure Al (wB W:World) (g base cap:Nat) (A:Option Addr) (c:Nat) (bs:List UInt8) (F:Nat->Prop) (p:Nat) (H:Hp):Prop where
 st:St wB W g base cap A c bs []
 hm:HM F W p H
 lo:∀k,F k->wB.heap.size<=k
 hi:∀k,F k->k<W.heap.size
 ap:∀k,F k->¬foot g A k
section
variable {wB W W':World} {g base cap c p:Nat} {A:Option Addr} {bs:List UInt8} {F:Nat->Prop} {H:Hp}
theorem HM.tight{w:World}(h:HM F w p H):∃F',HM F' w p H/\(∀k,F' k->F k)/\∀k,F' k->k<w.heap.size:=by
 obtain⟨Vb,Vd,gl,cs,h⟩:=h;exact⟨_,⟨Vb,Vd,gl,cs,h.tight⟩,fun k hk=>h.feetF hk,fun k hk=>h.feet_lt hk⟩
theorem Al.below (h:Al wB W g base cap A c bs F p H) (hb:Below W.heap.size W W'):Al wB W' g base cap A c bs F p H:=
 ⟨h.st.below hb,h.hm.below hb,h.lo,fun k hk=>Nat.lt_of_lt_of_le (h.hi k hk) hb.size,h.ap⟩
end
section
variable {wB W:World} {g base cap c p:Nat} {A:Option Addr} {bs:List UInt8} {F:Nat->Prop} {H:Hp}
theorem aoE (HW:asB) (HA:atH) (HC:aq6) (a:Al wB W g base cap A c bs F p H) (rt:Rt bs H) (hcap:H.cap=cap) (hbase:base<=4611686018427387904) (hc16:cap<=16384) (hd:H.Dl):
 Calls Tryz.prog 31 #[.pointer (some ⟨g,0,none⟩), .pointer (some ⟨p,0,none⟩)] W fun e w'=>e= .returned (.int .i64 1)/\Below W.heap.size W w':=by
 have hlen:bs.length<=16384:=Nat.le_trans (hcap▸rt.len) hc16;have hn512:=(rt.ok (hcap▸hc16) hd).n;have HWk:=hE0 (HW W g base cap c A bs (some H.blks) a.st.ar hbase hlen rt.walk);have HLF:=hE0 rt.few;have HAl:=hE0 a;have HRT:=hE0 rt;have HA:=hE0 HA;have HC:=hE0 HC;have HLEN:=hE0 hlen;obtain⟨n,hn⟩:=nmE H.blks.length;rw[hn]at hn512;have HN:=hE0 hn;have HCAP:=hE0 hcap;clear HW a rt hlen hn hcap hd;go_enter Tryz.func31,Tryz.ntmps31
 go_wp2_with fail
 refine HWk.out.mono ?_;rintro e w2 ⟨A7,c7,rfl,hown7,hb2⟩;clear HWk;dsimp only[Option.getD,Option.isSome,abm]at hown7 ⊢;have a2:=HAl.out.below hb2;obtain⟨wd,hwd⟩:=nmE w2.drew;have hbd:=adE hwd;have ad:=a2.below hbd;have hbD:=hb2.trans (hbd.mono hb2.size);obtain⟨Vb,Vd,gl,cs,hm⟩:=ad.hm;obtain⟨A1,c1,rfl⟩:=aa4 hm.ob;have own7:=aa6 hown7 hbd;have hsm:=akb wd A7 A1 c7 c1 H.blks (BkRd.of_own own7) (BkRd.of_own hm.ob) (by rw[HN.out];omega);have k1:=hm.c1;have k0:=hm.c0;have hpd:=hm.lt;rw[HCAP.out]at k0;rw[HN.out]at hsm k1 ⊢;have HSM:=hE0 hsm;have HWD:=hE0 hwd;have HD:=hE0 ad;have HBD:=hE0 hbD;clear hown7 hb2 a2 hwd hbd ad hbD hm own7 hsm;go_wp2_with fail
 refine aad wd.heap.size [([0,1,2,3,4,5,6,7],8),([9,10,11,12,14,15,16,17],13),([18,19,20,21],22)] [23,24] [] (by kernel_rfl) (by kernel_rfl) (by kernel_rfl) (fun _ _ _ _ _ h=>h) ?_;rw[HWD.out];have t1:=tfE k1 hpd;refine tail_cons (l:= ?segA) ?hsegA ?_
 case hsegA=>simp only[pick,lE1,lE2,lE3];rfl
 repeat (go_big_quiet_step (fail))
 refine wpQuiet_nil ?_;clear t1 k1;refine aaf (vs:= #[.slice A7 n c7, .slice A1 n c1]) Tryz.call82 rfl rfl rfl (R:=fun r w'=>r= .int .i64 1) (HSM.out.mono ?_) wd.heap.size (Nat.le_refl _) ?_
 · rintro e w' ⟨rfl,hb⟩;exact⟨_,rfl,hb,rfl⟩
 rintro r w3 hb3 rfl;have HB3:=hE0 hb3;have A3:=hE0 (HD.out.below hb3);have hs3:=hb3.size;clear HSM hb3;simp only[Act.put,lE4,lE5,lE6];have t0:∀z:LaterB wd.heap.size w3,z.val.cell? ⟨p,0,none⟩=some (.int .i64 (cap:Int)):=fun z=>((HB3.out.trans z.ext).cell (p:=⟨p,0,none⟩) hpd).trans k0;refine tail_cons (l:= ?segB) ?hsegB ?_
 case hsegB=>simp only[pick,lE1,lE2,lE3];rfl
 repeat (go_big_quiet_step (fail))
 refine wpQuiet_nil ?_;clear t0 k0;refine aaf (vs:= #[.pointer (some ⟨g,0,none⟩)]) Tryz.call83 rfl rfl rfl (R:=fun r w'=>r= .int .i64 (cap:Int)/\w'=w3) ((ari A3.out.st.ar).mono ?_) wd.heap.size (Nat.le_refl _) ?_
 · rintro e w' ⟨rfl,rfl⟩;exact⟨_,rfl,Below.refl _ _,rfl,rfl⟩
 rintro r w4 _ ⟨rfl,rfl⟩;simp only[Act.put,lE4,lE5,lE6];refine tail_cons (l:= ?segC) ?hsegC ?_
 case hsegC=>simp only[pick,lE1,lE2,lE3];rfl
 repeat (go_big_quiet_step (fail))
 refine wpQuiet_nil ?_;refine aaf (vs:= #[.pointer (some ⟨g,0,none⟩)]) Tryz.call84 rfl rfl rfl (R:=fun r w'=>r= .nilIface/\Below w4.heap.size w4 w') ((HC.out w4 g base cap c A bs true A3.out.st.ar hbase HLEN.out HRT.out.chk).mono ?_) wd.heap.size (Nat.le_refl _) ?_
 · rintro e w' ⟨rfl,hb⟩;exact⟨_,rfl,hb.mono hs3,rfl,hb⟩
 rintro r w5 _ ⟨rfl,hb5⟩;have A5:=hE0 (A3.out.below hb5);have B5:=hE0 (HBD.out.trans ((HB3.out.trans (hb5.mono hs3)).mono HBD.out.size));clear hb5 HB3 A3 HD HC HBD HWD hpd hs3 HAl;simp only[Act.put,lE4,lE5,lE6];refine aam (l:= ?laD) (t:= []) ?hlaD ?htlD ?_
 case hlaD=>simp only[pick,lE1,lE2,lE3];rfl
 case htlD=>rfl
 repeat (go_big_quiet_step (fail))
 refine wpQuiet_nil ?_;go_wp2
 go_loopw [7] (fun i wr=>∃d:Nat,i= .int .i64 (d:Int)/\d<=22/\Al wB wr g base cap A c bs F p H/\Below W.heap.size W wr) (fun i _=>22-(intOf i).toNat)
 case atStart=>exact⟨0,rfl,by omega,A5.out,B5.out⟩
 case round=>
  obtain⟨d,rfl,hd,ha,hb⟩:=hrel;clear A5 B5;have AR:=hE0 ha;have BR:=hE0 hb;clear ha hb;by_cases hd22:d<22
  · have hdi:(d:Int)<22:=by omega
    have HAL:=hE0 (HA.out wr g base cap c A bs d _ AR.out.st.ar hbase HLEN.out hd22 (HRT.out.all_ d hd22));have hfw:=HLF.out d hd22;go_wp2_with fail
    refine HAL.out.mono ?_;rintro e w6 ⟨A9,c9,rfl,hown,hb⟩;dsimp only[Option.getD,Option.isSome,abm]at hown ⊢;have a6:=AR.out.below hb;obtain⟨Vb,Vd,gl,cs,hm⟩:=a6.hm;obtain⟨A2,c2,hcell,hlo⟩:=hm.lcell hd22;have q3:=hm.c3;have hsm:=anF w6 A9 A2 c9 c2 (apB (H.lists d)) (aib hown rfl) (aib hlo rfl) (by rw[alA];omega);rw[alA]at hsm;obtain⟨M,hM⟩:=nmE ((H.lists d).length);rw[hM]at hsm hcell ⊢;have HSM:=hE0 hsm;have A6:=hE0 a6;have B6:=hE0 (BR.out.trans (hb.mono BR.out.size));clear hown hb a6 hm hlo hsm hM HAL AR BR hfw;go_wp2_with fail
    refine HSM.out.mono ?_;rintro e w7 ⟨rfl,hb⟩;have A7:=hE0 (A6.out.below hb);have B7:=hE0 (B6.out.trans (hb.mono B6.out.size));clear hb HSM A6 B6 q3 hcell;go_wp2
    go_roundw
    case rel=>exact⟨d+1,by go_num,by omega,A7.out,B7.out⟩
    case measure=>simp only[intOf];omega
  · go_wp2
    go_ret
    exact⟨rfl,BR.out⟩
end
open Go.RowKit Go.Extern.Stop Go.Stop Go.Extern
def ETV:Value:= .iface 271 (.agg #[.pointer (some ⟨1,31,none⟩)])
def ET (w:World):Prop:=w.cell? ⟨0,0,none⟩=some (.iface 271 (.agg #[.pointer (some ⟨1,31,none⟩)]))
theorem asP (t:Value) (w:World):
 Calls Tryz.prog 100 #[.nilIface,t] w fun e w'=>e= .returned (.bool false)/\w'=w:=by
 go_enter Tryz.func100,Tryz.ntmps100
 go_wp2
 go_ret
 exact⟨rfl,rfl⟩
theorem akJ (t:Addr) (w:World):(ReflectliteValue.unpack (.iface 172 (.pointer (some t)))).run Tryz.prog w
 = .ok (.agg #[.pointer (some ⟨1,172,none⟩), .pointer (some ⟨w.heap.size,0,none⟩), .int .u64 150]) (w.alloc (.cells #[.pointer (some t)] 172)):=by kernel_rfl
theorem aqA (a:Addr) (w:World):(ReflectliteValue.methodAny (ReflectliteValue.valueError "reflectlite.Value.Type" 0) (fun t _ _ _=>ReflectliteType.toType t) #[.agg #[.pointer (some ⟨1,172,none⟩), .pointer (some a), .int .u64 150]]).run Tryz.prog w
 = .ok (.iface 271 (.agg #[.pointer (some ⟨1,172,none⟩)])) w:=by kernel_rfl
theorem aiF (h:Value) (w:World):(Go.method 437 271 (.agg #[h]) "Kind").run Tryz.prog w= .ok (267,h) w:=by kernel_rfl
theorem aqB (w:World):((ReflectliteType.abiMethod fun t=>(fun a:Nat=>Value.int IntKind.u8 (a:Int))<$>Rtype.kind t) #[.pointer (some ⟨1,172,none⟩)]).run Tryz.prog w= .ok (.int .u8 22) w:=by kernel_rfl
theorem aqC (w:World):((ReflectliteType.abiMethod fun t=>(fun a:Nat=>Value.int IntKind.u8 (a:Int))<$>Rtype.kind t) #[.pointer (some ⟨1,90,none⟩)]).run Tryz.prog w= .ok (.int .u8 2) w:=by kernel_rfl
theorem arb (z:Sem Value) (f:TypeId->Addr->Nat->Nat->Sem Value) (v:Value):
 ReflectliteValue.method z f #[v]=(do match<-ReflectliteValue.parts v with | none=>z | some (t,a,fl)=>f t a fl (fl%32)):=rfl
theorem ajE (a:Addr) (w:World):(ReflectliteValue.parts (.agg #[.pointer (some ⟨1,172,none⟩), .pointer (some a), .int .u64 150])).run Tryz.prog w= .ok (some (172,a,150)) w:=by kernel_rfl
theorem aoF (a p:Addr) (W:World) (ha:W.cell? a=some (.pointer (some p))):
 (ReflectliteValue.method (ReflectliteValue.valueError "reflectlite.Value.IsNil" 0) ReflectliteValue.isNil #[.agg #[.pointer (some ⟨1,172,none⟩), .pointer (some a), .int .u64 150]]).run Tryz.prog W= .ok (.bool false) W:=by
 rw[arb];simp only[Sem.run_bind,ajE,Result.andThen];simp[ReflectliteValue.isNil,loadVar,isAgg,underlying,Tryz.underlying172,ha,Result.andThen]
theorem aiG (h:Value) (w:World):(Go.method 437 271 (.agg #[h]) "Elem").run Tryz.prog w= .ok (278, .agg #[h]) w:=by kernel_rfl
theorem aeK (h:Value) (w:World):(Go.method 437 271 (.agg #[h]) "Implements").run Tryz.prog w= .ok (279, .agg #[h]) w:=by kernel_rfl
theorem aem (h:Value) (w:World):(Go.method 437 271 (.agg #[h]) "AssignableTo").run Tryz.prog w= .ok (276, .agg #[h]) w:=by kernel_rfl
theorem aqD (w:World):(ReflectliteType.method ReflectliteType.elem #[.agg #[.pointer (some ⟨1,172,none⟩)]]).run Tryz.prog w= .ok (.iface 271 (.agg #[.pointer (some ⟨1,90,none⟩)])) w:=by kernel_rfl
theorem aqE (w:World):(ReflectliteType.relation "Implements" ReflectliteType.implements_ #[.agg #[.pointer (some ⟨1,90,none⟩)], .iface 271 (.agg #[.pointer (some ⟨1,31,none⟩)])]).run Tryz.prog w= .ok (.bool true) w:=by kernel_rfl
theorem amO (v:Value) (w:World):(ReflectliteType.typeOf #[.iface 90 v]).run Tryz.prog w= .ok (.iface 271 (.agg #[.pointer (some ⟨1,90,none⟩)])) w:=by kernel_rfl
theorem amP (w:World):(ReflectliteType.relation "AssignableTo" ReflectliteType.assignableTo #[.agg #[.pointer (some ⟨1,90,none⟩)], .iface 271 (.agg #[.pointer (some ⟨1,90,none⟩)])]).run Tryz.prog w= .ok (.bool true) w:=by kernel_rfl
theorem akK (k:Int) (w:World):(ReflectliteValue.unpack (.iface 90 (.int .i64 k))).run Tryz.prog w
 = .ok (.agg #[.pointer (some ⟨1,90,none⟩), .pointer (some ⟨w.heap.size,0,none⟩), .int .u64 130]) (w.alloc (.cells #[.int .i64 k] 90)):=by kernel_rfl
theorem amQ (w:World):(Rtype.elem? 172).run Tryz.prog w= .ok (some 90) w:=by kernel_rfl
theorem asQ (p:Addr) (w:World):(ReflectliteValue.mk 90 p ReflectliteValue.flagAddr).run Tryz.prog w= .ok (.agg #[.pointer (some ⟨1,90,none⟩), .pointer (some p), .int .u64 386]) w:=by kernel_rfl
theorem aoG (a p:Addr) (W:World) (ha:W.cell? a=some (.pointer (some p))):
 (ReflectliteValue.method (ReflectliteValue.valueError "reflectlite.Value.Elem" 0) ReflectliteValue.elem #[.agg #[.pointer (some ⟨1,172,none⟩), .pointer (some a), .int .u64 150]]).run Tryz.prog W
  = .ok (.agg #[.pointer (some ⟨1,90,none⟩), .pointer (some p), .int .u64 386]) W:=by
 rw[arb];simp only[Sem.run_bind,ajE,Result.andThen];simp[ReflectliteValue.elem,loadVar,isAgg,underlying,Tryz.underlying172,ha,Result.andThen,amQ,asQ]
theorem asR (v x:Value):ReflectliteValue.set #[v,x]=(do
 let (some (dst,a,fl),some (src,b,_)):=(<-ReflectliteValue.parts v,<-ReflectliteValue.parts x)
  | unsupported (.noEntry "extern/(internal/reflectlite.Value).Set.zeroValue")
 if fl/ReflectliteValue.flagAddr%2==0 then unsupported (.noEntry "extern/(internal/reflectlite.Value).Set.unaddressable")
 let val<-loadVar src b
 if<-Rtype.directlyAssignable dst src then storeVar dst a val
 else if<-Rtype.implements dst src then
  if (<-Rtype.kind src)==20 then
   match val with
   | .nilIface=>unsupported (.noEntry "extern/reflectlite: a nil value of one interface type handed on as a value of another")
   | _=>storeVar dst a val
  else storeVar dst a (.iface src val)
 else panicString ("reflectlite.Set: value of type " ++(<-Rtype.spelt src)++ " is not assignable to type " ++(<-Rtype.spelt dst))
 pure (.tuple #[])):=rfl
theorem amR (a:Addr) (w:World):(ReflectliteValue.parts (.agg #[.pointer (some ⟨1,90,none⟩), .pointer (some a), .int .u64 386])).run Tryz.prog w= .ok (some (90,a,386)) w:=by kernel_rfl
theorem aoH (a:Addr) (w:World):(ReflectliteValue.parts (.agg #[.pointer (some ⟨1,90,none⟩), .pointer (some a), .int .u64 130])).run Tryz.prog w= .ok (some (90,a,130)) w:=by kernel_rfl
theorem amS (w:World):(Rtype.directlyAssignable 90 90).run Tryz.prog w= .ok true w:=by kernel_rfl
theorem ar8 (ta b:Addr) (k:Int) (old:Value) (W:World) (hb:W.cell? b=some (.int .i64 k)) (ht:W.cell? ta=some old) (hf:W.frozen? ta=false):
 (ReflectliteValue.set #[.agg #[.pointer (some ⟨1,90,none⟩), .pointer (some ta), .int .u64 386], .agg #[.pointer (some ⟨1,90,none⟩), .pointer (some b), .int .u64 130]]).run Tryz.prog W
  = .ok (.tuple #[]) (W.setCell ta (.int .i64 k)):=by
 rw[asR];simp only[Sem.run_bind,amR,aoH,Result.andThen];simp[ReflectliteValue.flagAddr,loadVar,isAgg,underlying,Tryz.underlying90,hb,Result.andThen,amS,storeVar,Value.cells,storeCells,Addr.add];rw[run_store Tryz.prog W ta _ _ (by rfl)];simp[ht,hf]
theorem asS (k:Int) (t:Addr) (old:Value) (w:World) (hg:ET w) (ht0:w.cell? t=some old) (hf0:w.frozen? t=false):
 Calls Tryz.prog 100 #[.iface 90 (.int .i64 k), .iface 172 (.pointer (some t))] w fun ev w'=>ev= .returned (.bool true)/\w'=((((w.alloc (.cells #[.pointer (some t)] 172)).alloc (.cells #[.pointer (some ⟨1,172,none⟩), .pointer (some ⟨w.heap.size,0,none⟩), .int .u64 150] 221)).alloc (.cells #[.pointer (some ⟨1,172,none⟩), .pointer (some ⟨w.heap.size,0,none⟩), .int .u64 150] 221)).alloc (.cells #[.int .i64 k] 90)).setCell t (.int .i64 k):=by
 unfold ET at hg;have h6:= @run_callFunc_extern Tryz.prog 155 _ (fun args=>ReflectliteValue.unpack (args.getD 0 (.tuple #[]))) Tryz.func155 (by kernel_rfl) (by kernel_rfl) (by kernel_rfl) (by kernel_rfl);have h7:= @run_callFunc_extern Tryz.prog 156 _ (ReflectliteValue.methodAny (ReflectliteValue.valueError "reflectlite.Value.Type" 0) (fun t _ _ _=>ReflectliteType.toType t)) Tryz.func156 (by kernel_rfl) (by kernel_rfl) (by kernel_rfl) (by kernel_rfl);have h8:= @run_callFunc_extern Tryz.prog 157 _ (ReflectliteValue.method (ReflectliteValue.valueError "reflectlite.Value.IsNil" 0) ReflectliteValue.isNil) Tryz.func157 (by kernel_rfl) (by kernel_rfl) (by kernel_rfl) (by kernel_rfl);have h27:= @run_callFunc_extern Tryz.prog 267 _ (ReflectliteType.abiMethod fun t=>do pure (.int .u8 (<-Rtype.kind t))) Tryz.func267 (by kernel_rfl) (by kernel_rfl) (by kernel_rfl) (by kernel_rfl);have h37:= @run_callFunc_extern Tryz.prog 278 _ (ReflectliteType.method ReflectliteType.elem) Tryz.func278 (by kernel_rfl) (by kernel_rfl) (by kernel_rfl) (by kernel_rfl);have h38:= @run_callFunc_extern Tryz.prog 279 _ (ReflectliteType.relation "Implements" ReflectliteType.implements_) Tryz.func279 (by kernel_rfl) (by kernel_rfl) (by kernel_rfl) (by kernel_rfl);have h10:= @run_callFunc_extern Tryz.prog 206 _ ReflectliteType.typeOf Tryz.func206 (by kernel_rfl) (by kernel_rfl) (by kernel_rfl) (by kernel_rfl);have h35:= @run_callFunc_extern Tryz.prog 276 _ (ReflectliteType.relation "AssignableTo" ReflectliteType.assignableTo) Tryz.func276 (by kernel_rfl) (by kernel_rfl) (by kernel_rfl) (by kernel_rfl);have h11:= @run_callFunc_extern Tryz.prog 212 _ (ReflectliteValue.method (ReflectliteValue.valueError "reflectlite.Value.Elem" 0) ReflectliteValue.elem) Tryz.func212 (by kernel_rfl) (by kernel_rfl) (by kernel_rfl) (by kernel_rfl);have h12:= @run_callFunc_extern Tryz.prog 213 _ ReflectliteValue.set Tryz.func213 (by kernel_rfl) (by kernel_rfl) (by kernel_rfl) (by kernel_rfl);have tO:=amO;have mA:=aem;have a25:=amP;have v25:=akK;have f6:=akJ;have f7:=aqA;have mK:=aiF;have mE:=aiG;have mI:=aeK;have k27:=aqB;have k25:=aqC;have e27:=aqD;have i25:=aqE;have n8:=aoF ⟨w.heap.size,0,none⟩ t ((w.alloc (.cells #[.pointer (some t)] 172)).alloc (.cells #[.pointer (some ⟨1,172,none⟩), .pointer (some ⟨w.heap.size,0,none⟩), .int .u64 150] 221)) (by simp);have hlt:0<w.heap.size:=by
  rcases Nat.eq_zero_or_pos w.heap.size with h0 | h
  · simp[World.cell?,h0]at hg
  · exact h
 have hg2:((w.alloc (.cells #[.pointer (some t)] 172)).alloc (.cells #[.pointer (some ⟨1,172,none⟩), .pointer (some ⟨w.heap.size,0,none⟩), .int .u64 150] 221)).cell? ⟨0,0,none⟩=some (.iface 271 (.agg #[.pointer (some ⟨1,31,none⟩)])):=by
  rw[World.cell?_alloc_lt _ _ ⟨0,0,none⟩ (by simp),World.cell?_alloc_lt _ _ ⟨0,0,none⟩ hlt];exact hg
 have htl:t.block<w.heap.size:=by
  rcases Nat.lt_or_ge t.block w.heap.size with h | h
  · exact h
  · simp[World.cell?,Array.getElem?_eq_none h]at ht0
 have el:=aoG ⟨w.heap.size,0,none⟩ t (((w.alloc (.cells #[.pointer (some t)] 172)).alloc (.cells #[.pointer (some ⟨1,172,none⟩), .pointer (some ⟨w.heap.size,0,none⟩), .int .u64 150] 221)).alloc (.cells #[.pointer (some ⟨1,172,none⟩), .pointer (some ⟨w.heap.size,0,none⟩), .int .u64 150] 221)) (by rw[World.cell?_alloc_lt _ _ ⟨w.heap.size,0,none⟩ (by simp;omega)];simp);have st:=ar8 t ⟨w.heap.size+1+1+1,0,none⟩ k old ((((w.alloc (.cells #[.pointer (some t)] 172)).alloc (.cells #[.pointer (some ⟨1,172,none⟩), .pointer (some ⟨w.heap.size,0,none⟩), .int .u64 150] 221)).alloc (.cells #[.pointer (some ⟨1,172,none⟩), .pointer (some ⟨w.heap.size,0,none⟩), .int .u64 150] 221)).alloc (.cells #[.int .i64 k] 90))
  (by rw[World.cell?_alloc_at _ _ _ _ (by simp)];rfl)
  (by rw[World.cell?_alloc_lt _ _ t (by simp;omega),World.cell?_alloc_lt _ _ t (by simp;omega),World.cell?_alloc_lt _ _ t (by simp;omega),World.cell?_alloc_lt _ _ t htl];exact ht0)
  (by rw[World.frozen?_alloc_old _ _ t (by simp;omega),World.frozen?_alloc_old _ _ t (by simp;omega),World.frozen?_alloc_old _ _ t (by simp;omega),World.frozen?_alloc_old _ _ t (Nat.ne_of_lt htl)];exact hf0)
 go_enter Tryz.func100,Tryz.ntmps100
 go_wp2
 refine wp_loop_rounds 1 ?_;rw[rounds_succ];go_wp2
 go_ret
 exact⟨rfl,rfl⟩
end Go.Proofs.YthnfclimjmmckaaGreatDoor
