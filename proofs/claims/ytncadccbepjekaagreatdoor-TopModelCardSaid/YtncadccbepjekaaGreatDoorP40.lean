/- Texts of mine, joined. -/
import Derived.Test.YtncadccbepjekaaGreatDoorP37
set_option maxRecDepth 100000
set_option maxHeartbeats 1000000
namespace Go.Proofs.YtncadccbepjekaaGreatDoor
open Go.RowKit
def PMade (base cap:Nat) (H:Hp) (w:World) (e:Ending) (w':World):Prop:=
 ∃q g A c bs,e= .returned (.tuple #[.pointer (some ⟨q,0,none⟩), .nilIface])/\PH w' q g base cap A c bs H/\Below w.heap.size w w'/\w.heap.size<=q/\w.heap.size<=g/\∀a,A=some a->w.heap.size<=a.block
section
variable {w w':World} {q g base cap c:Nat} {A:Option Addr} {bs out:List UInt8} {H H':Hp}
theorem asC (w:World) (base:Nat) (hb:base<18446744073709551616) (cap:Int) (hc: -9223372036854775808<=cap/\cap<=9223372036854775807) (h:base%16≠0\/4611686018427387904<base\/cap<1024\/16384<cap):
 Calls Tryz.prog 13 #[.int .u64 (base:Int), .int .i64 cap] w fun e w'=>e= .returned (.tuple #[.pointer none,aju 1])/\w=w':=by
 have HN:=hE0 (asU w base cap hb hc h);clear h;go_enter Tryz.func13,Tryz.ntmps13
 go_wp2_with fail
 refine HN.out.mono ?_;rintro e w2 ⟨rfl,rfl⟩;go_wp2
 go_ret2
 exact⟨rfl,rfl⟩
theorem auq (w:World) (z:List UInt8) (hz:List.replicate 184 (0:UInt8)=z) (base cap:Nat) (h1:base%16=0) (h2:base<=4611686018427387904) (h3:1024<=cap) (h4:cap<=16384):
 Calls Tryz.prog 13 #[.int .u64 (base:Int), .int .i64 (cap:Int)] w fun e w'=>∃q g A c,e= .returned (.tuple #[.pointer (some ⟨q,0,none⟩), .nilIface])/\PH w' q g base cap A c z (aez cap)/\Below w.heap.size w w'/\w.heap.size<=q/\w.heap.size<=g/\∀a,A=some a->w.heap.size<=a.block:=by
 have HZ:=hE0 (asg hz cap (by omega));have HN:=hE0 (ak2 w base cap h1 h2 h3 h4);have hG:∀W g c A,Ar W 195 g base cap A c []->Calls Tryz.prog 65 #[.pointer (some ⟨g,0,none⟩), .int .i64 184] W fun e w'=>e= .returned .nilIface/\Became 195 g base cap A z W w':=fun W g c A ha=>by
  have:=aiz ha 184 (by simp) h4 (by simp;omega);rw[List.nil_append,hz]at this;exact this
 have HG:=hE0 hG;clear hG hz;go_enter Tryz.func13,Tryz.ntmps13
 go_wp2_with fail
 refine HN.out.mono ?_;rintro e w2 ⟨rfl,ha,hb⟩;have HG2:=hE0 (HG.out w2 _ _ _ ha);have HB2:=hE0 hb;have HL2:=hE0 ha.lt;clear ha hb HG HN;go_wp2_with fail
 refine HG2.out.mono ?_;rintro e w3 ⟨rfl,A3,c3,a3,t3,m3⟩;have hft:∀k,foot w.heap.size none k->w.heap.size<=k:=fun k hk=>by
  rcases hk with rfl | ⟨a,e,_⟩
  · exact Nat.le_refl _
  · exact absurd e (by nofun)
 have hb3:Below w.heap.size w w3:=HB2.out.trans (t3.below hft HB2.out.size);have hA3:∀a,A3=some a->w.heap.size<=a.block:=fun a e=>by
  rcases m3 with h | h
  · rw[h]at e;cases e
  · exact Nat.le_trans HB2.out.size (h a e)
 obtain⟨w4,hw4⟩:=nmE (w3.alloc (.cells #[.pointer (some ⟨w.heap.size,0,none⟩)] 132));have hb4:=abE hw4;have n4:=anE hw4;have HF:Hid (∃q g A c,Ending.returned (.tuple #[.pointer (some ⟨w3.heap.size,0,none⟩), .nilIface])= .returned (.tuple #[.pointer (some ⟨q,0,none⟩), .nilIface])/\PH w4 q g base cap A c z (aez cap)/\Below w.heap.size w w4/\w.heap.size<=q/\w.heap.size<=g/\∀a,A=some a->w.heap.size<=a.block):=
  ⟨_,_,A3,c3,rfl,⟨n4,a3.below hb4,HZ.out,rfl,h4,h2⟩,hb3.trans (hb4.mono hb3.size),hb3.size,Nat.le_refl _,hA3⟩
 have HW4:=hE0 hw4;clear a3 t3 m3 hft hb3 hA3 hw4 hb4 n4 HG2 HB2 HL2;go_wp2_with (first | (rw[HW4.out]) | fail)
 go_ret2
 exact HF.out
theorem ahd (w:World) (base cap:Nat) (h1:base%16=0) (h2:base<=4611686018427387904) (h3:1024<=cap) (h4:cap<=16384):
 Calls Tryz.prog 13 #[.int .u64 (base:Int), .int .i64 (cap:Int)] w fun e w'=>PMade base cap (aez cap) w e w':=by
 refine(auq w _ rfl base cap h1 h2 h3 h4).mono ?_;rintro e w' ⟨q,g,A,c,h⟩;exact⟨q,g,A,c,_,h⟩
theorem asD (h:Ar w 195 g base cap A c bs) (hb:base<=4611686018427387904) (hc:cap<=16384) (hl:bs.length<=cap) (hk:ace bs=true):
 Calls Tryz.prog 156 #[.pointer (some ⟨g,0,none⟩)] w fun e w'=>∃H bs',PMade base cap H w e w'/\RtD bs' H/\bs'=bs/\∃q g A c,e= .returned (.tuple #[.pointer (some ⟨q,0,none⟩), .nilIface])/\PH w' q g base cap A c bs H:=by
 have hC:=as8 w g base cap c A bs _ h hb (by omega) hk;dsimp only[aav]at hC;obtain⟨H,hR,hcp⟩:=avf hk hl;have HC:=hE0 hC;have HCL:=hE0 (fun W (hb:Below w.heap.size w W)=>ajQ (h.below hb) (by omega));have HR:=hE0 hR;have HCP:=hE0 hcp;clear hC hR hcp h;go_enter Tryz.func156,Tryz.ntmps156
 go_wp2_with fail
 refine HC.out.mono ?_;rintro e w2 ⟨rfl,hb2⟩;have HC2:=hE0 (HCL.out w2 hb2);have HB2:=hE0 hb2;clear hb2 HC HCL;go_wp2_with fail
 refine HC2.out.mono ?_;rintro e w3 ⟨g3,A3,c3,rfl,a3,hb3,k1,k2⟩;obtain⟨w4,hw4⟩:=nmE (w3.alloc (.cells #[.pointer (some ⟨g3,0,none⟩)] 132));have hb4:=abE hw4;have n4:=anE hw4;have hb03:=HB2.out.trans (hb3.mono HB2.out.size);have hph:PH w4 w3.heap.size g3 base cap A3 c3 bs H:=⟨n4,a3.below hb4,HR.out,HCP.out,hc,hb⟩;have HF:Hid (PMade base cap H w (.returned (.tuple #[.pointer (some ⟨w3.heap.size,0,none⟩), .nilIface])) w4):=
  ⟨_,_,A3,c3,bs,rfl,hph,hb03.trans (hb4.mono hb03.size),hb03.size,Nat.le_trans HB2.out.size k1,fun a e=>Nat.le_trans HB2.out.size (k2 a e)⟩
 have HPH:=hE0 hph;have HW4:=hE0 hw4;clear a3 hb3 k1 k2 hw4 hb4 n4 hb03 hph HC2 HB2;go_wp2_with (first | (rw[HW4.out]) | fail)
 go_ret2
 exact⟨H,bs,HF.out,HR.out,rfl,_,_,_,_,rfl,HPH.out⟩
theorem aog (h:PH w q g base cap A c bs H):
 Calls Tryz.prog 35 #[.pointer (some ⟨q,0,none⟩)] w fun e w'=>asX base cap bs w e w':=by
 have HC:=hE0 (ajQ h.ar (by have:=h.len;omega));have k0:=h.c0;have hlq:=h.lt;clear h;go_enter Tryz.func35,Tryz.ntmps35
 go_wp2_with fail
 refine HC.out.mono ?_;rintro e w2 ⟨g2,A2,c2,rfl,h2⟩;have HF:=hE0 h2;clear h2 HC k0;go_wp2
 go_ret
 exact⟨g2,A2,c2,rfl,HF.out⟩
end
section
variable {H:Hp}
theorem aqH{n:Nat}{x:UInt8}:(H.get n x).2.cap=H.cap:=by
 unfold Hp.get;split
 · rfl
 · split
   · rfl
   · dsimp only;split
     · exact take_cap
     · exact take_cap
theorem aoh{n m:Nat}:(H.calloc n m).2.cap=H.cap:=by
 unfold Hp.calloc;split
 · rfl
 · exact aqH
theorem ama{p n:Nat}:(H.realloc p n).2.cap=H.cap:=by
 unfold Hp.realloc;split
 · rfl
 · split
   · rfl
   · split
     · dsimp only;split
       · exact resize_cap
       · exact resize_cap
     · exact resize_cap
theorem aqI{p:Nat}:(H.freeP p).2.cap=H.cap:=by
 unfold Hp.freeP;split
 · rfl
 · exact af2
theorem aoi{p a:Nat}{b:List UInt8}:(H.writeP p a b).2.cap=H.cap:=by
 unfold Hp.writeP;split
 · rfl
 · split<;>rfl
end
structure Hv (B:Nat) (w:World) (q g base cap:Nat) (A:Option Addr) (c:Nat) (bs:List UInt8) (H:Hp):Prop where
 ph:PH w q g base cap A c bs H
 qB:B<=q
 gB:B<=g
 aB:∀a,A=some a->B<=a.block
section
variable {B:Nat} {w w':World} {q g base cap c:Nat} {A:Option Addr} {bs:List UInt8} {H H':Hp}
theorem Hv.fB (h:Hv B w q g base cap A c bs H){k:Nat}(hk:foot g A k):B<=k:=by
 rcases hk with rfl | ⟨a,e,rfl⟩
 · exact h.gB
 · exact h.aB a e
theorem Hv.below (h:Hv B w q g base cap A c bs H) (hb:Below w.heap.size w w'):Hv B w' q g base cap A c bs H:=⟨h.ph.below hb,h.qB,h.gB,h.aB⟩
theorem Hv.turn (h:Hv B w q g base cap A c bs H) (hB:B<=w.heap.size) (ht:PTurn g base cap A H' w w') (hc:H'.cap=cap):∃A' c' bs',Hv B w' q g base cap A' c' bs' H'/\Tch (foot g A) w w'/\(A'=A\/∀a,A'=some a->w.heap.size<=a.block):=by
 obtain⟨A',c',out,h1,h2,h3⟩:=ht.ph h.ph hc;refine⟨A',c',out,⟨h1,h.qB,h.gB,fun a e=> ?_⟩,h2,h3⟩;rcases h3 with h3 | h3
 · exact h.aB a (h3▸e)
 · exact Nat.le_trans hB (h3 a e)
theorem Hv.low (h:Hv B w q g base cap A c bs H) (hB:B<=w.heap.size) (ht:Tch (foot g A) w w'):Below B w w':=ht.below (fun _ hk=>h.fB hk) hB
theorem PMade.hv{e:Ending}(h:PMade base cap H w e w'):∃q g A c bs,e= .returned (.tuple #[.pointer (some ⟨q,0,none⟩), .nilIface])/\Hv w.heap.size w' q g base cap A c bs H/\Below w.heap.size w w':=by
 obtain⟨q,g,A,c,bs,he,hp,hb,h1,h2,h3⟩:=h;exact⟨q,g,A,c,bs,he,⟨hp,h1,h2,h3⟩,hb⟩
end
def Oth (w:World) (k:Nat):Prop:=∃cs ty,w.heap[k]?=some (.cells cs ty (0,0))/\ty≠132/\ty≠195/\ty≠5
section
variable {B:Nat} {w w':World} {q g base cap c:Nat} {A:Option Addr} {bs:List UInt8} {H H':Hp} {k:Nat}
theorem PH.oth (h:PH w q g base cap A c bs H) (ho:Oth w k):¬(k=q\/foot g A k):=by
 obtain⟨cs,ty,hk,n1,n2,n3⟩:=ho;rintro(rfl | rfl | ⟨a,ea,rfl⟩)
 · have h1:=h.obj;rw[hk]at h1;injection h1 with h1;injection h1 with _ h2 _;exact n1 h2
 · have h1:=h.ar.obj;rw[hk]at h1;injection h1 with h1;injection h1 with _ h2 _;exact n2 h2
 · obtain⟨h',e,cur,hg,_⟩:=h.ar.row ea;subst e;rw[hk]at hg;injection hg with hg;injection hg with _ h2 _;exact n3 h2
theorem PH.keepO (h:PH w q g base cap A c bs H){S:Nat->Prop}(ht:Tch S w w') (hS:∀k,(k=q\/foot g A k)->¬S k):PH w' q g base cap A c bs H:=
 ⟨(ht.block q h.lt (hS q (.inl rfl))).trans h.obj,h.ar.tch ht (fun k hk=>hS k (.inr hk)),h.rd,h.cp,h.c16,h.b62⟩
theorem Hv.keepO (h:Hv B w q g base cap A c bs H){S:Nat->Prop}(ht:Tch S w w') (hS:∀k,(k=q\/foot g A k)->¬S k):Hv B w' q g base cap A c bs H:=⟨h.ph.keepO ht hS,h.qB,h.gB,h.aB⟩
theorem PH.locO (h:PH w q g base cap A c bs H) (ht:Tch (foot g A) w w'){cs:Array Value}{ty:TypeId}(hk:w.heap[k]?=some (.cells cs ty (0,0))) (n1:ty≠132) (n2:ty≠195) (n3:ty≠5):w'.heap[k]?=some (.cells cs ty (0,0)):=
 (ht.block k (aae hk) (fun hf=>h.oth ⟨cs,ty,hk,n1,n2,n3⟩ (.inr hf))).trans hk
theorem PH.ownO (h:PH w q g base cap A c bs H) (ht:Tch (foot g A) w w'){n:Nat}{ty:TypeId}{v:Value}{xs:List Value}(ho:w.ownsRow B ty 1 v n xs) (n1:ty≠132) (n2:ty≠195) (n3:ty≠5):w'.ownsRow B ty 1 v n xs:=by
 refine⟨ho.1,?_⟩;rcases ho.2 with h2 | ⟨g',cap',cur,hv,hg,hh,r⟩
 · exact .inl h2
 · exact .inr ⟨g',cap',cur,hv,hg,h.locO ht hh n1 n2 n3,r⟩
end
section
variable {B:Nat} {w w':World} {cap q1 g1 c1 q2 g2 c2:Nat} {A1 A2:Option Addr} {b1 b2:List UInt8} {H1 H2 H':Hp}
end
section
variable {H:Hp}
end
section
variable {bs:List UInt8} {H:Hp}
theorem atc (h:RtD bs H) (hc:H.cap<=16384) (n:Nat) (x:UInt8):(H.get n x).1.1<18446744073709551616:=by
 unfold Hp.get
 cases hs:acn n with
 | none=>exact Nat.zero_lt_succ _
 | some s=>
  dsimp only
  cases hq:(H.take s).1 with
  | none=>exact Nat.zero_lt_succ _
  | some o=>
   dsimp only;obtain⟨y,y1,y2,y3,y4,y5,y6⟩:=h.rt.what (ac3 hs) hq;have hok:=(h.rt.ok hc h.dl).take hc (ac3 hs);have hm:=(aak _ _ _ hok.tl).2 y y1;have:=hok.le;omega
theorem aqJ (h:RtD bs H) (hc:H.cap<=16384) (n m:Nat):(H.calloc n m).1.1<18446744073709551616:=by
 unfold Hp.calloc;split
 · exact Nat.zero_lt_succ _
 · exact atc h hc _ _
theorem aoj (h:RtD bs H) (hc:H.cap<=16384) (p n:Nat):(H.realloc p n).1.1<18446744073709551616:=by
 unfold Hp.realloc;split
 · exact Nat.zero_lt_succ _
 · cases hs:acn n with
   | none=>exact Nat.zero_lt_succ _
   | some s=>
    dsimp only;split
    · rename_i he;dsimp only;rcases aed he with e | e
      · rename_i hh;obtain⟨h8,h2,_⟩:=adv hh;omega
      · obtain⟨y,y1,y2,y3,y4,y5,y6⟩:=h.rt.what (ac3 hs) e;have hok:=(h.rt.ok hc h.dl).take hc (ac3 hs);have hm:=(aak _ _ _ hok.tl).2 y y1;have:=hok.le;omega
    · exact Nat.zero_lt_succ _
end
theorem aqK{w:World}{B n c:Nat}{A:Option Addr}{xs:List Value}(h:w.ownsRow B 25 1 (.slice A n c) n xs){k:Nat}(hk:(Value.slice A n c).ownBlock=some k):Oth w k:=by
 rcases h.2 with⟨h',_⟩ | ⟨g',cap',cur,hv,hg,hh,r⟩
 · injection h' with e _ _;subst e
   cases hk
 · injection hv with e _ _;subst e;have e2:g'=k:=by simpa[Value.ownBlock]using hk
   subst e2;exact⟨_,_,hh,by decide,by decide,by decide⟩
structure Hq where
 p:Nat
 A:Option Addr
 c:Nat
 b:List UInt8
def Hq.two (x:Hq):Nat × List UInt8:=(x.p,x.b)
def iB (x:UInt8):Value:= .int .i64 (x.toNat:Int)
def abc:List Hq->List Value
 | []=> []
 | x::r=> .int .u64 (x.p:Int):: .slice x.A x.b.length x.c::abc r
theorem afR:∀l:List Hq,(abc l).length=l.length*2
 | []=>rfl
 | x::r=>by simp[abc,afR r];omega
theorem aef (a b:List Hq):abc (a++b)=abc a++abc b:=by
 induction a with
 | nil=>rfl
 | cons x r ih=>simp[abc,ih]
theorem akM:∀(l:List Hq) (i:Nat) (x:Hq),l[i]?=some x->(abc l)[i*2]?=some (.int .u64 (x.p:Int))/\(abc l)[i*2+1]?=some (.slice x.A x.b.length x.c)
 | [],_,_,h=>by simp at h
 | y::r,0,x,h=>by
  simp at h;subst h;exact⟨rfl,rfl⟩
 | y::r,i+1,x,h=>by
  have:=akM r i x (by simpa using h);have e:(i+1)*2=i*2+1+1:=by omega
  rw[e];exact⟨by simpa[abc]using this.1,by simpa[abc]using this.2⟩
theorem aeg:∀(l:List Hq),∀u∈abc l,u.oneCell'=true
 | [],u,h=>by cases h
 | x::r,u,h=>by
  rcases List.mem_cons.1 h with rfl | h
  · rfl
  · rcases List.mem_cons.1 h with rfl | h
    · rfl
    · exact aeg r u h
def QRd (w:World) (A:Option Addr) (b:List UInt8):Prop:=0<b.length->∃(g:Nat) (cur:Array Value),A=some ⟨g,0,none⟩/\w.heap[g]?=some (.cells cur 3 (0,0))/\∀(j:Nat) (u:UInt8),b[j]?=some u->cur[j]?=some (iB u)
structure Hs (B:Nat) (w:World) (A:Option Addr) (c:Nat) (l:List Hq):Prop where
 own:w.ownsRow B 114 2 (.slice A l.length c) l.length (abc l)
 row:∀x∈l,QRd w x.A x.b
section
variable {B:Nat} {w w':World} {A:Option Addr} {c:Nat} {l:List Hq} {b:List UInt8}
theorem QRd.keep (h:QRd w A b) (hk:∀(k:Nat) (cs:Array Value),w.heap[k]?=some (.cells cs 3 (0,0))->w'.heap[k]?=w.heap[k]?):QRd w' A b:=fun hn=>by
 obtain⟨g,cur,e,hg,hc⟩:=h hn;exact⟨g,cur,e,(hk g cur hg).trans hg,hc⟩
theorem QRd.below (h:QRd w A b) (hb:Below w.heap.size w w'):QRd w' A b:=h.keep fun k _ hk=>hb.block k (aae hk)
theorem QRd.at_ (h:QRd w A b){j:Nat}{u:UInt8}(hu:b[j]?=some u):∃g,A=some ⟨g,0,none⟩/\w.cell? ⟨g,j,none⟩=some (iB u):=by
 obtain⟨g,cur,e,hg,hc⟩:=h (by have:=aau hu;omega);exact⟨g,e,(cell_of_row w g j _ _ (0,0) hg).trans (hc j u hu)⟩
theorem Hs.keep (h:Hs B w A c l) (hk:∀(k:Nat) (cs:Array Value) (ty:TypeId),w.heap[k]?=some (.cells cs ty (0,0))->ty=114\/ty=3->w'.heap[k]?=w.heap[k]?):Hs B w' A c l:=by
 refine⟨?_,fun x hx=>(h.row x hx).keep fun k cs h1=>hk k cs _ h1 (.inr rfl)⟩;refine⟨h.own.1,?_⟩;rcases h.own.2 with h2 | ⟨g,cap,cur,hv,hg,hh,r⟩
 · exact .inl h2
 · exact .inr ⟨g,cap,cur,hv,hg,(hk g cur _ hh (.inl rfl)).trans hh,r⟩
theorem Hs.below (h:Hs B w A c l) (hb:Below w.heap.size w w'):Hs B w' A c l:=h.keep fun k _ _ hk _=>hb.block k (aae hk)
theorem Hs.nil (B:Nat) (w:World):Hs B w none 0 []:=⟨World.ownsRow_nil _ _ _ _,fun x hx=>by cases hx⟩
theorem Hs.at_ (h:Hs B w A c l){i:Nat}{x:Hq}(hx:l[i]?=some x):∃g,A=some ⟨g,0,none⟩/\B<=g/\g<w.heap.size/\l.length<=c/\w.cell? ⟨g,i*2,none⟩=some (.int .u64 (x.p:Int))/\w.cell? ⟨g,i*2+1,none⟩=some (.slice x.A x.b.length x.c):=by
 have hi:i<l.length:=aau hx;have hf:=afR l;rcases h.own.2 with⟨_,h0⟩ | ⟨g,cap,cur,hv,hg,hh,hnc,_⟩
 · omega
 · injection hv with e1 _ e3;subst e1 e3;obtain⟨f0,f1⟩:=akM l i x hx;refine⟨g,rfl,hg,aae hh,hnc,?_,?_⟩
   · rw[h.own.cellAt _ (by omega)];exact f0
   · rw[h.own.cellAt _ (by omega)];exact f1
theorem Hs.heapO{q g base cap ch:Nat}{Ah:Option Addr}{bs:List UInt8}{H:Hp}(h:Hs B w A c l) (hp:PH w q g base cap Ah ch bs H) (ht:Tch (foot g Ah) w w'):Hs B w' A c l:=by
 refine h.keep fun k cs ty hk hty=> ?_;have:=hp.locO ht hk (by rcases hty with rfl | rfl<;>decide) (by rcases hty with rfl | rfl<;>decide) (by rcases hty with rfl | rfl<;>decide);rw[this,hk]
theorem Hs.cap (h:Hs B w A c l):l.length<=c/\c<=maxLen/\(A=none->c=0):=by
 rcases h.own.2 with⟨h',h0⟩ | ⟨g,cap,cur,hv,hg,hh,hnc,hcm,_⟩
 · injection h' with e1 e2 e3;subst e3;exact⟨by omega,Nat.zero_le _,fun _=>rfl⟩
 · injection hv with e1 e2 e3;subst e1 e3;exact⟨hnc,hcm,fun e=>by cases e⟩
end
theorem afC:∀(l:List Hq) (i:Nat),abc (l.take i)=(abc l).take (i*2)
 | [],i=>by simp[abc]
 | x::r,0=>by simp[abc]
 | x::r,i+1=>by
  have e:(i+1)*2=i*2+1+1:=by omega
  rw[e];simp[abc,afC r i]
theorem afD:∀(l:List Hq) (i:Nat),abc (l.drop i)=(abc l).drop (i*2)
 | [],i=>by simp[abc]
 | x::r,0=>by simp
 | x::r,i+1=>by
  have e:(i+1)*2=i*2+1+1:=by omega
  rw[e];simp[abc,afD r i]
theorem adK:(Tryz.prog.info? 114).map (fun i=>(i.zero,i.size,i.bytes))=some (some (.agg #[.int .u64 0, .slice none 0 0]),2,32):=by kernel_rfl
theorem aim (w:World):(Instr.buildSlice 110 0 #[]).run Tryz.prog w= .ok (.slice (some ⟨w.heap.size,0,none⟩) 0 0) (w.alloc (.cells #[] 114)):=by
 simp[go_sem]
section
variable {B:Nat} {w:World} {A:Option Addr} {c:Nat} {l:List Hq}
theorem Hs.nn (h:Hs B w A c l) (hn:0<l.length):∃g,A=some ⟨g,0,none⟩/\g<w.heap.size/\l.length<=c/\c<=maxLen:=by
 obtain⟨h1,h2,_⟩:=h.cap;rcases h.own.2 with⟨_,h0⟩ | ⟨g,cap,cur,hv,hg,hh,hnc,_⟩
 · omega
 · injection hv with e1 _ e3;exact⟨g,e1,aae hh,h1,h2⟩
theorem Hs.less{B':Nat}(h:Hs B w A c l) (hb:B'<=B):Hs B' w A c l:=⟨arS h.own hb,h.row⟩
theorem afE (h:Hs B w A c l) (hl:l.length<=1000) (p:Nat):
 Calls Tryz.prog 170 #[.slice A l.length c, .int .u64 (p:Int)] w fun e w'=>w=w'/\((e= .returned (.int .i64 (-1))/\∀x∈l,x.p≠p)\/∃(i:Nat) (x:Hq),e= .returned (.int .i64 (i:Int))/\l[i]?=some x/\x.p=p):=by
 obtain⟨n,hn⟩:=nmE l.length;have HN:=hE0 hn;have HS:=hE0 h;rw[hn]at hl ⊢;clear h hn;go_enter Tryz.func170,Tryz.ntmps170
 go_wp2
 go_loopw [5] (fun i wr=>∃j:Nat,i= .int .i64 (j:Int)/\j<=n/\(∀k x,k<j->l[k]?=some x->x.p≠p)/\w=wr) (fun i _=>n-(intOf i).toNat)
 case atStart=>exact⟨0,rfl,Nat.zero_le _,fun i x hi=>absurd hi (Nat.not_lt_zero _),rfl⟩
 case round=>
  obtain⟨j,rfl,hj,hs,rfl⟩:=hrel;by_cases hlt:j<n
  · obtain⟨x,hx⟩:∃x,l[j]?=some x:=⟨l[j]'(by rw[HN.out];exact hlt),List.getElem?_eq_getElem _⟩;obtain⟨g,rfl,_,_,_,c0,_⟩:=HS.out.at_ hx;have HX:=hE0 hx;have HP:=hE0 hs;clear hx hs;obtain⟨xp,hxp⟩:=nmE x.p;rw[hxp]at c0;by_cases he:xp=p
    · have g1:((xp:Int)==(p:Int))=true:=by rw[beq_iff_eq];omega
      have HR:=hE0 (hxp.trans he);clear hxp he;go_wp2_with fail
      go_ret
      exact⟨rfl, .inr ⟨j,x,rfl,HX.out,HR.out⟩⟩
    · have g1:((xp:Int)==(p:Int))=false:=by rw[beq_eq_false_iff_ne];omega
      have HR:Hid (x.p≠p):=by
       intro e;exact he (by omega)
      clear hxp he;go_wp2_with fail
      go_roundw
      case rel=>
       refine⟨j+1,by go_num,by omega,fun k y hk hy=> ?_,by first | rfl | trivial⟩;by_cases e:k=j
       · subst e;rw[HX.out]at hy;injection hy with hy;rw[<-hy];exact HR.out
       · exact HP.out k y (by omega) hy
      case measure=>simp[intOf];omega
  · have HP:=hE0 hs;obtain rfl:j=n:=by omega
    clear hs;go_wp2_with fail
    go_ret
    refine⟨rfl, .inl ⟨rfl,fun x hx=> ?_⟩⟩;obtain⟨k,hk⟩:=List.mem_iff_getElem?.1 hx;have:=aau hk;rw[HN.out]at this;exact HP.out k x this hk
theorem adF (h:Hs B w A c l) (i:Nat) (hi:i<l.length) (hl:l.length<=1000):
 Calls Tryz.prog 172 #[.slice A l.length c, .int .i64 (i:Int)] w fun e w'=>∃A' c',e= .returned (.slice A' (l.take i++l.drop (i+1)).length c')/\Hs w.heap.size w' A' c' (l.take i++l.drop (i+1))/\Below w.heap.size w w':=by
 obtain⟨g,rfl,hg,hnc,hcm⟩:=h.nn (by omega);obtain⟨n,hn⟩:=nmE l.length;have HN:=hE0 hn;have hown:=h.own;have HR:Hid (∀W,Below w.heap.size w W->∀x∈l.take i++l.drop (i+1),QRd W x.A x.b):=fun W hW x hx=>by
  refine(h.row x ?_).below hW;rcases List.mem_append.1 hx with hx | hx
  · exact List.mem_of_mem_take hx
  · exact List.mem_of_mem_drop hx
 rw[hn]at hi hl hnc hown ⊢;obtain⟨wd,hwd⟩:=nmE w.drew;have hbd:=adE hwd;have hsz:w.heap.size=wd.heap.size:=by rw[<-hwd];rfl
 have HBD:=hE0 hbd;have HSZ:=hE0 hsz;have hgd:g<wd.heap.size:=by omega
 have HWD:=hE0 hwd;have K1:=hE0 (aaw hown hbd);unfold maxLen at hcm;clear h hn hown hwd hbd hsz hg;by_cases hc1:c=i+1
 · have hin:(i:Int)+1<=(n:Int):=by omega
   obtain rfl:n=i+1:=by omega
   subst hc1;go_enter Tryz.func172,Tryz.ntmps172
   go_wp2_with fail
   refine aaD wd.heap.size (.one [1,2,3,5,6,7,8] 0 (.one [] 4 (.one [] 9 (.fin [10])))) [] (by kernel_rfl) (by kernel_rfl) (by kernel_rfl) (fun _ _ _ _ _ h=>h) ?_;rw[HWD.out];refine aax (l:= ?sega) ?hsega ?_
   case hsega=>simp only[pick,lE1,lE2,lE3];rfl
   repeat (go_big_quiet_step (fail))
   refine wpQuiet_nil ?_;obtain⟨x1,hx1⟩:=nmE (wd.alloc (.cells #[] 114));have bx1:=abE hx1;have ownx1:x1.ownsRow wd.heap.size 114 2 (.slice (some ⟨wd.heap.size,0,none⟩) 0 0) 0 []:=by rw[<-hx1];exact World.ownsRow_lit wd _ 0 (Nat.le_refl _) (by unfold maxLen;omega) rfl
   refine aas (some 5) (w1:=x1) (v:= .slice (some ⟨wd.heap.size,0,none⟩) 0 0) rfl rfl rfl (by rw[<-hx1];exact aaQ rfl rfl (aim wd)) bx1 ⟨wd.heap.size,Nat.le_refl _,?_⟩;simp only[Act.put,lE4,lE5,lE6];refine aax (l:= []) rfl ?_;refine wpQuiet_nil ?_;have s1:=((af8 K1.out 0 i (by omega) ⟨g,0,none⟩ (.inr (by rw[Nat.zero_mul]))).cap (c':=i+1)).below bx1 (fun a e=>by cases e;exact hgd);refine ab4 (some 9) (.tmp 5) (.tmp 8) 110 114 rfl rfl rfl rfl Tryz.underlying110 (.agg #[.int .u64 0, .slice none 0 0]) 2 32 adK rfl (by decide) wd.heap.size (.slice (some ⟨wd.heap.size,0,none⟩) 0 0) 0 [] rfl ownx1 (Nat.le_refl _) bx1.size (some ⟨g,0,none⟩) i (i+1) _ rfl ?la1 s1 ?oa1 (by omega) (by omega) ?_
   case la1=>have:=K1.out.1;rw[List.length_take,List.length_drop];omega
   case oa1=>exact fun u hu=>(aeg l) u (List.mem_of_mem_drop (List.mem_of_mem_take hu))
   intro y1 z1 owny1 bz1 _;have bz2:=bx1.trans bz1;refine⟨wd.heap.size,Nat.le_refl _,?_⟩;simp only[Act.put,lE4,lE5,lE6];refine aax (l:= []) rfl ?_;refine wpQuiet_nil ?_;have s2:=((af8 K1.out (i+1) 0 (by omega) ⟨g,0,none⟩ (.inl rfl)).cap (c':=0)).below bz2 (fun a e=>by cases e;exact hgd);refine ab4 (some 14) (.tmp 9) (.tmp 13) 110 114 rfl rfl rfl rfl Tryz.underlying110 (.agg #[.int .u64 0, .slice none 0 0]) 2 32 adK rfl (by decide) wd.heap.size y1 (0+i) _ rfl owny1 (Nat.le_refl _) bz2.size (some ⟨g,0,none⟩) 0 (0) _ rfl ?la2 s2 ?oa2 (by omega) (by omega) ?_
   case la2=>have:=K1.out.1;rw[List.length_take,List.length_drop];omega
   case oa2=>exact fun u hu=>(aeg l) u (List.mem_of_mem_drop (List.mem_of_mem_take hu))
   intro u1 v1 ownu1 bv1 _;have bv2:=bz2.trans bv1;rw[Nat.zero_add]at ownu1;refine⟨wd.heap.size,Nat.le_refl _,?_⟩;simp only[Act.put,lE4,lE5,lE6];obtain⟨uA,uc,rfl⟩:=adZ ownu1;have e1:i+0=(l.take i++l.drop (i+1)).length:=by have:=HN.out;rw[List.length_append,List.length_take,List.length_drop];omega
   have hrow:v1.ownsRow wd.heap.size 114 2 (.slice uA (l.take i++l.drop (i+1)).length uc) (l.take i++l.drop (i+1)).length (abc (l.take i++l.drop (i+1))):=by
    rw[<-e1,aef,afC,afD];have e:=ownu1;rw[Nat.zero_mul,List.drop_zero,List.nil_append,List.take_zero]at e;rw[List.drop_eq_nil_of_le (by have:=K1.out.1;omega)];exact e
   have HB:=hE0 (HBD.out.trans (by rw[HSZ.out];exact bv2));have HF:Hid (Hs w.heap.size v1 uA uc (l.take i++l.drop (i+1))):=⟨by rw[HSZ.out];exact hrow,HR.out v1 HB.out⟩;have HE1:=hE0 e1;clear e1 s1 s2 owny1 ownx1 ownu1 bx1 bz1 bv1 hx1 hrow bz2 bv2;refine aaW (l:= ?laa) (t:= []) ?hlaa rfl ?_
   case hlaa=>simp only[pick,lE1,lE2,lE3];rfl
   repeat (go_big_quiet_step (fail))
   refine wpQuiet_nil ?_;go_wp2_with fail
   go_ret
   exact⟨uA,uc,by rw[<-HE1.out];rfl,HF.out,HB.out⟩
 · have hin:(i:Int)+1<=(n:Int):=by omega
   have hcn:((c:Int)==(i:Int)+1)=false:=by rw[beq_eq_false_iff_ne];omega
   go_enter Tryz.func172,Tryz.ntmps172
   go_wp2_with fail
   refine aaD wd.heap.size (.one [1,2,3,5,6,7,8] 0 (.one [] 4 (.one [] 9 (.fin [10])))) [] (by kernel_rfl) (by kernel_rfl) (by kernel_rfl) (fun _ _ _ _ _ h=>h) ?_;rw[HWD.out];refine aax (l:= ?segb) ?hsegb ?_
   case hsegb=>simp only[pick,lE1,lE2,lE3];rfl
   repeat (go_big_quiet_step (fail))
   refine wpQuiet_nil ?_;obtain⟨x1,hx1⟩:=nmE (wd.alloc (.cells #[] 114));have bx1:=abE hx1;have ownx1:x1.ownsRow wd.heap.size 114 2 (.slice (some ⟨wd.heap.size,0,none⟩) 0 0) 0 []:=by rw[<-hx1];exact World.ownsRow_lit wd _ 0 (Nat.le_refl _) (by unfold maxLen;omega) rfl
   refine aas (some 5) (w1:=x1) (v:= .slice (some ⟨wd.heap.size,0,none⟩) 0 0) rfl rfl rfl (by rw[<-hx1];exact aaQ rfl rfl (aim wd)) bx1 ⟨wd.heap.size,Nat.le_refl _,?_⟩;simp only[Act.put,lE4,lE5,lE6];refine aax (l:= []) rfl ?_;refine wpQuiet_nil ?_;have s1:=((af8 K1.out 0 i (by omega) ⟨g,0,none⟩ (.inr (by rw[Nat.zero_mul]))).cap (c':=c)).below bx1 (fun a e=>by cases e;exact hgd);refine ab4 (some 9) (.tmp 5) (.tmp 8) 110 114 rfl rfl rfl rfl Tryz.underlying110 (.agg #[.int .u64 0, .slice none 0 0]) 2 32 adK rfl (by decide) wd.heap.size (.slice (some ⟨wd.heap.size,0,none⟩) 0 0) 0 [] rfl ownx1 (Nat.le_refl _) bx1.size (some ⟨g,0,none⟩) i (c) _ rfl ?lb1 s1 ?ob1 (by omega) (by omega) ?_
   case lb1=>have:=K1.out.1;rw[List.length_take,List.length_drop];omega
   case ob1=>exact fun u hu=>(aeg l) u (List.mem_of_mem_drop (List.mem_of_mem_take hu))
   intro y1 z1 owny1 bz1 _;have bz2:=bx1.trans bz1;refine⟨wd.heap.size,Nat.le_refl _,?_⟩;simp only[Act.put,lE4,lE5,lE6];refine aax (l:= []) rfl ?_;refine wpQuiet_nil ?_;have s2:=((af8 K1.out (i+1) (n-(i+1)) (by omega) ⟨g,(i+1)*2,none⟩ (.inr rfl)).cap (c':=c-(i+1))).below bz2 (fun a e=>by cases e;exact hgd);refine ab4 (some 14) (.tmp 9) (.tmp 13) 110 114 rfl rfl rfl rfl Tryz.underlying110 (.agg #[.int .u64 0, .slice none 0 0]) 2 32 adK rfl (by decide) wd.heap.size y1 (0+i) _ rfl owny1 (Nat.le_refl _) bz2.size (some ⟨g,(i+1)*2,none⟩) (n-(i+1)) ((c-(i+1))) _ rfl ?lb2 s2 ?ob2 (by omega) (by omega) ?_
   case lb2=>have:=K1.out.1;rw[List.length_take,List.length_drop];omega
   case ob2=>exact fun u hu=>(aeg l) u (List.mem_of_mem_drop (List.mem_of_mem_take hu))
   intro u1 v1 ownu1 bv1 _;have bv2:=bz2.trans bv1;rw[Nat.zero_add]at ownu1;refine⟨wd.heap.size,Nat.le_refl _,?_⟩;simp only[Act.put,lE4,lE5,lE6];obtain⟨uA,uc,rfl⟩:=adZ ownu1;have e1:i+(n-(i+1))=(l.take i++l.drop (i+1)).length:=by have:=HN.out;rw[List.length_append,List.length_take,List.length_drop];omega
   have hrow:v1.ownsRow wd.heap.size 114 2 (.slice uA (l.take i++l.drop (i+1)).length uc) (l.take i++l.drop (i+1)).length (abc (l.take i++l.drop (i+1))):=by
    rw[<-e1,aef,afC,afD];have e:=ownu1;rw[Nat.zero_mul,List.drop_zero,List.nil_append,List.take_of_length_le (i:=(n-(i+1))*2) (by have:=K1.out.1;rw[List.length_drop];omega)]at e;exact e
   have HB:=hE0 (HBD.out.trans (by rw[HSZ.out];exact bv2));have HF:Hid (Hs w.heap.size v1 uA uc (l.take i++l.drop (i+1))):=⟨by rw[HSZ.out];exact hrow,HR.out v1 HB.out⟩;have HE1:=hE0 e1;clear e1 s1 s2 owny1 ownx1 ownu1 bx1 bz1 bv1 hx1 hrow bz2 bv2;refine aaW (l:= ?lab) (t:= []) ?hlab rfl ?_
   case hlab=>simp only[pick,lE1,lE2,lE3];rfl
   repeat (go_big_quiet_step (fail))
   refine wpQuiet_nil ?_;go_wp2_with fail
   go_ret
   exact⟨uA,uc,by rw[<-HE1.out];rfl,HF.out,HB.out⟩
end
def am7 (A:Option Addr) (k:Nat):Prop:=∃a,A=some a/\a.block=k
def MdT (B:Nat) (A:Option Addr) (L:List (Nat × List UInt8)) (w:World) (e:Ending) (w':World):Prop:=
 ∃A' c' l',e= .returned (.tuple #[.slice A' l'.length c', .int .i64 1])/\Hs B w' A' c' l'/\l'.map Hq.two=L/\Tch (am7 A) w w'
def Lm (l:List Hq):Prop:=∀x∈l,x.p<=16384/\x.b.length<=16384
section
variable {B:Nat} {w:World} {A:Option Addr} {c:Nat} {l:List Hq}
theorem am8 (h:Hs B w A c l) (hl:l.length<=1000) (p:Nat):
 Calls Tryz.prog 170 #[.slice A l.length c, .int .u64 (p:Int)] w fun e w'=>w=w'/\∃r:Int,e= .returned (.int .i64 r):=by
 refine(afE h hl p).mono ?_;rintro e w' ⟨h1,⟨h2,_⟩ | ⟨i,x,h2,_⟩⟩
 · exact⟨h1,_,h2⟩
 · exact⟨h1,_,h2⟩
theorem aur (h:Hs B w A c l) (hl:l.length<=1000) (p:Nat) (hn:∀x∈l,x.p≠p):
 Calls Tryz.prog 170 #[.slice A l.length c, .int .u64 (p:Int)] w fun e w'=>w=w'/\e= .returned (.int .i64 (-1)):=by
 refine(afE h hl p).mono ?_;rintro e w' ⟨h1,⟨h2,_⟩ | ⟨i,x,_,h3,h4⟩⟩
 · exact⟨h1,h2⟩
 · exact absurd h4 (hn x (List.mem_of_getElem? h3))
theorem afS (h:Hs B w A c l) (hl:l.length<=1000){i:Nat}{x:Hq}(hx:l[i]?=some x) (hu:(l.map Hq.p).Nodup):
 Calls Tryz.prog 170 #[.slice A l.length c, .int .u64 (x.p:Int)] w fun e w'=>w=w'/\e= .returned (.int .i64 (i:Int)):=by
 refine(afE h hl x.p).mono ?_;rintro e w' ⟨h1,⟨_,h2⟩ | ⟨j,y,h2,h3,h4⟩⟩
 · exact absurd rfl (h2 x (List.mem_of_getElem? hx))
 · have hpw:=List.pairwise_iff_getElem.1 hu;have l1:=aau hx;have l2:=aau h3;have e1:l[i]=x:=by rw[List.getElem?_eq_getElem l1]at hx;exact Option.some.inj hx
   have e2:l[j]=y:=by rw[List.getElem?_eq_getElem l2]at h3;exact Option.some.inj h3
   have hij:j=i:=by
    rcases Nat.lt_trichotomy i j with h | h | h
    · exact absurd (by rw[List.getElem_map,List.getElem_map,e1,e2];exact h4.symm) (hpw i j (by rw[List.length_map];exact l1) (by rw[List.length_map];exact l2) h)
    · exact h.symm
    · exact absurd (by rw[List.getElem_map,List.getElem_map,e1,e2];exact h4) (hpw j i (by rw[List.length_map];exact l2) (by rw[List.length_map];exact l1) h)
   subst hij;exact⟨h1,h2⟩
theorem afj (h:Hs B w A c l) (hl:l.length<=1000) (hlm:Lm l) (p n cap:Nat) (hp:p%16=0) (hpc:p+n<=cap) (hc:cap<=16384) (hap:∀x∈l,x.p+x.b.length<=p\/p+n<=x.p):
 Calls Tryz.prog 171 #[.slice A l.length c, .int .u64 (p:Int), .int .i64 (n:Int), .int .i64 (cap:Int)] w fun e w'=>e= .returned (.bool true)/\Below w.heap.size w w':=by
 obtain⟨k,hk⟩:=nmE l.length;have HN:=hE0 hk;have HS:=hE0 h;have HM:Hid (∀x∈l,x.p<=16384/\x.b.length<=16384):=hlm;have HAP:Hid (∀x∈l,x.p+x.b.length<=p\/p+n<=x.p):=hap;have g1:((p:Int)%16 !=0)=false:=by rw[bne_eq_false_iff_eq];omega
 have g1n:(p%16 !=0)=false:=by rw[hp];rfl
 have g2:decide ((cap:Int)<(p:Int))=false:=decide_eq_false (by omega);have g2n:decide (cap<p)=false:=decide_eq_false (by omega);have g3:decide ((cap:Int)<(p:Int)+(n:Int))=false:=decide_eq_false (by omega);have g3n:decide (cap<p+n)=false:=decide_eq_false (by omega);rw[hk]at hl ⊢;clear h hk hlm hap hp;go_enter Tryz.func171,Tryz.ntmps171
 go_wp2_with fail
 clear g1 g1n g2 g2n g3 g3n;go_loopw [9] (fun i wr=>∃j:Nat,i= .int .i64 (j:Int)/\j<=k/\Below w.heap.size w wr) (fun i _=>k-(intOf i).toNat)
 case atStart=>exact⟨0,rfl,Nat.zero_le _,Below.refl _ _⟩
 case round=>
  obtain⟨j,rfl,hj,hb⟩:=hrel;have HB:=hE0 hb;clear hb;by_cases hlt:j<k
  · obtain⟨x,hx⟩:∃x,l[j]?=some x:=⟨l[j]'(by rw[HN.out];exact hlt),List.getElem?_eq_getElem _⟩;obtain⟨g,rfl,_,hg,_,c0,c1⟩:=(HS.out.below HB.out).at_ hx;obtain⟨m1,m2⟩:=HM.out x (List.mem_of_getElem? hx);have hap:=HAP.out x (List.mem_of_getElem? hx);obtain⟨xp,hxp⟩:=nmE x.p;obtain⟨xn,hxn⟩:=nmE x.b.length;rw[hxp]at c0 m1 hap;rw[hxn]at c1 m2 hap;clear hx hxp hxn;by_cases h1:xp<p+n
    · have e1:decide ((xp:Int)<(p:Int)+(n:Int))=true:=decide_eq_true (by omega);have e1n:decide (xp<p+n)=true:=decide_eq_true h1;have e2:decide ((p:Int)<(xp:Int)+(xn:Int))=false:=decide_eq_false (by omega);have e2n:decide (p<xp+xn)=false:=decide_eq_false (by omega);go_wp2_with fail
      go_quiet (fail)
      go_wp2
      go_roundw
      case rel=>exact⟨j+1,by go_num,by omega,HB.out.trans ((abN _ _).mono HB.out.size)⟩
      case measure=>simp only[intOf];omega
    · have e1:decide ((xp:Int)<(p:Int)+(n:Int))=false:=decide_eq_false (by omega);have e1n:decide (xp<p+n)=false:=decide_eq_false h1;go_wp2_with fail
      go_quiet (fail)
      go_wp2
      go_roundw
      case rel=>exact⟨j+1,by go_num,by omega,HB.out.trans ((abN _ _).mono HB.out.size)⟩
      case measure=>simp only[intOf];omega
  · go_wp2_with fail
    go_ret
    exact⟨rfl,HB.out⟩
theorem ahe (h:Hs B w A c l) (hl:l.length<=1000) (qv:Value) (capv:Value) (xh cn cm ca:Nat) (xA:Option Addr) (bl xc:Nat) (rh rn:Nat) (rA:Option Addr) (rbl rc s0 s1 s2 s3 s4:Nat) (op:Nat) (h3:3<=op) (h7:op<=7) (hno:∀x∈l,x.p≠xh):
 Calls Tryz.prog 107 #[qv, .slice A l.length c, .agg #[.int .i64 (op:Int), .int .u64 (xh:Int), .int .u64 (cn:Int), .int .u64 (cm:Int), .int .u64 (ca:Int), .slice xA bl xc], .agg #[.int .i64 (4), .int .u64 (rh:Int), .int .u64 (rn:Int), .slice rA rbl rc, .int .i64 (s0:Int), .int .i64 (s1:Int), .int .i64 (s2:Int), .int .i64 (s3:Int), .int .i64 (s4:Int)],capv] w fun e w'=>MdT B A (l.map Hq.two) w e w':=by
 have g1:decide ((3:Int)<=(op:Int))=true:=decide_eq_true (by omega);have g1n:decide (3<=op)=true:=decide_eq_true h3;have g2:decide ((op:Int)<=(7:Int))=true:=decide_eq_true (by omega);have g2n:decide (op<=7)=true:=decide_eq_true h7;obtain⟨w1,ha1,n1,b1⟩:=acv w 43 (.int .i64 (op:Int)) (.int .u64 (xh:Int)) (.int .u64 (cn:Int)) (.int .u64 (cm:Int)) (.int .u64 (ca:Int)) (.slice xA bl xc);obtain⟨w2,ha2,n2,b2⟩:=abx w1 50 (.int .i64 (4)) (.int .u64 (rh:Int)) (.int .u64 (rn:Int)) (.slice rA rbl rc) (.int .i64 (s0:Int)) (.int .i64 (s1:Int)) (.int .i64 (s2:Int)) (.int .i64 (s3:Int)) (.int .i64 (s4:Int));have HB2:=hE0 (b1.out.trans (b2.out.mono b1.out.size));have m1:=hE0 ((b2.out.block _ (aaa n1.out)).trans n1.out);have HS2:=hE0 (h.below HB2.out);obtain⟨⟨c0,c1,c2,c3,c4,c5⟩,_,hlc⟩:=aa4 m1.out;obtain⟨⟨r0,r1,r2,r3,_⟩,_,hlr⟩:=aaS n2.out;have HF:=hE0 (aur HS2.out hl xh hno);obtain⟨n,hn⟩:=nmE l.length;have HN:=hE0 hn;rw[hn]at HF hl ⊢;clear h hn;go_enter Tryz.func107,Tryz.ntmps107
 go_wp2_with (first | (rw[ha1.out]) | (rw[ha2.out]) | fail)
 refine HF.out.mono ?_;rintro e w' ⟨rfl,rfl⟩;go_wp2_with fail
 go_ret2
 exact⟨A,c,l,by rw[HN.out];rfl,HS2.out,rfl,Tch.of_below HB2.out⟩
theorem aes{P:Prop}(h:P:=by
 have HB2:=hE0 (b1.out.trans (b2.out.mono b1.out.size));have m1:=hE0 ((b2.out.block _ (aaa n1.out)).trans n1.out);have HS2:=hE0 (h.below HB2.out);obtain⟨⟨c0,c1,c2,c3,c4,c5⟩,_,hlc⟩:=aa4 m1.out;obtain⟨⟨r0,r1,r2,r3,_⟩,_,hlr⟩:=aaS n2.out;have HF:=hE0 (am8 HS2.out hl xh);obtain⟨n,hn⟩:=nmE l.length;have HN:=hE0 hn;rw[hn]at HF hl ⊢;clear h hn;go_enter Tryz.func107,Tryz.ntmps107
 go_wp2_with (first | (rw[ha1.out]) | (rw[ha2.out]) | fail)
 refine HF.out.mono ?_;rintro e w' ⟨rfl,r,rfl⟩;go_wp2_with fail
 go_ret2
 exact⟨A,c,l,by rw[HN.out];rfl,HS2.out,rfl,Tch.of_below HB2.out⟩
 ):P:=h
theorem aqL (h:Hs B w A c l) (hl:l.length<=1000) (qv:Value) (capv:Value) (xh cn cm ca:Nat) (xA:Option Addr) (bl xc:Nat) (rh rn:Nat) (rA:Option Addr) (rbl rc s0 s1 s2 s3 s4:Nat):
 Calls Tryz.prog 107 #[qv, .slice A l.length c, .agg #[.int .i64 (1), .int .u64 (xh:Int), .int .u64 (cn:Int), .int .u64 (cm:Int), .int .u64 (ca:Int), .slice xA bl xc], .agg #[.int .i64 (5), .int .u64 (rh:Int), .int .u64 (rn:Int), .slice rA rbl rc, .int .i64 (s0:Int), .int .i64 (s1:Int), .int .i64 (s2:Int), .int .i64 (s3:Int), .int .i64 (s4:Int)],capv] w fun e w'=>MdT B A (l.map Hq.two) w e w':=by
 obtain⟨w1,ha1,n1,b1⟩:=acv w 43 (.int .i64 (1)) (.int .u64 (xh:Int)) (.int .u64 (cn:Int)) (.int .u64 (cm:Int)) (.int .u64 (ca:Int)) (.slice xA bl xc);obtain⟨w2,ha2,n2,b2⟩:=abx w1 50 (.int .i64 (5)) (.int .u64 (rh:Int)) (.int .u64 (rn:Int)) (.slice rA rbl rc) (.int .i64 (s0:Int)) (.int .i64 (s1:Int)) (.int .i64 (s2:Int)) (.int .i64 (s3:Int)) (.int .i64 (s4:Int));exact aes
theorem akN (h:Hs B w A c l) (hl:l.length<=1000) (qv:Value) (capv:Value) (xh cn cm ca:Nat) (xA:Option Addr) (bl xc:Nat) (rh rn:Nat) (rA:Option Addr) (rbl rc s0 s1 s2 s3 s4:Nat):
 Calls Tryz.prog 107 #[qv, .slice A l.length c, .agg #[.int .i64 (2), .int .u64 (xh:Int), .int .u64 (cn:Int), .int .u64 (cm:Int), .int .u64 (ca:Int), .slice xA bl xc], .agg #[.int .i64 (5), .int .u64 (rh:Int), .int .u64 (rn:Int), .slice rA rbl rc, .int .i64 (s0:Int), .int .i64 (s1:Int), .int .i64 (s2:Int), .int .i64 (s3:Int), .int .i64 (s4:Int)],capv] w fun e w'=>MdT B A (l.map Hq.two) w e w':=by
 obtain⟨w1,ha1,n1,b1⟩:=acv w 43 (.int .i64 (2)) (.int .u64 (xh:Int)) (.int .u64 (cn:Int)) (.int .u64 (cm:Int)) (.int .u64 (ca:Int)) (.slice xA bl xc);obtain⟨w2,ha2,n2,b2⟩:=abx w1 50 (.int .i64 (5)) (.int .u64 (rh:Int)) (.int .u64 (rn:Int)) (.slice rA rbl rc) (.int .i64 (s0:Int)) (.int .i64 (s1:Int)) (.int .i64 (s2:Int)) (.int .i64 (s3:Int)) (.int .i64 (s4:Int));exact aes
theorem aqM (h:Hs B w A c l) (hl:l.length<=1000) (qv:Value) (capv:Value) (xh cn cm ca:Nat) (xA:Option Addr) (bl xc:Nat) (rh rn:Nat) (rA:Option Addr) (rbl rc s0 s1 s2 s3 s4:Nat) (code:Int):
 Calls Tryz.prog 107 #[qv, .slice A l.length c, .agg #[.int .i64 (0), .int .u64 (xh:Int), .int .u64 (cn:Int), .int .u64 (cm:Int), .int .u64 (ca:Int), .slice xA bl xc], .agg #[.int .i64 (code), .int .u64 (rh:Int), .int .u64 (rn:Int), .slice rA rbl rc, .int .i64 (s0:Int), .int .i64 (s1:Int), .int .i64 (s2:Int), .int .i64 (s3:Int), .int .i64 (s4:Int)],capv] w fun e w'=>MdT B A (l.map Hq.two) w e w':=by
 obtain⟨w1,ha1,n1,b1⟩:=acv w 43 (.int .i64 (0)) (.int .u64 (xh:Int)) (.int .u64 (cn:Int)) (.int .u64 (cm:Int)) (.int .u64 (ca:Int)) (.slice xA bl xc);obtain⟨w2,ha2,n2,b2⟩:=abx w1 50 (.int .i64 (code)) (.int .u64 (rh:Int)) (.int .u64 (rn:Int)) (.slice rA rbl rc) (.int .i64 (s0:Int)) (.int .i64 (s1:Int)) (.int .i64 (s2:Int)) (.int .i64 (s3:Int)) (.int .i64 (s4:Int));exact aes
theorem aqN (h:Hs B w A c l) (hl:l.length<=1000) (qv:Value) (capv:Value) (xh cn cm ca:Nat) (xA:Option Addr) (bl xc:Nat) (rh rn:Nat) (rA:Option Addr) (rbl rc s0 s1 s2 s3 s4:Nat) (code:Int):
 Calls Tryz.prog 107 #[qv, .slice A l.length c, .agg #[.int .i64 (8), .int .u64 (xh:Int), .int .u64 (cn:Int), .int .u64 (cm:Int), .int .u64 (ca:Int), .slice xA bl xc], .agg #[.int .i64 (code), .int .u64 (rh:Int), .int .u64 (rn:Int), .slice rA rbl rc, .int .i64 (s0:Int), .int .i64 (s1:Int), .int .i64 (s2:Int), .int .i64 (s3:Int), .int .i64 (s4:Int)],capv] w fun e w'=>MdT B A (l.map Hq.two) w e w':=by
 obtain⟨w1,ha1,n1,b1⟩:=acv w 43 (.int .i64 (8)) (.int .u64 (xh:Int)) (.int .u64 (cn:Int)) (.int .u64 (cm:Int)) (.int .u64 (ca:Int)) (.slice xA bl xc);obtain⟨w2,ha2,n2,b2⟩:=abx w1 50 (.int .i64 (code)) (.int .u64 (rh:Int)) (.int .u64 (rn:Int)) (.slice rA rbl rc) (.int .i64 (s0:Int)) (.int .i64 (s1:Int)) (.int .i64 (s2:Int)) (.int .i64 (s3:Int)) (.int .i64 (s4:Int));exact aes
theorem aok (h:Hs B w A c l) (hl:l.length<=1000) (qv:Value) (capv:Value) (xh cn cm ca:Nat) (xA:Option Addr) (bl xc:Nat) (rh rn:Nat) (rA:Option Addr) (rbl rc s0 s1 s2 s3 s4:Nat){i:Nat}{x:Hq}(hx:l[i]?=some x) (hu:(l.map Hq.p).Nodup) (hxh:x.p=xh):
 Calls Tryz.prog 107 #[qv, .slice A l.length c, .agg #[.int .i64 (4), .int .u64 (xh:Int), .int .u64 (cn:Int), .int .u64 (cm:Int), .int .u64 (ca:Int), .slice xA bl xc], .agg #[.int .i64 (5), .int .u64 (rh:Int), .int .u64 (rn:Int), .slice rA rbl rc, .int .i64 (s0:Int), .int .i64 (s1:Int), .int .i64 (s2:Int), .int .i64 (s3:Int), .int .i64 (s4:Int)],capv] w fun e w'=>MdT B A (l.map Hq.two) w e w':=by
 obtain⟨w1,ha1,n1,b1⟩:=acv w 43 (.int .i64 (4)) (.int .u64 (xh:Int)) (.int .u64 (cn:Int)) (.int .u64 (cm:Int)) (.int .u64 (ca:Int)) (.slice xA bl xc);obtain⟨w2,ha2,n2,b2⟩:=abx w1 50 (.int .i64 (5)) (.int .u64 (rh:Int)) (.int .u64 (rn:Int)) (.slice rA rbl rc) (.int .i64 (s0:Int)) (.int .i64 (s1:Int)) (.int .i64 (s2:Int)) (.int .i64 (s3:Int)) (.int .i64 (s4:Int));have HB2:=hE0 (b1.out.trans (b2.out.mono b1.out.size));have m1:=hE0 ((b2.out.block _ (aaa n1.out)).trans n1.out);have HS2:=hE0 (h.below HB2.out);obtain⟨⟨c0,c1,c2,c3,c4,c5⟩,_,hlc⟩:=aa4 m1.out;obtain⟨⟨r0,r1,r2,r3,_⟩,_,hlr⟩:=aaS n2.out;have HF:=hE0 (by have:=afS HS2.out hl hx hu;rw[hxh]at this;exact this);obtain⟨n,hn⟩:=nmE l.length;have HN:=hE0 hn;rw[hn]at HF hl ⊢;clear h hn;go_enter Tryz.func107,Tryz.ntmps107
 go_wp2_with (first | (rw[ha1.out]) | (rw[ha2.out]) | fail)
 refine HF.out.mono ?_;rintro e w' ⟨rfl,rfl⟩;go_wp2_with fail
 go_ret2
 exact⟨A,c,l,by rw[HN.out];rfl,HS2.out,rfl,Tch.of_below HB2.out⟩
theorem aus (hBw:B<=w.heap.size) (h:Hs B w A c l) (hl:l.length<=1000) (qv:Value) (capv:Value) (xh cn cm ca:Nat) (xA:Option Addr) (bl xc:Nat) (rh rn:Nat) (rA:Option Addr) (rbl rc s0 s1 s2 s3 s4:Nat){i:Nat}{x:Hq}(hx:l[i]?=some x) (hu:(l.map Hq.p).Nodup) (hxh:x.p=xh):
 Calls Tryz.prog 107 #[qv, .slice A l.length c, .agg #[.int .i64 (3), .int .u64 (xh:Int), .int .u64 (cn:Int), .int .u64 (cm:Int), .int .u64 (ca:Int), .slice xA bl xc], .agg #[.int .i64 (0), .int .u64 (rh:Int), .int .u64 (rn:Int), .slice rA rbl rc, .int .i64 (s0:Int), .int .i64 (s1:Int), .int .i64 (s2:Int), .int .i64 (s3:Int), .int .i64 (s4:Int)],capv] w fun e w'=>MdT B A ((l.take i++l.drop (i+1)).map Hq.two) w e w':=by
 have HBW:Hid (B<=w.heap.size):=hBw;have HX:=hE0 hx;obtain⟨w1,ha1,n1,b1⟩:=acv w 43 (.int .i64 (3)) (.int .u64 (xh:Int)) (.int .u64 (cn:Int)) (.int .u64 (cm:Int)) (.int .u64 (ca:Int)) (.slice xA bl xc);obtain⟨w2,ha2,n2,b2⟩:=abx w1 50 (.int .i64 (0)) (.int .u64 (rh:Int)) (.int .u64 (rn:Int)) (.slice rA rbl rc) (.int .i64 (s0:Int)) (.int .i64 (s1:Int)) (.int .i64 (s2:Int)) (.int .i64 (s3:Int)) (.int .i64 (s4:Int));have HB2:=hE0 (b1.out.trans (b2.out.mono b1.out.size));have m1:=hE0 ((b2.out.block _ (aaa n1.out)).trans n1.out);have HS2:=hE0 (h.below HB2.out);obtain⟨⟨c0,c1,c2,c3,c4,c5⟩,_,hlc⟩:=aa4 m1.out;obtain⟨⟨r0,r1,r2,r3,_⟩,_,hlr⟩:=aaS n2.out;have HF:=hE0 (by have:=afS HS2.out hl hx hu;rw[hxh]at this;exact this);obtain⟨n,hn⟩:=nmE l.length;have HN:=hE0 hn;rw[hn]at HF hl ⊢;clear h hn;go_enter Tryz.func107,Tryz.ntmps107
 go_wp2_with (first | (rw[ha1.out]) | (rw[ha2.out]) | fail)
 refine HF.out.mono ?_;rintro e w' ⟨rfl,rfl⟩;have HW:=hE0 (adF HS2.out i (aau HX.out) (by rw[HN.out];exact hl));rw[HN.out]at HW;obtain⟨L,hL⟩:=nmE (l.take i++l.drop (i+1));rw[hL]at HW;have HLQ:=hE0 hL;clear HF hL;go_wp2_with fail
 refine HW.out.mono ?_;rintro e w3 ⟨A',c',rfl,h3,b3⟩;have H3:=hE0 h3;have HB3:=hE0 (HB2.out.trans (b3.mono HB2.out.size));clear h3 b3 HW;go_wp2_with fail
 go_ret2
 exact⟨A',c',L,rfl,H3.out.less (Nat.le_trans HBW.out HB2.out.size),by rw[<-HLQ.out],Tch.of_below HB3.out⟩
theorem avp (h:Hs B w A c l) (hl:l.length<=1000) (qv:Value) (capv:Value) (xh cn cm ca:Nat) (xA:Option Addr) (bl xc:Nat) (rh rn:Nat) (rA:Option Addr) (rbl rc s0 s1 s2 s3 s4:Nat){i:Nat}{x:Hq}(hx:l[i]?=some x) (hu:(l.map Hq.p).Nodup) (hxh:x.p=xh) (hxn:x.b.length=rn) (hrn:rn<=16384):
 Calls Tryz.prog 107 #[qv, .slice A l.length c, .agg #[.int .i64 (5), .int .u64 (xh:Int), .int .u64 (cn:Int), .int .u64 (cm:Int), .int .u64 (ca:Int), .slice xA bl xc], .agg #[.int .i64 (0), .int .u64 (rh:Int), .int .u64 (rn:Int), .slice rA rbl rc, .int .i64 (s0:Int), .int .i64 (s1:Int), .int .i64 (s2:Int), .int .i64 (s3:Int), .int .i64 (s4:Int)],capv] w fun e w'=>MdT B A (l.map Hq.two) w e w':=by
 have HX:=hE0 hx;have HXN:=hE0 hxn;clear hxn;obtain⟨w1,ha1,n1,b1⟩:=acv w 43 (.int .i64 (5)) (.int .u64 (xh:Int)) (.int .u64 (cn:Int)) (.int .u64 (cm:Int)) (.int .u64 (ca:Int)) (.slice xA bl xc);obtain⟨w2,ha2,n2,b2⟩:=abx w1 50 (.int .i64 (0)) (.int .u64 (rh:Int)) (.int .u64 (rn:Int)) (.slice rA rbl rc) (.int .i64 (s0:Int)) (.int .i64 (s1:Int)) (.int .i64 (s2:Int)) (.int .i64 (s3:Int)) (.int .i64 (s4:Int));have HB2:=hE0 (b1.out.trans (b2.out.mono b1.out.size));have m1:=hE0 ((b2.out.block _ (aaa n1.out)).trans n1.out);have HS2:=hE0 (h.below HB2.out);obtain⟨⟨c0,c1,c2,c3,c4,c5⟩,_,hlc⟩:=aa4 m1.out;obtain⟨⟨r0,r1,r2,r3,_⟩,_,hlr⟩:=aaS n2.out;have HF:=hE0 (by have:=afS HS2.out hl hx hu;rw[hxh]at this;exact this);obtain⟨n,hn⟩:=nmE l.length;have HN:=hE0 hn;rw[hn]at HF hl ⊢;clear h hn;go_enter Tryz.func107,Tryz.ntmps107
 go_wp2_with (first | (rw[ha1.out]) | (rw[ha2.out]) | fail)
 refine HF.out.mono ?_;rintro e w' ⟨rfl,rfl⟩;obtain⟨g,rfl,_,hg,_,d0,d1⟩:=HS2.out.at_ HX.out;rw[HXN.out]at d1;have hin:i<n:=by rw[<-HN.out];exact aau HX.out
 clear HF d0;go_wp2_with fail
 go_quiet (fail)
 go_wp2
 go_ret2
 exact⟨_,c,l,by rw[HN.out];rfl,HS2.out.below (abN _ _),rfl,Tch.of_below (HB2.out.trans ((abN _ _).mono HB2.out.size))⟩
end
end Go.Proofs.YtncadccbepjekaaGreatDoor
