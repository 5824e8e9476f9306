/- Texts of mine, joined. -/
import Derived.Test.YtncadccbepjekaaGreatDoorP15
import Derived.Test.YtncadccbepjekaaGreatDoorP19
set_option maxRecDepth 100000
set_option maxHeartbeats 2000000
namespace Go.Proofs.YtncadccbepjekaaGreatDoor
open Go.RowKit
theorem aqc{g n s:Nat}(hg:g<18446744073709551616) (hn:n<18446744073709551616) (hs:s<4294967296):slG (abQ g n s)=g/\slN (abQ g n s)=n/\slS (abQ g n s)=s:=by
 have hm:slMark.length=8:=rfl;have l8:∀v,(aaJ 8 v).length=8:=fun v=>aag 8 v;have l4:∀v,(aaJ 4 v).length=4:=fun v=>aag 4 v;have e:abQ g n s=slMark++(aaJ 8 g++(aaJ 8 n++(aaJ 4 s++(ahO (abt g n s)++List.replicate 480 0)))):=by
  unfold abQ;obtain⟨X,hX⟩:=nmE (ahO (abt g n s));rw[hX];unfold abt;simp only[List.append_assoc]
 have d8:(abQ g n s).drop 8=aaJ 8 g++(aaJ 8 n++(aaJ 4 s++(ahO (abt g n s)++List.replicate 480 0))):=by rw[e,<-hm,List.drop_left]
 have d16:(abQ g n s).drop 16=aaJ 8 n++(aaJ 4 s++(ahO (abt g n s)++List.replicate 480 0)):=by
  rw[show(16:Nat)=8+8 from rfl,<-List.drop_drop,d8];have:=List.drop_left (l₁:=aaJ 8 g) (l₂:=aaJ 8 n++(aaJ 4 s++(ahO (abt g n s)++List.replicate 480 0)));rw[l8]at this;exact this
 have d24:(abQ g n s).drop 24=aaJ 4 s++(ahO (abt g n s)++List.replicate 480 0):=by
  rw[show(24:Nat)=16+8 from rfl,<-List.drop_drop,d16];have:=List.drop_left (l₁:=aaJ 8 n) (l₂:=aaJ 4 s++(ahO (abt g n s)++List.replicate 480 0));rw[l8]at this;exact this
 have tk:∀(k:Nat) (x y:List UInt8),x.length=k->(x++y).take k=x:=fun k x y h=>by rw[<-h,List.take_left]
 refine⟨?_,?_,?_⟩
 · unfold slG;rw[d8,tk 8 _ _ (l8 g),acm,Nat.mod_eq_of_lt hg]
 · unfold slN;rw[d16,tk 8 _ _ (l8 n),acm,Nat.mod_eq_of_lt hn]
 · unfold slS;rw[d24,tk 4 _ _ (l4 s),acm,Nat.mod_eq_of_lt hs]
theorem alN:avM:=by
 intro w g base cap c A bs x h hb hl hx;by_cases h0:bs.length<184
 · obtain rfl:none=x:=by rw[<-hx];unfold abI;rw[if_pos h0]
   have HL:=hE0 (abO h);clear hx;go_enter Tryz.func60,Tryz.ntmps60
   go_wp2_with fail
   with_reducible refine HL.out.mono ?_
   rintro e w2 ⟨rfl,rfl⟩;go_wp2
   go_ret2
   exact⟨none,0,rfl,World.ownsRow_nil _ _ _ _,Below.refl _ _⟩
 · have hx':ac7 bs (bs.length+1) 184=x:=by rw[<-hx];unfold abI;rw[if_neg h0]
   obtain⟨i0,hi,hz0,hz1,hz2⟩:=info_parts auT;have HX:=hE0 hx';have HAR:=hE0 h;have HBASE:=hE0 hb;have HL:=hE0 (abO h);obtain⟨B0,hB0⟩:=nmE w.heap.size;have HB0:=hE0 hB0;clear hx hx' h hB0 hb;go_enter Tryz.func60,Tryz.ntmps60
   go_wp2_with fail
   with_reducible refine HL.out.mono ?_
   rintro e w2 ⟨rfl,rfl⟩;go_wp2
   go_loopw [4,5] (fun q t wr=>∃(l:List Bk) (o k:Nat),t= .int .i64 (o:Int)/\184<=o/\o<=bs.length/\bs.length<o+k/\l.length*32<=o/\x=(ac7 bs k o).map (l++ ·)/\wr.ownsRow B0 112 3 q l.length (acW l)/\Below B0 w wr) (fun _ t _=>bs.length-(intOf t).toNat)
   case atStart=>exact⟨[],184,bs.length+1,rfl,Nat.le_refl _,by omega,by omega,by simp,by rw[HX.out];simp,World.ownsRow_nil _ _ _ _,Below.refl _ _⟩
   case round=>
    obtain⟨l,o,k,rfl,ho1,ho2,hk,hll,hxl,hown,hb⟩:=hrel;obtain⟨A7,c7,rfl⟩:=adZ hown;obtain⟨k,rfl⟩:∃k',k=k'+1:=⟨k-1,by omega⟩;have hBw:B0<=wr.heap.size:=by have:=hb.size;have:=HB0.out;omega
    have har:=HAR.out.below (by rw[HB0.out];exact hb);have HLR:=hE0 (abO har);by_cases hlt:o<bs.length
    · cases hg:aa8 bs (o:Int)with
      | none=>
       have hG:=alD wr g base cap c A bs (o:Int) _ har HBASE.out hl (by omega) hg;dsimp only[aaE,bkV,Option.isSome,aav]at hG;obtain rfl:x=none:=by rw[hxl];simp[ac7,hlt,hg]
       have HG:=hE0 hG;have HB:=hE0 hb;clear hG hown hb hg hxl har HX HAR;go_wp2_with fail
       with_reducible refine HLR.out.mono ?_
       rintro e w2 ⟨rfl,rfl⟩;go_wp2_with fail
       with_reducible refine HG.out.mono ?_
       rintro e w2 ⟨rfl,hb2⟩;have HB2:=hE0 (HB.out.trans (hb2.mono hBw));clear hb2;go_wp2
       go_ret2
       exact⟨none,0,rfl,World.ownsRow_nil _ _ _ _,by rw[HB0.out];exact HB2.out.alloc (by have:=HB2.out.size;have:=HB0.out;omega) _⟩
      | some y=>
       obtain⟨yo,ys,yu⟩:=y;obtain⟨q1,_,_,q2,q3,_⟩:=aay hg;dsimp only at q1 q2 q3;obtain rfl:o=yo:=by omega
       have q4:=(aab _).1 q3;have hG:=alD wr g base cap c A bs (o:Int) _ har HBASE.out hl (by omega) hg;dsimp only[aaE,bkV,Bk.val,Option.isSome,aav]at hG;have hxl':x=(ac7 bs k (o+ys)).map ((l++ [⟨o,ys,yu⟩])++ ·):=by
        rw[hxl];simp[ac7,hlt,hg,Option.map_map,Function.comp_def]
       have HG:=hE0 hG;have HB:=hE0 hb;have HXL:=hE0 hxl';have HOWN:=hE0 hown;have HALT:Hid (∀k,(Value.slice A7 l.length c7).ownBlock=some k->B0<=k/\k<wr.heap.size):=hown.lt;clear hG hown hb hg hxl hxl' har q1 q3 HX HAR;go_wp2_with fail
       with_reducible refine HLR.out.mono ?_
       rintro e w2 ⟨rfl,rfl⟩;go_wp2_with fail
       with_reducible refine HG.out.mono ?_
       rintro e w2 ⟨rfl,hb2⟩;have own2:=aaw HOWN.out hb2;have HB2:=hE0 (HB.out.trans (hb2.mono hBw));have hw2:B0<=w2.heap.size:=Nat.le_trans hBw hb2.size;have hwr:=hb2.size;obtain⟨w3,hw3⟩:=nmE (w2.alloc (.cells #[.int .i64 (o:Int), .int .i64 (ys:Int), .bool yu] 112));obtain⟨w4,hw4⟩:=nmE (w3.alloc (.cells #[.int .i64 (o:Int), .int .i64 (ys:Int), .bool yu] 112));have b3:=abE hw3;have b4:=abE hw4;have own4:=aaw (aaw own2 b3) b4;have n4:=anE hw4;have s3:w3.heap.size=w2.heap.size+1:=by rw[<-hw3];simp
       have n3:=anE hw3;obtain⟨⟨d0,d1,d2⟩,_⟩:=aad n3;have n4':=(b4.block _ (aac n3)).trans n3;have HNEW:Hid (∀j u,[Value.int .i64 (o:Int), .int .i64 (ys:Int), .bool yu][j]?=some u->w4.cell? ((⟨w3.heap.size,0,none⟩:Addr).add j)=some u):=fun j u hu=>by
        have e:(⟨w3.heap.size,0,none⟩:Addr).add j=⟨w3.heap.size,j,none⟩:=by unfold Addr.add;split<;>simp_all
        rw[e,cell_of_row w4 _ j _ _ (0,0) n4];simpa using hu
       have HONE:Hid (∀u∈ [Value.int .i64 (o:Int), .int .i64 (ys:Int), .bool yu],u.oneCell'=true):=fun u hu=>by
        simp at hu;rcases hu with rfl | rfl | rfl<;>rfl
       have hB4:B0<=w4.heap.size:=by have:=b4.size;omega
       have HB4:=hE0 (HB2.out.trans ((b3.trans (b4.mono b3.size)).mono hw2));have OWN4:=hE0 own4;have HN4:=hE0 n4';have hs4:w3.heap.size<w4.heap.size:=aac n4;have HS3:=hE0 s3;have HFL:Hid (acW (l++ [⟨o,ys,yu⟩])=acW l++ [.int .i64 (o:Int), .int .i64 (ys:Int), .bool yu]):=ajU _ _;have hg2:w2.heap.size<w4.heap.size:=aac n4';clear own2 own4 n3 n4 n4' b3 b4 hb2 HOWN HG s3;go_wp2_with (first
        | (at_builtin;go_must (refine wpList_append_own _ rfl _ _ 56 rfl B0 112 i0 _ 3 24 Tryz.underlying56 hi hz0 hz1 hz2 rfl (by decide) _ l.length (acW l) rfl OWN4.out ⟨w3.heap.size,0,none⟩ 1 1 [.int .i64 (o:Int), .int .i64 (ys:Int), .bool yu] rfl rfl HNEW.out HONE.out (by unfold maxLen;omega) (by omega) hB4 ?_);intro x5 w5 own5 gr5 at5
           have gr5':w4.grownBy w5 (Value.slice A7 l.length c7).ownBlock:=gr5;have e5:=(gr5'.block _ hg2 (fun e=>by have:=(HALT.out _ e.symm).2;omega)).trans HN4.out;obtain⟨⟨c0,c1,c2⟩,_⟩:=aad e5;have HB5:Hid (Below B0 w w5):=HB4.out.grown gr5' hB4 (fun k hk=>(HALT.out k hk).1);have OWN5:Hid (w5.ownsRow B0 112 3 x5 (l.length+1) (acW (l++ [⟨o,ys,yu⟩]))):=(show World.ownsRow _ _ _ _ _ _ _ by rw[HFL.out];exact own5);clear own5 gr5 gr5' at5 e5)
        | fail)
       go_roundw
       case rel=>exact⟨l++ [⟨o,ys,yu⟩],o+ys,k,by go_num,by omega,by omega,by omega,by rw[List.length_append,List.length_singleton];omega,HXL.out,by rw[List.length_append,List.length_singleton];exact OWN5.out,HB5.out⟩
       case measure=>simp[intOf];omega
    · obtain rfl:o=bs.length:=by omega
      obtain rfl:x=some l:=by rw[hxl];simp[ac7]
      have HB:=hE0 hb;have HO:=hE0 hown;clear hxl hown hb HX har HAR;go_wp2_with fail
      with_reducible refine HLR.out.mono ?_
      rintro e w2 ⟨rfl,rfl⟩;go_wp2
      go_ret2
      exact⟨A7,c7,rfl,by rw[HB0.out];exact HO.out,by rw[HB0.out];exact HB.out⟩
section
variable {bs:List UInt8} {H:Hp} {i s:Nat} {x:Bk}
theorem aqd (hi:i+1<H.blks.length) (h1:x≠aal H.blks i) (h2:x≠aal H.blks (i+1)) (hx:x∈H.blks):x∈(H.join i).blks:=by
 obtain⟨j,hj⟩:=List.mem_iff_getElem?.1 hx;have e1:j≠i:=fun e=>by subst e;exact h1 (aaX hj).symm
 have e2:j≠i+1:=fun e=>by subst e;exact h2 (aaX hj).symm
 rw[acs H hi];rcases Nat.lt_or_ge j i with h | h
 · exact List.mem_append_left _ (List.mem_of_getElem? ((List.getElem?_take_of_lt h).trans hj))
 · refine List.mem_append_right _ (List.mem_cons_of_mem _ ?_);refine List.mem_of_getElem? (i:=j-(i+2)) ?_;rw[List.getElem?_drop,show i+2+(j-(i+2))=j by omega];exact hj
theorem akr (hi:i<H.blks.length) (hx:x∈H.blks) (hu:x.used=true) (hne:x≠aal H.blks i):x∈(H.widen i).blks:=by
 cases hn:acG H.blks i with
 | true=>
  rw[(aem hn).1];refine aqd (H:=H.out (i+1)) (aeI hn) hne (fun e=> ?_) hx;have e:x=aal H.blks (i+1):=e;rw[e,akj hn]at hu
  cases hu
 | false=>rw[(aen hn hi).1];exact hx
theorem acx{l:List Bk}{o:Int}{i:Nat}(h:aa3 l o=some i):i<l.length/\((aal l i).off:Int)=o/\(aal l i).used=true:=by
 unfold aa3 at h;split at h
 · cases h
 · rename_i j hj;split at h
   · rename_i hu;injection h with h;subst h;exact⟨(afJ hj).1,(afJ hj).2,hu⟩
   · cases h
theorem ach{p o:Int}:(H.moveD p o).blks=H.blks:=by unfold Hp.moveD;split<;>rfl
theorem aks{o:Int}(hx:x∈H.blks) (hu:x.used=true) (hne:(x.off:Int)≠o):x∈((H.giveO o).getD H).blks:=by
 unfold Hp.giveO
 cases h:aa3 H.blks o with
 | none=>exact hx
 | some j=>
  obtain⟨h1,h2,_⟩:=acx h;exact ai0 h1 hx hu (fun e=>hne (by rw[e];exact h2))
theorem Rt.rezMem (h:Rt bs H) (hok:H.Ok) (hs:aaG (s:Int)=true){o:Int}(hx:x∈H.blks) (hu:x.used=true) (hne:(x.off:Int)≠o):x∈(H.resize o s).2.blks:=by
 unfold Hp.resize;split
 · exact hx
 · rename_i i hi;obtain⟨h1,h2,h3⟩:=acx hi;have hxi:x≠aal H.blks i:=fun e=>hne (by rw[e];exact h2);split
   · exact alF hok.tl h1 hs hx hu hxi
   · have hw:=hok.widen h1;have hxw:x≠aal (H.widen i).blks i:=fun e=>by
      rw[hw.2.2]at e;exact hne (by rw[e];exact h2)
     split
     · exact alF hw.1.tl hw.2.1 hs (akr h1 hx hu hxi) hu hxw
     · split
       · exact adg (l:=(H.widen i).blks) (akr h1 hx hu hxi) hxw
       · split
         · exact hx
         · refine aks (H:=(H.take s).2.moveD _ o) ?_ hu hne;rw[ach];exact afb hok.tl hs (fun j hj=>by obtain⟨a,_,c⟩:=h.found hs hj;exact⟨a,c⟩) hx hu
theorem Rt.rezHas (h:Rt bs H) (hok:H.Ok) (hs:aaG (s:Int)=true){o:Int}(he:(H.resize o s).1.2=0):∃y∈(H.resize o s).2.blks,y.used=true/\y.off=(H.resize o s).1.1/\s<=y.size:=by
 unfold Hp.resize at he ⊢;split
 · rename_i hn;rw[hn]at he
   cases he
 · rename_i i hi;obtain⟨h1,h2,h3⟩:=acx hi;rw[hi]at he;dsimp only at he ⊢;split
   · rename_i hle;obtain⟨y,a,b,c,d,_⟩:=alE h1 hle;exact⟨y,a,c,b,d⟩
   · rename_i hlt;rw[if_neg hlt]at he;have hw:=hok.widen h1;split
     · rename_i hb;obtain⟨y,a,b,c,d,_⟩:=alE (H:=H.widen i) (s:=s) hw.2.1 (by rw[hw.2.2];exact hb);rw[hw.2.2]at b;exact⟨y,a,c,b,d⟩
     · rename_i hb;rw[if_neg hb]at he;split
       · have hat:((H.widen i).size i s).blks[i]?=some {aal (H.widen i).blks i with size:=s}:=List.getElem?_set_self hw.2.1;rw[hw.2.2]at hat;exact⟨_,List.mem_of_getElem? hat,h3,rfl,Nat.le_refl _⟩
       · rename_i hg;rw[if_neg hg]at he;split
         · rename_i hn;rw[hn]at he
           cases he
         · rename_i q hq;obtain⟨y,a,b,c,d,_,ap⟩:=h.what hs hq;refine⟨y,?_,c,b,d⟩;refine aks (H:=(H.take s).2.moveD (q:Int) o) (by rw[ach];exact a) c (fun e=> ?_);have hap:=ap _ (List.mem_of_getElem? (aat h1)) h3;have hsz:=(aab _).1 (hok.sz h1);have hss:=(aab _).1 hs;omega
end
def aja (H:Hp) (bs:List UInt8) (o:Int) (H':Hp) (out:List UInt8) (p:Nat):Prop:=
 ∀x∈H.blks,x.used=true->(x.off:Int)=o->∀y∈H'.blks,y.used=true->y.off=p->∀i,8<=i->i+8<x.size->i+8<y.size->out[p+i]?=bs[x.off+i]?
def Hp.One (H:Hp):Prop:=∀(a b:Nat) (x y:Bk),H.blks[a]?=some x->H.blks[b]?=some y->x.off=y.off->a=b
theorem Rt.one{bs:List UInt8}{H:Hp}(h:Rt bs H):H.One:=fun a b x y ha hb e=>by
 have hpw:=List.pairwise_iff_getElem.1 (adW _ _ _ (aaj h.walk).2.1);have e1:H.blks[a]'(aau ha)=x:=by have:=List.getElem?_eq_getElem (aau ha);rw[ha]at this;exact(Option.some.inj this).symm
 have e2:H.blks[b]'(aau hb)=y:=by have:=List.getElem?_eq_getElem (aau hb);rw[hb]at this;exact(Option.some.inj this).symm
 rcases Nat.lt_trichotomy a b with h' | h' | h'
 · exact absurd (by rw[e1,e2];exact e) (hpw a b (aau ha) (aau hb) h')
 · exact h'
 · exact absurd (by rw[e1,e2];exact e.symm) (hpw b a (aau hb) (aau ha) h')
section
variable {H:Hp} {i j k s:Nat} {x:Bk} {d:Dt}
theorem ajb (h:(H.widen i).At j x d):∃j' x0,H.At j' x0 d/\x0.off=x.off/\x0.used=x.used/\(j=i->j'=i)/\(j≠i->j'≠i/\x0=x):=by
 unfold Hp.widen at h;obtain⟨x0,h1,h2,h3,h4⟩:=agS h;unfold Hp.swallow at h1;split at h1
 · obtain⟨j',c1,h1,c2,c3⟩:=apQ h1;exact⟨j',x0,⟨h1.1,h1.2⟩,h2,h3,fun e=>by rw[c2 (by omega),e],fun e=>⟨by
    rcases Nat.lt_or_ge j (i+1)with hh | hh
    · rw[c2 hh];exact e
    · rw[c3 hh];omega,h4 e⟩⟩
 · exact⟨j,x0,h1,h2,h3,id,fun e=>⟨e,h4 e⟩⟩
theorem ase{p o:Int}(h:(H.moveD p o).At j x d):(H.At j x d/\∀ip io,atB p H.blks=some ip->atB o H.blks=some io->j≠ip)\/((x.off:Int)=p/\∃io xo,atB o H.blks=some io/\H.blks[io]?=some xo/\d=H.ds.getD io acc):=by
 unfold Hp.moveD at h;split at h
 · rename_i ip io h1 h2;obtain⟨a,b⟩:=h;have b:(H.ds.set ip (H.ds.getD io acc))[j]?=some d:=b;have a':H.blks[j]?=some x:=a;by_cases e:j=ip
   · subst e;have hl:j<H.ds.length:=by
      have:=aau b;rwa [List.length_set]at this
     rw[List.getElem?_set_self hl]at b;injection b with b;obtain⟨x1,e1,e2⟩:=abM h1;obtain⟨x2,e3,_⟩:=abM h2;obtain rfl:x=x1:=Option.some.inj (a'.symm.trans e1);exact .inr ⟨e2,io,x2,h2,e3,b.symm⟩
   · rw[List.getElem?_set_ne (fun e'=>e e'.symm)]at b;exact .inl ⟨⟨a',b⟩,fun ip' io' h3 _=>by rw[h1]at h3;injection h3 with h3;rw[<-h3];exact e⟩
 · rename_i hn;exact .inl ⟨h,fun ip io h1 h2=>absurd h2 (hn ip io h1)⟩
theorem asf{o:Int}(h:((H.giveO o).getD H).At j x d) (hu:x.used=true):∃j',H.At j' x d/\∀i,aa3 H.blks o=some i->j'≠i:=by
 unfold Hp.giveO at h
 cases hi:aa3 H.blks o with
 | none=>rw[hi]at h;exact⟨j,h,fun i hh=>by cases hh⟩
 | some i=>
  rw[hi]at h;obtain⟨j',e,h'⟩:=ai1 (acx hi).1 h hu;exact⟨j',h',fun i' hh=>by injection hh with hh;rw[<-hh];exact e⟩
theorem afd (hd:H.Dl){o:Int}(h0:H.One) (he:(H.resize o s).1.2=0) (hfr:∀i,H.find s=some i->i<H.blks.length/\(aal H.blks i).used=false) (hone:(H.take s).2.One)
 (hmv:∀i q,aa3 H.blks o=some i->(H.take s).1=some q->(∃iq,atB (q:Int) (H.take s).2.blks=some iq)/\∃io x0,atB o (H.take s).2.blks=some io/\aa3 (H.take s).2.blks o=some io/\(H.take s).2.blks[io]?=some x0/\x0.used=true/\x0.off≠q)
 (h:(H.resize o s).2.At j x d) (hu:x.used=true):∃j' x0,H.At j' x0 d/\x0.used=true/\((x0=x/\(x0.off:Int)≠o)\/((x0.off:Int)=o/\x.off=(H.resize o s).1.1)):=by
 unfold Hp.resize at h he ⊢;split at h
 · rename_i hn;rw[hn]at he
   cases he
 · rename_i i hi;rw[hi]at he;obtain⟨h1,h2,h3⟩:=acx hi;have hoth:∀j' x0,H.blks[j']?=some x0->j'≠i->(x0.off:Int)≠o:=fun j' x0 a e e'=>e (h0 j' i x0 _ a (aat h1) (by omega));have hat:∀x0,H.blks[i]?=some x0->(x0.off:Int)=o/\x0.used=true/\x0.off=(aal H.blks i).off:=fun x0 a=>by rw[<-aaX a];exact⟨h2,h3,rfl⟩
   split at h
   · rename_i hle;rw[if_pos hle];rcases apT hd h1 h hu with⟨x0,a,b⟩ | ⟨j',e,a⟩
     · obtain⟨c1,c2,c3⟩:=hat x0 a.1;exact⟨i,x0,a,c2, .inr ⟨c1,by rw[<-b,c3]⟩⟩
     · exact⟨j',x,a,hu, .inl ⟨rfl,hoth j' x a.1 e⟩⟩
   · rename_i hlt;dsimp only at he;rw[if_neg hlt]at he;split at h
     · rename_i hle;rw[if_neg hlt,if_pos hle];have hw:(H.widen i).Dl:=hd.widen;have hwi:i<(H.widen i).blks.length:=by
        cases hn:acG H.blks i with
        | true=>rw[(aem hn).1];exact(aiS (H.out (i+1)) (i:=i) (aeI hn)).1
        | false=>rw[(aen hn h1).1];exact h1
       rcases apT hw hwi h hu with⟨x0,a,b⟩ | ⟨j',e,a⟩
       · obtain⟨j2,x2,c1,c2,c3,c4,_⟩:=ajb a;obtain rfl:=c4 rfl;obtain⟨d1,d2,d3⟩:=hat x2 c1.1;exact⟨j2,x2,c1,d2, .inr ⟨d1,by rw[<-b,<-c2,d3]⟩⟩
       · obtain⟨j2,x2,c1,c2,c3,_,c5⟩:=ajb a;obtain⟨e2,rfl⟩:=c5 e;exact⟨j2,x2,c1,hu, .inl ⟨rfl,hoth j2 x2 c1.1 e2⟩⟩
     · rename_i hlt2;rw[if_neg hlt2]at he;split at h
       · rename_i hg;rw[if_neg hlt,if_neg hlt2,if_pos hg];obtain⟨x0,a,b,c,c'⟩:=agS h;obtain⟨j2,x2,c1,c2,c3,c4,c5⟩:=ajb a;by_cases e:j=i
         · obtain rfl:=c4 e;obtain⟨d1,d2,d3⟩:=hat x2 c1.1;exact⟨j2,x2,c1,d2, .inr ⟨d1,by rw[<-b,<-c2,d3]⟩⟩
         · obtain⟨e2,rfl⟩:=c5 e;obtain rfl:=c' e;exact⟨j2,x2,c1,hu, .inl ⟨rfl,hoth j2 x2 c1.1 e2⟩⟩
       · rename_i hg;rw[if_neg hg]at he;rw[if_neg hlt,if_neg hlt2,if_neg hg]
         cases hq:(H.take s).1 with
         | none=>
          rw[hq]at he
          cases he
         | some q=>
          rw[hq]at h;obtain⟨⟨iq,hiq⟩,io',x0,c1,cu,c2,c3,c4⟩:=hmv i q hi hq;obtain⟨j1,a,hj1⟩:=asf h hu;rw[ach]at hj1;have hj1:=hj1 io' cu;obtain⟨xq,e1,e2⟩:=abM c1;rw[c2]at e1;injection e1 with e1;subst e1;rcases ase a with⟨a,hne⟩ | ⟨a,io,xo,b1,b2,b3⟩
          · rcases ai2 hd hfr a hu with e | ⟨j2,b⟩
            · rw[hq]at e;injection e with e;obtain⟨y,f1,f2⟩:=abM hiq;exact absurd (hone j1 iq x y a.1 f1 (by omega)) (hne iq io' hiq c1)
            · exact⟨j2,x,b,hu, .inl ⟨rfl,fun e=>hj1 (hone j1 io' x x0 a.1 c2 (by omega))⟩⟩
          · rw[b1]at c1;injection c1 with c1;subst c1;rw[b2]at c2;injection c2 with c2;subst c2;have hat:(H.take s).2.At io xo d:=⟨b2,by
             have hdl:(H.take s).2.ds.length=(H.take s).2.blks.length:=hd.take;have:io<(H.take s).2.ds.length:=by rw[hdl];exact aau b2
             rw[b3,List.getD_eq_getElem?_getD,List.getElem?_eq_getElem this];rfl⟩
            rcases ai2 hd hfr hat c3 with e | ⟨j2,b⟩
            · rw[hq]at e;injection e with e;exact absurd e.symm c4
            · exact⟨j2,xo,b,c3, .inr ⟨e2,by show x.off=q;omega⟩⟩
end
def av5 (bs:List UInt8) (H:Hp):Prop:=∀j x d,H.At j x d->x.used=true->d.2.length+16=x.size/\∀k,k<d.2.length->bs[x.off+8+k]?=d.2[k]?
structure RtD (bs:List UInt8) (H:Hp):Prop where
 rt:Rt bs H
 dl:H.Dl
 ho:av5 bs H
section
variable {bs out:List UInt8} {H H':Hp} {s:Nat}
theorem Rt.sz (h:Rt bs H){x:Bk}(hx:x∈H.blks):184<=x.off/\32<=x.size/\x.size<=16384/\x.off+x.size<=bs.length:=by
 have:=(aak _ _ _ (aaj h.walk).2.1).2 x hx;have sz:=(aab _).1 this.2.2.1;omega
theorem Rt.apart (h:Rt bs H){x y:Bk}(hx:x∈H.blks) (hy:y∈H.blks) (hne:x.off≠y.off):x.off+x.size<=y.off\/y.off+y.size<=x.off:=by
 rcases aaN _ _ _ (aaj h.walk).2.1 x hx y hy with e | e | e
 · exact absurd (by rw[e]) hne
 · exact .inl e
 · exact .inr e
theorem RtD.keep (h:RtD bs H) (hh:Held H bs H' out){x:Bk}{d:Dt}{j:Nat}(ha:H.At j x d) (hu:x.used=true) (hx:x∈H'.blks):d.2.length+16=x.size/\∀k,k<d.2.length->out[x.off+8+k]?=d.2[k]?:=by
 obtain⟨h1,h2⟩:=h.ho j x d ha hu;have hm:=List.mem_of_getElem? ha.1;refine⟨h1,fun k hk=> ?_⟩;rw[hh x hm hu x hx hu rfl (x.off+8+k) (by omega) (by omega) (by omega)];exact h2 k hk
theorem RtD.freed (h:RtD bs H){i:Nat}(hi:i<H.blks.length) (h':Rt out (H.give i)) (hh:Held H bs (H.give i) out):RtD out (H.give i):=
 ⟨h',h.dl.give,fun j x d ha hu=>by
  obtain⟨j',_,hb⟩:=ai1 hi ha hu;exact h.keep hh hb hu (List.mem_of_getElem? ha.1)⟩
theorem ajc (b:List UInt8) (d:Nat) (cs:List UInt8) (hd:d+cs.length<=b.length) (q:Nat) (hq:q<d\/d+cs.length<=q):(lay b d cs)[q]?=b[q]?:=by
 unfold lay;rcases hq with h | h
 · rw[List.getElem?_append_left (by rw[List.length_take];omega),List.getElem?_take_of_lt h]
 · rw[List.getElem?_append_right (by rw[List.length_take];omega),List.length_take,List.getElem?_append_right (by omega),List.getElem?_drop];congr 1;omega
theorem RtD.fills (h':Rt out H') (hd:H'.Dl){i:Nat}{y:Bk}(hy:H'.blks[i]?=some y) (hyu:y.used=true) (V:Value){L:List UInt8}(hL:L.length+16=y.size){b2:List UInt8}(hag:ah0 out b2 y) (hb2:∀k,k<L.length->b2[y.off+8+k]?=L[k]?)
 (hoth:∀j x d,H'.At j x d->x.used=true->j≠i->d.2.length+16=x.size/\∀k,k<d.2.length->out[x.off+8+k]?=d.2[k]?):RtD b2 (H'.dset i (V,L)):=by
 have hym:=List.mem_of_getElem? hy;have hf:=h'.fill hym hyu hag;refine⟨⟨hf.walk,hf.all_,hf.chk,hf.len⟩,by show(H'.ds.set i _).length=_;rw[List.length_set];exact hd,fun j x d ha hu=> ?_⟩;obtain⟨a,b⟩:=ha;have a':H'.blks[j]?=some x:=a;have b:(H'.ds.set i (V,L))[j]?=some d:=b;by_cases e:j=i
 · subst e;obtain rfl:y=x:=Option.some.inj (hy.symm.trans a');have hl:j<H'.ds.length:=by have:=aau b;rwa [List.length_set]at this
   rw[List.getElem?_set_self hl]at b;injection b with b;subst b;exact⟨hL,hb2⟩
 · rw[List.getElem?_set_ne (fun e'=>e e'.symm)]at b;obtain⟨c1,c2⟩:=hoth j x d ⟨a',b⟩ hu e;refine⟨c1,fun k hk=> ?_⟩;rw[<-c2 k hk];have hxm:=List.mem_of_getElem? a';have hap:=h'.apart hxm hym (fun e'=>e (h'.one _ _ _ _ a' hy e'));exact hag.2 _ (by omega)
theorem anX (b:List UInt8) (x:Bk):ah0 b b x:=⟨rfl,fun _ _=>rfl⟩
theorem akt (H:Hp) (i:Nat):((H.wipe i).ds.getD i acc).2= []:=by
 show((H.ds.set i acc).getD i acc).2= [];rw[List.getD_eq_getElem?_getD,List.getElem?_set];split
 · split<;>rfl
 · rename_i e;exact absurd rfl e
theorem RtD.got (h:RtD bs H){o:Nat}(hs:aaG (s:Int)=true) (hq:(H.take s).1=some o) (h1:Rt out (H.take s).2) (hh:Held H bs (H.take s).2 out) (v:UInt8):
 ∃i y,atB (o:Int) (H.take s).2.blks=some i/\(H.take s).2.blks[i]?=some y/\y.off=o/\y.used=true/\s<=y.size/\y.off+y.size<=out.length/\RtD (lay out (o+8) (List.replicate (y.size-16) v)) (((H.take s).2.wipe i).fill i v):=by
 obtain⟨y,y1,y2,y3,y4,y5,y6⟩:=h.rt.what hs hq;obtain⟨i,hi⟩:=aeC y1;rw[y2]at hi;obtain⟨y',e1,e2⟩:=abM hi;obtain⟨k,hk⟩:=List.mem_iff_getElem?.1 y1;obtain rfl:i=k:=h1.one _ _ _ _ e1 hk (by omega);have hsz:=h1.sz y1;refine⟨i,y,hi,hk,y2,y3,y4,hsz.2.2.2,?_⟩;unfold Hp.fill;rw[akt];have eb:aal ((H.take s).2.wipe i).blks i=y:=aaX (show(H.take s).2.blks[i]?=some y from hk);rw[eb];have eL:acP [] (y.size-16) v=List.replicate (y.size-16) v:=by unfold acP;simp
 rw[eL];have hll:(List.replicate (y.size-16) v).length=y.size-16:=List.length_replicate;refine RtD.fills (H':=(H.take s).2.wipe i) (y:=y) ⟨h1.walk,h1.all_,h1.chk,h1.len⟩ ?_ hk y3 _ (by omega) (ad9 (x:=y) _ _ (by omega) (by omega) (by omega)) (fun k hk2=> ?_) (fun j x d ha hu hne=> ?_)
 · show((H.take s).2.ds.set i acc).length=_;rw[List.length_set];exact h.dl.take
 · rw[show y.off+8+k=o+8+k by omega];exact agH out (o+8) _ (by omega) k hk2
 · have ha:=apR ha hne;rcases ai2 h.dl (fun j hj=>by obtain⟨a,_,c⟩:=h.rt.found hs hj;exact⟨a,c⟩) ha hu with e | ⟨j',hb⟩
   · rw[hq]at e;injection e with e;exact absurd (h1.one _ _ _ _ ha.1 hk (by omega)) hne
   · exact h.keep hh hb hu (List.mem_of_getElem? ha.1)
theorem aed{o:Int}(he:(H.resize o s).1.2=0):((H.resize o s).1.1:Int)=o\/(H.take s).1=some (H.resize o s).1.1:=by
 unfold Hp.resize at he ⊢;split
 · rename_i hn;rw[hn]at he;cases he
 · rename_i i hi;obtain⟨h1,h2,h3⟩:=acx hi;rw[hi]at he;dsimp only at he;split
   · exact .inl h2
   · rename_i a;rw[if_neg a]at he;split
     · exact .inl h2
     · rename_i b;rw[if_neg b]at he;split
       · exact .inl h2
       · rename_i c;rw[if_neg c]at he;split
         · rename_i d;rw[d]at he;cases he
         · rename_i d;exact .inr d
theorem Rt.movesU (h:Rt bs H) (hs:aaG (s:Int)=true){o:Int}(hT:(H.take s).2.One):∀i q,aa3 H.blks o=some i->(H.take s).1=some q->(∃iq,atB (q:Int) (H.take s).2.blks=some iq)/\∃io x0,atB o (H.take s).2.blks=some io/\aa3 (H.take s).2.blks o=some io/\(H.take s).2.blks[io]?=some x0/\x0.used=true/\x0.off≠q:=fun i q hu hq=>by
 obtain⟨iq,io,h1,h2⟩:=h.moves hs i q hu hq;obtain⟨i1,i2,i3⟩:=acx hu;have ht:aby 184 H.blks (Go.Proofs.YtncadccbepjekaaGreatDoor.lenB H.blks):=by rw[h.lenE];exact(aaj h.walk).2.1
 have hm:aal H.blks i∈H.blks:=List.mem_of_getElem? (aat i1);have hm2:=afb (s:=s) ht hs (fun j hj=>by obtain⟨a,_,c⟩:=h.found hs hj;exact⟨a,c⟩) hm i3;obtain⟨x,e1,e2⟩:=abM h2;obtain⟨k,hk⟩:=List.mem_iff_getElem?.1 hm2;obtain rfl:io=k:=hT _ _ _ _ e1 hk (by omega);obtain rfl:x=aal H.blks i:=Option.some.inj (e1.symm.trans hk);obtain⟨y,y1,y2,y3,y4,y5,y6⟩:=h.what hs hq;have sx:=(aab _).1 ((aak _ _ _ ht).2 _ hm).2.2.1;have ss:=(aab _).1 hs;refine⟨⟨iq,h1⟩,io,aal H.blks i,h2,?_,e1,i3,fun e=> ?_⟩
 · unfold aa3;rw[h2];dsimp only;rw[aaX e1,if_pos i3]
 · have:=y6 _ hm i3;omega
theorem RtD.resized (h:RtD bs H) (hok:H.Ok) (hT:(H.take s).2.One) (hs:aaG (s:Int)=true){o:Int}(he:(H.resize o s).1.2=0) (h1:Rt out (H.resize o s).2) (hh:Held H bs (H.resize o s).2 out) (hm:aja H bs o (H.resize o s).2 out (H.resize o s).1.1) (v:UInt8):
 ∃i y j x0 d,atB ((H.resize o s).1.1:Int) (H.resize o s).2.blks=some i/\(H.resize o s).2.blks[i]?=some y/\y.off=(H.resize o s).1.1/\y.used=true/\s<=y.size/\y.off+y.size<=out.length/\H.At j x0 d/\x0.used=true/\(x0.off:Int)=o/\d.2.length+16=x0.size/\
  (∀k,k<d.2.length->k+16<y.size->out[y.off+8+k]?=d.2[k]?)/\∀b2,ah0 out b2 y->(∀k,k<y.size-16->b2[y.off+8+k]?=(acP d.2 (y.size-16) v)[k]?)->RtD b2 ((H.resize o s).2.fill i v):=by
 obtain⟨y,y1,y3,y2,y4⟩:=h.rt.rezHas hok hs he;obtain⟨i,hi⟩:=aeC y1;rw[y2]at hi;obtain⟨y',e1,e2⟩:=abM hi;obtain⟨k,hk⟩:=List.mem_iff_getElem?.1 y1;obtain rfl:i=k:=h1.one _ _ _ _ e1 hk (by omega);have hsz:=h1.sz y1;have hdl:(H.resize o s).2.ds.length=(H.resize o s).2.blks.length:=h.dl.resize;have hil:i<(H.resize o s).2.ds.length:=by rw[hdl];exact aau hk
 have hfr:=fun j hj=>by obtain⟨a,_,c⟩:=h.rt.found (s:=s) (i:=j) hs hj;exact(⟨a,c⟩:j<H.blks.length/\(aal H.blks j).used=false)
 have hmv:=h.rt.movesU hs (o:=o) hT;obtain⟨j,x0,a,au,hx⟩:=afd h.dl h.rt.one he hfr hT hmv (j:=i) (x:=y) (d:=(H.resize o s).2.ds[i]) ⟨hk,List.getElem?_eq_getElem hil⟩ y3;have hx0:(x0.off:Int)=o:=by
  rcases hx with⟨e,hne⟩ | ⟨e,_⟩
  · exfalso;subst e;rcases aed he with e | e
    · omega
    · obtain⟨z,z1,z2,z3,z4,z5,z6⟩:=h.rt.what hs e;have hap:=z6 x0 (List.mem_of_getElem? a.1) au;have:=h.rt.sz (List.mem_of_getElem? a.1);have ss:=(aab _).1 hs;omega
  · exact e
 obtain⟨c1,c2⟩:=h.ho j x0 _ a au;have hpay:∀k,k<(H.resize o s).2.ds[i].2.length->k+16<y.size->out[y.off+8+k]?=(H.resize o s).2.ds[i].2[k]?:=fun k k1 k2=>by
  have:=hm x0 (List.mem_of_getElem? a.1) au hx0 y y1 y3 y2 (8+k) (by omega) (by omega) (by omega);rw[y2,show(H.resize o s).1.1+8+k=(H.resize o s).1.1+(8+k) by omega,this,show x0.off+(8+k)=x0.off+8+k by omega];exact c2 k k1
 refine⟨i,y,j,x0,(H.resize o s).2.ds[i],hi,hk,y2,y3,y4,hsz.2.2.2,a,au,hx0,c1,hpay,fun b2 hag hb2=> ?_⟩;unfold Hp.fill;have eb:aal (H.resize o s).2.blks i=y:=aaX hk;have ed:(H.resize o s).2.ds.getD i acc=(H.resize o s).2.ds[i]:=by rw[List.getD_eq_getElem?_getD,List.getElem?_eq_getElem hil];rfl
 rw[eb,ed];have hL:=adc (H.resize o s).2.ds[i].2 (y.size-16) v;refine RtD.fills h1 hdl hk y3 _ (by omega) hag (fun k hk2=>hb2 k (by omega)) (fun j2 x d ha hu hne=> ?_);obtain⟨j3,x3,a3,au3,hx3⟩:=afd h.dl h.rt.one he hfr hT hmv ha hu;rcases hx3 with⟨rfl,hne3⟩ | ⟨_,e3⟩
 · exact h.keep hh a3 au3 (List.mem_of_getElem? ha.1)
 · exact absurd (h1.one _ _ _ _ ha.1 hk (by omega)) hne
theorem RtD.wrote (h:RtD bs H){i:Nat}{x:Bk}{d:Dt}(ha:H.At i x d) (hu:x.used=true) (V:Value) (p:Nat) (b:List UInt8) (hp:p+b.length<=d.2.length):RtD (lay bs (x.off+8+p) b) (H.dset i (V,lay d.2 p b)):=by
 obtain⟨c1,c2⟩:=h.ho i x d ha hu;have hsz:=h.rt.sz (List.mem_of_getElem? ha.1);have hll:(lay d.2 p b).length=d.2.length:=by
  unfold lay;simp only[List.length_append,List.length_take,List.length_drop];omega
 refine RtD.fills h.rt h.dl ha.1 hu V (by omega) (ad9 (x:=x) _ _ (by omega) (by omega) (by omega)) (fun k hk=> ?_) (fun j z e hz hzu _=>h.ho j z e hz hzu);rw[hll]at hk;by_cases e:k<p\/p+b.length<=k
 · rw[ajc bs _ b (by omega) _ (by omega),ajc d.2 p b hp k e];exact c2 k hk
 · rw[show x.off+8+k=x.off+8+p+(k-p) by omega,agH bs _ b (by omega) (k-p) (by omega)];have:=agH d.2 p b (by omega) (k-p) (by omega);rw[show p+(k-p)=k by omega]at this;exact this.symm
end
def aez (cap:Nat):Hp:=⟨cap,[],[],fun _=> []⟩
theorem at2{z:List UInt8}(hz:List.replicate 184 (0:UInt8)=z) (cap:Nat) (hc:184<=cap):Rt z ⟨cap,[],[],fun _=> []⟩:=by
 have hl:z.length=184:=by rw[<-hz];exact List.length_replicate
 have hw0:∀p,p+8<=184->p%8=0->aaf z p=0:=fun p hp _=>by
  have:=adq [] 184 p hp;rw[List.append_nil,hz]at this;exact this
 have hwk:abI z=some []:=ac8 (by rw[hl];rfl) (fun x hx=>by cases hx);have hli:Lists z [] (fun _=> []):=afs (by omega) (by omega) ⟨fun x hx=>(by cases hx),fun x hx=>(by cases hx)⟩ hw0;refine⟨hwk,fun c hc=>hli.all hc (Nat.zero_le _),?_,by show z.length<=cap;omega⟩;have e:abb []=fun _=> []:=rfl;rw[afI hwk (by rw[e];exact hli) (by rw[hw0 0 (by omega) rfl];omega)];rfl
theorem asg{z:List UInt8}(hz:List.replicate 184 (0:UInt8)=z) (cap:Nat) (hc:184<=cap):RtD z (aez cap):=
 ⟨at2 hz cap hc,rfl,fun j x d ha=>by have h:=ha.1;cases h⟩
theorem ajd:∀(l:List Bk) (o e:Nat),aby o l e->o+l.length*32<=e
 | [],o,e,h=>by simp[aby]at h;simp;omega
 | x::r,o,e,h=>by
  obtain⟨h1,h2,h3⟩:=h;have:=ajd r _ e h3;have q:=(aab _).1 h2;rw[List.length_cons];omega
theorem ash{l:List Bk}{e:Nat}(h:aby 184 l e) (he:e<=16384):l.length<=512:=by
 have:=ajd _ _ _ h;omega
def awt (bs:List UInt8) (l:List Bk):List Dt:=l.map fun x=>(.slice none 0 0,(bs.drop (x.off+8)).take (x.size-16))
theorem avf{bs:List UInt8}{cap:Nat}(hk:ace bs=true) (hl:bs.length<=cap):∃H:Hp,RtD bs H/\H.cap=cap:=by
 have hk':=hk;unfold ace at hk
 cases hw:abI bs with
 | none=>rw[hw]at hk;cases hk
 | some l=>
  rw[hw]at hk;simp only[Bool.and_eq_true]at hk;have ht:=(aaj hw).2.1;refine⟨⟨cap,l,awt bs l,fun c=>(afH bs c).getD []⟩,⟨⟨hw,fun c hc=> ?_,hk',hl⟩,List.length_map _,fun j x d ha _=> ?_⟩,rfl⟩
  · obtain⟨al,h1,_⟩:=aeV 22 0 _ hk.2.2 c (Nat.zero_le _) (by omega);show afH bs c=some ((afH bs c).getD []);rw[h1];rfl
  · obtain⟨h1,h2⟩:=ha;have h1:l[j]?=some x:=h1;have h2:(l.map fun x=>((.slice none 0 0,(bs.drop (x.off+8)).take (x.size-16)):Dt))[j]?=some d:=h2;rw[List.getElem?_map,h1]at h2;injection h2 with h2;subst h2;have hm:=(aak _ _ _ ht).2 x (List.mem_of_getElem? h1);have hq:=(aab _).1 hm.2.2.1;refine⟨?_,fun k hk=> ?_⟩
    · dsimp only;rw[List.length_take,List.length_drop];omega
    · dsimp only at hk ⊢;rw[List.length_take]at hk;rw[List.getElem?_take_of_lt (by omega),List.getElem?_drop]
def RezTold (g base cap:Nat) (A:Option Addr) (bs:List UInt8) (H:Hp) (o:Int) (r:(Nat × Int) × Hp) (w:World) (e:Ending) (w':World):Prop:=
 (r.1.2=0->e= .returned (.tuple #[.int .i64 (r.1.1:Int),aav true 0])/\∃out,Became 195 g base cap A out w w'/\Rt out r.2/\Held H bs r.2 out/\aja H bs o r.2 out r.1.1)/\
 (r.1.2≠0->e= .returned (.tuple #[.int .i64 0,aav false r.1.2])/\Below w.heap.size w w')
def at3:Prop:=∀(w:World) (g base cap c:Nat) (A:Option Addr) (bs:List UInt8) (H:Hp) (o s:Int),Ar w 195 g base cap A c bs->base<=4611686018427387904->cap<=16384->H.cap=cap->Rt bs H->(-9223372036854775808<=o/\o<=9223372036854775807)->(-9223372036854775808<=s/\s<=9223372036854775807)->
 (aaG s=false->Calls Tryz.prog 129 #[.pointer (some ⟨g,0,none⟩), .int .i64 o, .int .i64 s] w fun e w'=>e= .returned (.tuple #[.int .i64 0,aav false 1])/\Below w.heap.size w w')/\
 (aaG s=true->Calls Tryz.prog 129 #[.pointer (some ⟨g,0,none⟩), .int .i64 o, .int .i64 s] w fun e w'=>RezTold g base cap A bs H o (H.resize o s.toNat) w e w')
def Hp.Has (H:Hp) (p:Nat) (b:List UInt8):Prop:=∃j x d,H.At j x d/\x.used=true/\p=x.off+8/\b=d.2
section
variable {bs out:List UInt8} {H H':Hp} {p q i s:Nat} {b b':List UInt8}
theorem Hp.Ok.one (h:H.Ok):H.One:=fun a c x y ha hc e=>by
 have hpw:=List.pairwise_iff_getElem.1 (adW _ _ _ h.tl);have e1:H.blks[a]'(aau ha)=x:=by have:=List.getElem?_eq_getElem (aau ha);rw[ha]at this;exact(Option.some.inj this).symm
 have e2:H.blks[c]'(aau hc)=y:=by have:=List.getElem?_eq_getElem (aau hc);rw[hc]at this;exact(Option.some.inj this).symm
 rcases Nat.lt_trichotomy a c with h' | h' | h'
 · exact absurd (by rw[e1,e2];exact e) (hpw a c (aau ha) (aau hc) h')
 · exact h'
 · exact absurd (by rw[e1,e2];exact e.symm) (hpw c a (aau hc) (aau ha) h')
theorem at6 (h:H.One){j k:Nat}{x y:Bk}{d d':Dt}(h1:H.At j x d) (h2:H.At k y d') (e:x.off=y.off):j=k/\x=y/\d=d':=by
 obtain rfl:=h j k x y h1.1 h2.1 e;exact⟨rfl,Option.some.inj (h1.1.symm.trans h2.1),Option.some.inj (h1.2.symm.trans h2.2)⟩
theorem Hp.Has.uniq (h:H.One) (h1:H.Has p b) (h2:H.Has p b'):b=b':=by
 obtain⟨j,x,d,a1,_,e1,rfl⟩:=h1;obtain⟨k,y,d',a2,_,e2,rfl⟩:=h2;rw[(at6 h a1 a2 (by omega)).2.2]
theorem aqe (h:H.Dl){x:Bk}(hx:x∈H.blks):∃j d,H.At j x d:=by
 obtain⟨j,hj⟩:=List.mem_iff_getElem?.1 hx;have h:H.ds.length=H.blks.length:=h;have:j<H.ds.length:=by rw[h];exact aau hj
 exact⟨j,_,hj,List.getElem?_eq_getElem this⟩
theorem Hp.Has.sz (h:RtD bs H) (h1:H.Has p b):p%16=0/\192<=p/\p+b.length+8<=bs.length/\16<=b.length:=by
 obtain⟨j,x,d,a1,u,rfl,rfl⟩:=h1;have hm:=List.mem_of_getElem? a1.1;have h2:=h.rt.sz hm;have h3:=(h.ho j x d a1 u).1;have h4:=((aak _ _ _ (aaj h.rt.walk).2.1).2 x hm).2.2.2;omega
theorem Hp.Has.apart (h:RtD bs H) (h1:H.Has p b) (h2:H.Has q b') (hne:p≠q):p+b.length<=q\/q+b'.length<=p:=by
 obtain⟨j,x,d,a1,u1,rfl,rfl⟩:=h1;obtain⟨k,y,d',a2,u2,rfl,rfl⟩:=h2;have e1:=(h.ho j x d a1 u1).1;have e2:=(h.ho k y d' a2 u2).1;rcases h.rt.apart (List.mem_of_getElem? a1.1) (List.mem_of_getElem? a2.1) (by omega)with e | e<;>omega
theorem Hp.Has.handle (h:RtD bs H) (hc:H.cap<=16384) (h1:H.Has p b):∃i,H.handleB p=some i/\(H.ds.getD i acc).2=b:=by
 obtain⟨j,x,d,a1,u,rfl,rfl⟩:=h1;have hm:=List.mem_of_getElem? a1.1;have h2:=h.rt.sz hm;have h3:=h.rt.len;obtain⟨i,hi,hil,hb⟩:=amE (aaj h.rt.walk).2.1 hm;have hx:H.blks[i]?=some x:=by rw[<-hb];exact aat hil
 obtain rfl:=h.rt.one i j x x hx a1.1 rfl;refine⟨i,?_,by rw[List.getD_eq_getElem?_getD,a1.2];rfl⟩;unfold Hp.handleB aa3;rw[if_neg (by omega),show((x.off+8:Nat):Int)-8=(x.off:Int) by omega,hi];dsimp only;rw[hb,if_pos u]
theorem afe (hd:H.Dl) (hh:H.handleB p=some i):∃x d,H.At i x d/\x.used=true/\p=x.off+8/\H.ds.getD i acc=d/\aal H.blks i=x:=by
 obtain⟨h8,_,hu⟩:=adv hh;obtain⟨h1,h2,h3⟩:=acx hu;have hd:H.ds.length=H.blks.length:=hd;have hl:i<H.ds.length:=by rw[hd];exact h1
 exact⟨aal H.blks i,H.ds[i],⟨aat h1,List.getElem?_eq_getElem hl⟩,h3,by omega,by rw[List.getD_eq_getElem?_getD,List.getElem?_eq_getElem hl];rfl,rfl⟩
theorem anY (hd:H.Dl) (hh:H.handleB p=some i):H.Has p (H.ds.getD i acc).2:=by
 obtain⟨x,d,a,u,e,e2,_⟩:=afe hd hh;exact⟨i,x,d,a,u,e,by rw[e2]⟩
theorem aqf (h:RtD bs H) (hc:H.cap<=16384) (hh:H.handleB p=none):¬H.Has p b:=fun h1=>by
 obtain⟨i,hi,_⟩:=h1.handle h hc;rw[hh]at hi
 cases hi
theorem Hp.Has.both (h1:H.One) (hd:H'.Dl){P:Nat->List UInt8->Prop}(fwd:∀p b,H'.Has p b->P p b\/H.Has p b){x:Bk}{d:Dt}{j:Nat}(ha:H.At j x d) (hu:x.used=true) (hx:x∈H'.blks) (hP:∀b,¬P (x.off+8) b):H'.Has (x.off+8) d.2:=by
 obtain⟨k,d',a'⟩:=aqe hd hx;have e:H'.Has (x.off+8) d'.2:=⟨k,x,d',a',hu,rfl,rfl⟩;rcases fwd _ _ e with h | h
 · exact absurd h (hP _)
 · have:=Hp.Has.uniq h1 h ⟨j,x,d,ha,hu,rfl,rfl⟩;rw[<-this];exact e
theorem asi (h:RtD bs H) (hh:H.handleB q=some i):∀p b,(H.give i).Has p b ↔ H.Has p b/\p≠q:=by
 obtain⟨x,d,ax,ux,ex,_,ebk⟩:=afe h.dl hh;have hil:=aau ax.1;have fwd:∀p b,(H.give i).Has p b->H.Has p b/\p≠q:=fun p b hb=>by
  obtain⟨j,y,e,ay,uy,ey,rfl⟩:=hb;obtain⟨j',hne,a'⟩:=ai1 hil ay uy;exact⟨⟨j',y,e,a',uy,ey,rfl⟩,fun e'=>hne (at6 h.rt.one a' ax (by omega)).1⟩
 refine fun p b=>⟨fwd p b,fun⟨hb,hne⟩=> ?_⟩;obtain⟨j,y,e,ay,uy,rfl,rfl⟩:=hb;refine Hp.Has.both (P:=fun _ _=>False) h.rt.one h.dl.give (fun p b hb=> .inr (fwd p b hb).1) ay uy (ai0 hil (List.mem_of_getElem? ay.1) uy fun e'=>hne ?_) (fun _=>id);rw[e',ebk];exact ex.symm
theorem at7 (h:RtD bs H) (hc:H.cap<=16384) (n:Nat) (v:UInt8) (h':RtD out (H.get n v).2) (hc':(H.get n v).2.cap<=16384):
 ((H.get n v).1=(0,5)/\(H.get n v).2=H)\/∃p m,(H.get n v).1=(p,0)/\n<=m/\m<n+48/\p≠0/\(∀b,¬H.Has p b)/\(H.get n v).2.Has p (List.replicate m v)/\∀p' b',(H.get n v).2.Has p' b' ↔ (p'=p/\b'=List.replicate m v)\/H.Has p' b':=by
 unfold Hp.get at h' hc' ⊢
 cases hs:acn n with
 | none=>exact .inl ⟨rfl,rfl⟩
 | some s=>
  rw[hs]at h' hc';dsimp only at h' hc' ⊢;have hsz:=ac3 hs
  cases hq:(H.take s).1 with
  | none=>exact .inl ⟨rfl,rfl⟩
  | some o=>
   right;rw[hq]at h' hc';dsimp only at h' hc' ⊢;obtain⟨y,y1,y2,y3,y4,y5,y6⟩:=h.rt.what hsz hq;have hok:=(h.rt.ok hc h.dl).take hc hsz;have hone:=hok.one;have hdl:(H.take s).2.Dl:=h.dl.take;have hfr:=fun j hj=>by obtain⟨a,_,c⟩:=h.rt.found (s:=s) (i:=j) hsz hj;exact(⟨a,c⟩:j<H.blks.length/\(aal H.blks j).used=false)
   obtain⟨k,dk,ak⟩:=aqe hdl y1;obtain⟨i,hi,hil,hb⟩:=amE hok.tl y1;rw[y2]at hi;have hiy:(H.take s).2.blks[i]?=some y:=by rw[<-hb];exact aat hil
   obtain rfl:=hone i k y y hiy ak.1 rfl;rw[hi]at h' hc' ⊢;dsimp only at h' hc' ⊢;have hdl':(H.take s).2.ds.length=(H.take s).2.blks.length:=hdl;have ebl:(((H.take s).2.wipe i).fill i v).blks=(H.take s).2.blks:=rfl;have eds:(((H.take s).2.wipe i).fill i v).ds=((H.take s).2.ds.set i acc).set i (.slice none 0 0,List.replicate (y.size-16) v):=by
    show((H.take s).2.ds.set i acc).set i (.slice none 0 0,acP ((((H.take s).2.wipe i)).ds.getD i acc).2 ((aal (H.take s).2.blks i).size-16) v)=_;rw[akt,hb];unfold acP;simp
   have hss:=(aab _).1 hsz;have hn:n+16<=s/\s<=n+32:=by
    unfold acn at hs;split at hs
    · injection hs with hs;omega
    · cases hs
   have hnot:∀b,¬H.Has (o+8) b:=fun b hb=>by
    obtain⟨j,x,d,a,u,e,rfl⟩:=hb;have h1:=y6 x (List.mem_of_getElem? a.1) u;have h2:=h.rt.sz (List.mem_of_getElem? a.1);omega
   have hnew:(((H.take s).2.wipe i).fill i v).Has (o+8) (List.replicate (y.size-16) v):=
    ⟨i,y,(.slice none 0 0,List.replicate (y.size-16) v),⟨hiy,by rw[eds,List.getElem?_set_self (by rw[List.length_set,hdl'];exact hil)]⟩,y3,by rw[y2],rfl⟩
   have fwd:∀p' b',(((H.take s).2.wipe i).fill i v).Has p' b'->(p'=o+8/\b'=List.replicate (y.size-16) v)\/H.Has p' b':=fun p' b' hb'=>by
    obtain⟨j,x,d,a,u,rfl,rfl⟩:=hb';by_cases e:j=i
    · left;subst e;have e1:x=y:=Option.some.inj ((show(H.take s).2.blks[j]?=some x from a.1).symm.trans hiy);subst e1;exact⟨by rw[y2],Hp.Has.uniq h'.rt.one ⟨j,x,d,a,u,rfl,rfl⟩ (by rw[y2];exact hnew)⟩
    · right;have a2:=a.2;rw[eds,List.getElem?_set_ne (fun e'=>e e'.symm),List.getElem?_set_ne (fun e'=>e e'.symm)]at a2;rcases ai2 h.dl hfr ⟨a.1,a2⟩ u with e' | ⟨j',b'⟩
      · rw[hq]at e';injection e' with e';exact absurd (hone j i x y a.1 hiy (by omega)) e
      · exact⟨j',x,d,b',u,rfl,rfl⟩
   refine⟨o+8,y.size-16,rfl,by omega,by omega,by omega,hnot,hnew,fun p' b'=>⟨fwd p' b',fun hb'=> ?_⟩⟩;rcases hb' with⟨rfl,rfl⟩ | hb'
   · exact hnew
   · have hne:∀b,¬(p'=o+8/\b=List.replicate (y.size-16) v):=fun b e=>hnot b' (by rw[<-e.1];exact hb');obtain⟨j,x,d,a,u,rfl,rfl⟩:=hb';exact Hp.Has.both (P:=fun p b=>p=o+8/\b=List.replicate (y.size-16) v) h.rt.one h'.dl fwd a u (afb (by rw[h.rt.lenE];exact(aaj h.rt.walk).2.1) hsz hfr (List.mem_of_getElem? a.1) u) hne
theorem alO (h:RtD bs H) (hc:H.cap<=16384) (n:Nat) (hh:H.handleB q=some i) (h':RtD out (H.realloc q n).2):
 ((H.realloc q n).1=(0,5)/\(H.realloc q n).2=H)\/∃p m,(H.realloc q n).1=(p,0)/\n<=m/\p≠0/\(∀b,p≠q->¬H.Has p b)/\(H.realloc q n).2.Has p (acP (H.ds.getD i acc).2 m 165)/\∀p' b',(H.realloc q n).2.Has p' b' ↔ (p'=p/\b'=acP (H.ds.getD i acc).2 m 165)\/(H.Has p' b'/\p'≠q):=by
 obtain⟨xq,dq,aq,uq,eq,edq,ebq⟩:=afe h.dl hh;obtain⟨h8,_,hus⟩:=adv hh;unfold Hp.realloc at h' ⊢;rw[hh]at h' ⊢;dsimp only at h' ⊢
 cases hs:acn n with
 | none=>exact .inl ⟨rfl,rfl⟩
 | some s=>
  rw[hs]at h';dsimp only at h' ⊢;have hsz:=ac3 hs;obtain⟨o,ho⟩:∃o:Int,(q:Int)-8=o:=⟨_,rfl⟩;rw[ho]at h' hus ⊢;by_cases he:(H.resize o s).1.2=0
  · right;rw[if_pos he]at h' ⊢;dsimp only at h' ⊢;have hok:=h.rt.ok hc h.dl;have hok2:=hok.take hc hsz;have hT:=hok2.one;obtain⟨y,y1,y3,y2,y4⟩:=h.rt.rezHas hok hsz he;have hdl:(H.resize o s).2.Dl:=h.dl.resize;have hdl':(H.resize o s).2.ds.length=(H.resize o s).2.blks.length:=hdl;have hone:(H.resize o s).2.One:=by
     intro a c x z ha hc e
     cases hi:atB ((H.resize o s).1.1:Int) (H.resize o s).2.blks with
     | none=>rw[hi]at h';exact h'.rt.one a c x z ha hc e
     | some i=>rw[hi]at h';exact h'.rt.one a c x z ha hc e
    obtain⟨k,hk⟩:=aeC y1;rw[y2]at hk;obtain⟨y',e1,e2⟩:=abM hk;obtain⟨k2,dk,ak⟩:=aqe hdl y1;obtain rfl:k=k2:=hone _ _ _ _ e1 ak.1 (by omega);obtain rfl:y'=y:=Option.some.inj (e1.symm.trans ak.1);rw[hk]at h' ⊢;dsimp only at h' ⊢;have hfr:=fun j hj=>by obtain⟨a,_,c⟩:=h.rt.found (s:=s) (i:=j) hsz hj;exact(⟨a,c⟩:j<H.blks.length/\(aal H.blks j).used=false)
    have hmv:=h.rt.movesU hsz (o:=o) hT;have hplace:=aed he;have hap:(y'.off:Int)≠o->∀x∈H.blks,x.used=true->y'.off≠x.off:=fun hne x hx hu e=>by
     rcases hplace with e3 | e3
     · omega
     · obtain⟨z,z1,z2,z3,z4,z5,z6⟩:=h.rt.what hsz e3;have h1:=z6 x hx hu;have h2:=h.rt.sz hx;have ss:=(aab _).1 hsz;omega
    obtain⟨j0,x0,a0,u0,hx0⟩:=afd h.dl h.rt.one he hfr hT hmv ak y3;have ho0:(x0.off:Int)=o:=by
     rcases hx0 with⟨e,hne⟩ | ⟨e,_⟩
     · exfalso;subst e;exact hap hne x0 (List.mem_of_getElem? a0.1) u0 rfl
     · exact e
    have hd0:=(at6 h.rt.one a0 aq (by omega)).2.2;subst hd0;have ebl:((H.resize o s).2.fill k 165).blks=(H.resize o s).2.blks:=rfl;have eds:((H.resize o s).2.fill k 165).ds=(H.resize o s).2.ds.set k (.slice none 0 0,acP dk.2 (y'.size-16) 165):=by
     show(H.resize o s).2.ds.set k (.slice none 0 0,acP ((H.resize o s).2.ds.getD k acc).2 ((aal (H.resize o s).2.blks k).size-16) 165)=_;rw[aaX ak.1,List.getD_eq_getElem?_getD,ak.2];rfl
    have hn:n+16<=s:=by
     unfold acn at hs;split at hs
     · injection hs with hs;omega
     · cases hs
    rw[edq];have hnew:((H.resize o s).2.fill k 165).Has ((H.resize o s).1.1+8) (acP dk.2 (y'.size-16) 165):=
     ⟨k,y',(.slice none 0 0,acP dk.2 (y'.size-16) 165),⟨ak.1,by rw[eds,List.getElem?_set_self (by rw[hdl'];exact aau ak.1)]⟩,y3,by rw[y2],rfl⟩
    have fwd:∀p' b',((H.resize o s).2.fill k 165).Has p' b'->(p'=(H.resize o s).1.1+8/\b'=acP dk.2 (y'.size-16) 165)\/(H.Has p' b'/\p'≠q):=fun p' b' hb'=>by
     obtain⟨j,x,d,a,u,rfl,rfl⟩:=hb';by_cases e:j=k
     · left;subst e;have e1:x=y':=Option.some.inj ((show(H.resize o s).2.blks[j]?=some x from a.1).symm.trans ak.1);subst e1;exact⟨by rw[y2],Hp.Has.uniq h'.rt.one ⟨j,x,d,a,u,rfl,rfl⟩ (by rw[y2];exact hnew)⟩
     · right;have a2:=a.2;rw[eds,List.getElem?_set_ne (fun e'=>e e'.symm)]at a2;obtain⟨j3,x3,a3,au3,hx3⟩:=afd h.dl h.rt.one he hfr hT hmv (⟨a.1,a2⟩:(H.resize o s).2.At j x d) u;rcases hx3 with⟨rfl,hne3⟩ | ⟨_,e3⟩
       · exact⟨⟨j3,x3,d,a3,u,rfl,rfl⟩,by omega⟩
       · exact absurd (hone j k x y' a.1 ak.1 (by omega)) e
    refine⟨(H.resize o s).1.1+8,y'.size-16,rfl,by omega,by omega,fun b hne hb=> ?_,hnew,fun p' b'=>⟨fwd p' b',fun hb'=> ?_⟩⟩
    · obtain⟨j,x,d,a,u,e,rfl⟩:=hb;exact hap (by omega) x (List.mem_of_getElem? a.1) u (by omega)
    · rcases hb' with⟨rfl,rfl⟩ | ⟨hb',hne⟩
      · exact hnew
      · obtain⟨j,x,d,a,u,rfl,rfl⟩:=hb';refine Hp.Has.both (P:=fun p b=>p=(H.resize o s).1.1+8/\b=acP dk.2 (y'.size-16) 165) h.rt.one h'.dl (fun p b hb=>(fwd p b hb).imp id (·.1)) a u (h.rt.rezMem hok hsz (List.mem_of_getElem? a.1) u (by omega)) (fun b e=> ?_);by_cases e4:(y'.off:Int)=o
        · omega
        · exact hap e4 x (List.mem_of_getElem? a.1) u (by omega)
  · left;obtain⟨r1,r2,r3⟩:=aeJ H o s he;rw[if_neg he];refine⟨?_,r2⟩;have r4:(H.resize o s).1.2≠3:=fun e=>by
     unfold Hp.resize at e;rw[hus]at e;dsimp only at e;repeat' split at e
     all_goals (dsimp only at e;omega)
    have r5:(H.resize o s).1.2=5:=r3.resolve_left r4;rw[r5]
theorem asj (h:RtD bs H) (hh:H.handleB q=some i) (V:Value) (L:List UInt8):∀p b,(H.dset i (V,L)).Has p b ↔ (p=q/\b=L)\/(H.Has p b/\p≠q):=by
 obtain⟨x,d,ax,ux,ex,_,ebk⟩:=afe h.dl hh;have hd:H.ds.length=H.blks.length:=h.dl;have hl:i<H.ds.length:=by rw[hd];exact aau ax.1
 refine fun p b=>⟨fun hb=> ?_,fun hb=> ?_⟩
 · obtain⟨j,y,e,ay,uy,rfl,rfl⟩:=hb;obtain⟨a1,a2⟩:=ay;have a1:H.blks[j]?=some y:=a1;have a2:(H.ds.set i (V,L))[j]?=some e:=a2;by_cases hj:j=i
   · subst hj;rw[List.getElem?_set_self hl]at a2;injection a2 with a2;subst a2;obtain rfl:x=y:=Option.some.inj (ax.1.symm.trans a1);exact .inl ⟨ex.symm,rfl⟩
   · rw[List.getElem?_set_ne (fun e'=>hj e'.symm)]at a2;exact .inr ⟨⟨j,y,e,⟨a1,a2⟩,uy,rfl,rfl⟩,fun e'=>hj (h.rt.one _ _ _ _ a1 ax.1 (by omega))⟩
 · rcases hb with⟨rfl,rfl⟩ | ⟨⟨j,y,e,⟨a1,a2⟩,uy,rfl,rfl⟩,hne⟩
   · exact⟨i,x,(V,b),⟨ax.1,by show(H.ds.set i _)[i]?=_;rw[List.getElem?_set_self hl]⟩,ux,ex,rfl⟩
   · refine⟨j,y,e,⟨a1,?_⟩,uy,rfl,rfl⟩;show(H.ds.set i _)[j]?=_;rw[List.getElem?_set_ne (fun e'=>by subst e';obtain rfl:x=y:=Option.some.inj (ax.1.symm.trans a1);omega)];exact a2
end
structure Mp (H:Hp) (l:List (Nat × List UInt8)):Prop where
 nd:(l.map Prod.fst).Nodup
 all:∀p b,(p,b)∈l ↔ H.Has p b
section
variable {bs out:List UInt8} {H H':Hp} {p q i s:Nat} {b b':List UInt8} {l:List (Nat × List UInt8)}
theorem Mp.len (h:Mp H l) (hr:RtD bs H) (hc:H.cap<=16384):l.length<=512:=by
 have h1:=aeo (r:=H.blks.map fun x=>x.off+8) h.nd fun a ha=>by
  obtain⟨⟨p,b⟩,he,rfl⟩:=List.mem_map.1 ha;obtain⟨j,x,d,a1,u,e,_⟩:=(h.all p b).1 he;exact List.mem_map.2 ⟨x,List.mem_of_getElem? a1.1,e.symm⟩
 rw[List.length_map,List.length_map]at h1;exact Nat.le_trans h1 (ash (aaj hr.rt.walk).2.1 (Nat.le_trans hr.rt.len hc))
theorem Mp.nil (h:H.blks= []):Mp H []:=⟨List.nodup_nil,fun p b=>⟨fun h=>by(cases h),fun⟨j,x,d,a,_⟩=>by have:=a.1;rw[h]at this;cases this⟩⟩
theorem aff{α:Type}{l:List α}{i:Nat}{x:α}(h:l[i]?=some x){y:α}:y∈l ↔ y=x\/y∈l.take i++l.drop (i+1):=by
 conv=>lhs;rw[aeY h]
 simp only[List.mem_append,List.mem_cons];constructor
 · rintro(h | h | h)
   · exact .inr (.inl h)
   · exact .inl h
   · exact .inr (.inr h)
 · rintro(h | h | h)
   · exact .inr (.inl h)
   · exact .inl h
   · exact .inr (.inr h)
theorem Mp.cut (h:Mp H l){x:Nat × List UInt8}(hx:l[i]?=some x):((l.take i++l.drop (i+1)).map Prod.fst).Nodup/\(∀y∈l.take i++l.drop (i+1),y.1≠x.1)/\∀p b,(p,b)∈l.take i++l.drop (i+1) ↔ H.Has p b/\p≠x.1:=by
 have hn:=h.nd;have e:=aeY hx;rw[e,List.map_append,List.map_cons]at hn;have h1:=List.nodup_append.1 hn;have h2:=List.nodup_cons.1 h1.2.1;have hne:∀y∈l.take i++l.drop (i+1),y.1≠x.1:=fun y hy e=>by
  rcases List.mem_append.1 hy with hy | hy
  · exact h1.2.2 y.1 (List.mem_map.2 ⟨y,hy,rfl⟩) x.1 (List.mem_cons_self ..) e
  · exact h2.1 (List.mem_map.2 ⟨y,hy,e⟩)
 refine⟨?_,hne,fun p b=>⟨fun hb=>⟨(h.all p b).1 ((aff hx).2 (.inr hb)),hne _ hb⟩,fun⟨hb,hn⟩=> ?_⟩⟩
 · rw[List.map_append];exact List.nodup_append.2 ⟨h1.1,h2.2,fun a ha c hc e=>h1.2.2 a ha c (List.mem_cons_of_mem _ hc) e⟩
 · rcases(aff hx).1 ((h.all p b).2 hb)with e | h
   · rw[<-e]at hn;exact absurd rfl hn
   · exact h
theorem Mp.snoc{l:List (Nat × List UInt8)}(hn:(l.map Prod.fst).Nodup) (x:Nat × List UInt8) (hne:∀y∈l,y.1≠x.1) (h:∀p b,H'.Has p b ↔ (p=x.1/\b=x.2)\/(p,b)∈l):Mp H' (l++ [x]):=by
 refine⟨?_,fun p b=> ?_⟩
 · rw[List.map_append,List.map_singleton];refine List.nodup_append.2 ⟨hn,by simp,fun a ha c hc e=> ?_⟩;obtain⟨y,hy,rfl⟩:=List.mem_map.1 ha;rw[List.mem_singleton]at hc;exact hne y hy (e.trans hc)
 · rw[h,List.mem_append,List.mem_singleton];constructor
   · rintro(h | h)
     · exact .inr h
     · exact .inl ⟨congrArg Prod.fst h,congrArg Prod.snd h⟩
   · rintro(⟨h1,h2⟩ | h)
     · exact .inr (Prod.ext h1 h2)
     · exact .inl h
end
end Go.Proofs.YtncadccbepjekaaGreatDoor
