/- Texts of mine, joined. -/
import Derived.Test.YtncadccbepjekaaGreatDoorU21
import Derived.Test.YtncadccbepjekaaGreatDoorU23
set_option maxRecDepth 100000
set_option maxHeartbeats 4000000
namespace Go.Proofs.YtncadccbepjekaaGreatDoor
open Go.RowKit
theorem avu:awf:=by
 intro w g base cap c A bs k x h hb hl hk hx;have hk1:¬(k:Int)<0:=by omega
 have hk2:¬22<=(k:Int):=by omega
 by_cases h0:bs.length<184
 · obtain rfl:none=x:=by rw[<-hx];unfold afn;rw[if_pos h0]
   have HL:=hE0 (abL h);clear hx h;go_enter Tryz.func102,Tryz.ntmps102
   go_wp2_with fail
   with_reducible refine HL.out.mono ?_
   rintro e w1 ⟨rfl,rfl⟩;go_wp2
   go_ret2
   exact⟨none,0,rfl,World.ownsRow_nil _ _ _ _,Below.refl _ _⟩
 · obtain⟨f,hf⟩:=nmE (aaf bs (8+8*k));obtain⟨b,hbt⟩:=nmE (aco (aaf bs 0) k);have hfl:f<18446744073709551616:=by rw[<-hf];exact aan _ _
   have hx':(if b≠decide (f≠0) then none else ael bs k 1024 0 f)=x:=by rw[<-hx];unfold afn;rw[if_neg h0,hf,hbt]
   have HL:=hE0 (abL h);have HFA:=hE0 (aaD w k hk);have HNF:=hE0 (aai h hb hl (8+8*(k:Int)) (8+8*k) (by omega) (by omega) f hf);have HBT:=hE0 (alS h hb hl (by omega) k hk b hbt);have HAR:=hE0 h;have HBASE:=hE0 hb;obtain⟨d,hd⟩:=nmE (decide (f≠0));have hd2:((f:Int) !=0)=d:=by
    rw[<-hd,Bool.eq_iff_iff,bne_iff_ne,decide_eq_true_eq];omega
   rw[hd]at hx';clear hf hbt hx h hb;by_cases hbd:b=d
   · subst hbd;rw[if_neg (by simp)]at hx';obtain⟨i0,hi,hz0,hz1,hz2⟩:=info_parts ath;have HX:=hE0 hx';obtain⟨B0,hB0⟩:=nmE w.heap.size;have HB0:=hE0 hB0;have hbb:(b !=b)=false:=by simp
     clear hx' hB0 hd;go_enter Tryz.func102,Tryz.ntmps102
     go_wp2_with fail
     with_reducible refine HL.out.mono ?_
     rintro e w1 ⟨rfl,rfl⟩;go_wp2_with fail
     with_reducible refine HFA.out.mono ?_
     rintro e w1 ⟨rfl,rfl⟩;go_wp2_with fail
     with_reducible refine HNF.out.mono ?_
     rintro e w1 ⟨rfl,rfl⟩;go_wp2_with fail
     with_reducible refine HBT.out.mono ?_
     rintro e w1 ⟨rfl,rfl⟩;clear HL HFA HNF HBT;go_wp2
     clear hd2;go_loopw [6,7,8] (fun q o t wr=>∃(p last n:Nat) (l:List Nat),q= .int .u64 (p:Int)/\t= .int .u64 (last:Int)/\p<18446744073709551616/\last<18446744073709551616/\n+l.length=1024/\x=(ael bs k n last p).map (l++ ·)/\wr.ownsRow B0 3 1 o l.length (l.map iV)/\Below B0 w wr) (fun _ o _ _=>match o with | .slice _ n _=>1024-n | _=>0)
     case atStart=>exact⟨f,0,1024,[],rfl,rfl,hfl,by omega,rfl,by rw[HX.out];simp,World.ownsRow_nil _ _ _ _,Below.refl _ _⟩
     case round=>
      obtain⟨p,last,n,l,rfl,rfl,hp,hlast,hn,hxl,hown,hbw⟩:=hrel;obtain⟨A7,c7,rfl⟩:=ahY hown;have hBw:B0<=wr.heap.size:=by have:=hbw.size;have:=HB0.out;omega
      by_cases hp0:p=0
      · subst hp0;obtain rfl:x=some l:=by rw[hxl];cases n<;>simp[ael]
        have HB:=hE0 hbw;have HO:=hE0 hown;clear hxl hown hbw HX HAR HBASE;go_wp2
        go_ret2
        exact⟨A7,c7,rfl,by rw[HB0.out];exact HO.out,by rw[HB0.out];exact HB.out⟩
      · have hq0:((p:Int) !=0)=true:=by rw[bne_iff_ne];omega
        have har:=HAR.out.below (by rw[HB0.out];exact hbw);by_cases hn0:n=0
        · subst hn0;obtain rfl:x=none:=by rw[hxl];simp[ael,hp0]
          have e1:((l.length:Int)==1024)=true:=by rw[beq_iff_eq];omega
          have HB:=hE0 hbw;clear hxl hown hbw HX HAR HBASE har;go_wp2
          go_ret2
          exact⟨none,0,rfl,World.ownsRow_nil _ _ _ _,by rw[HB0.out];exact HB.out⟩
        · obtain⟨n,rfl⟩:∃n',n=n'+1:=⟨n-1,by omega⟩;have e1:((l.length:Int)==1024)=false:=by rw[beq_eq_false_iff_ne];omega
          have hstep:x=(if aap bs p (k:Int)=true/\aaf bs (p+16)=last then (ael bs k n p (aaf bs (p+8))).map (p:: ·) else none).map (l++ ·):=by
           rw[hxl];conv=>lhs;unfold ael
           rw[if_neg hp0]
          cases hm:abr bs k p 16 last with
          | false=>
           rw[if_neg (by
            rintro⟨h1,h2⟩;unfold abr at hm;rw[h1,h2]at hm;simp at hm)]at hstep
           obtain rfl:x=none:=hstep;have HM:=hE0 (abK har HBASE.out hl k p 16 last hk hp (by omega) false hm);have HB:=hE0 hbw;clear hxl hown hbw HX HAR HBASE har hm;go_wp2_with fail
           refine HM.out.mono ?_;rintro e w2 ⟨rfl,hb2⟩;have HB2:=hE0 (HB.out.trans (hb2.mono hBw));clear hb2;go_wp2
           go_ret2
           exact⟨none,0,rfl,World.ownsRow_nil _ _ _ _,by rw[HB0.out];exact HB2.out⟩
          | true=>
           obtain⟨hm1,hm2⟩:aap bs p (k:Int)=true/\aaf bs (p+16)=last:=by
            unfold abr at hm;rw[Bool.and_eq_true,beq_iff_eq]at hm;exact hm
           have hpf:=aaM hm1;obtain⟨nx,hnx⟩:=nmE (aaf bs (p+8));have hnl:nx<18446744073709551616:=by rw[<-hnx];exact aan _ _
           rw[if_pos ⟨hm1,hm2⟩,hnx]at hstep;have hstep':x=(ael bs k n p nx).map ((l++ [p])++ ·):=by
            rw[hstep,Option.map_map];congr 1;funext r;simp
           have hp16:p<=16384:=by omega
           have hww:w.heap.size<=wr.heap.size:=by have:=HB0.out;omega
           have HN:=hE0 (fun W (hB:Below w.heap.size w W)=>aai (HAR.out.below hB) HBASE.out hl ((p:Int)+8) (p+8) (by omega) (by omega) nx hnx);have HM:=hE0 (abK har HBASE.out hl k p 16 last hk hp (by omega) true hm);have HB:=hE0 hbw;have HS:=hE0 hstep';have HOWN:=hE0 hown;have HALT:Hid (∀k,(Value.slice A7 l.length c7).ownBlock=some k->B0<=k/\k<wr.heap.size):=hown.lt;clear hxl hstep hstep' hown hbw HX hm hm1 hm2 hnx har HAR HBASE;go_wp2_with fail
           refine HM.out.mono ?_;rintro e w2 ⟨rfl,hb2⟩;have H2:=hE0 hb2;have own4:=aav (aav HOWN.out hb2) ((Below.refl w2.heap.size w2).alloc (Nat.le_refl _) (.cells #[.int .i64 (p:Int)] 3));have n4:(w2.alloc (.cells #[.int .i64 (p:Int)] 3)).heap[w2.heap.size]?=some (.cells #[.int .i64 (p:Int)] 3 (0,0)):=heap_alloc_new w2 _;have HNEW:Hid (∀j u,[Value.int .i64 (p:Int)][j]?=some u->(w2.alloc (.cells #[.int .i64 (p:Int)] 3)).cell? ((⟨w2.heap.size,0,none⟩:Addr).add j)=some u):=fun j u hu=>by
            have e:(⟨w2.heap.size,0,none⟩:Addr).add j=⟨w2.heap.size,j,none⟩:=by unfold Addr.add;split<;>simp_all
            rw[e,cell_of_row _ _ j _ _ (0,0) n4];simpa using hu
           have HONE:Hid (∀u∈ [Value.int .i64 (p:Int)],u.oneCell'=true):=fun u hu=>by
            simp at hu;subst hu;rfl
           have hB4:B0<=(w2.alloc (.cells #[.int .i64 (p:Int)] 3)).heap.size:=by simp;have:=hb2.size;omega
           have HB4:Hid (Below w2.heap.size w2 (w2.alloc (.cells #[.int .i64 (p:Int)] 3))):=(Below.refl w2.heap.size w2).alloc (Nat.le_refl _) _;have OWN4:=hE0 own4;have hsz2:=hb2.size;clear own4 n4 hb2 HOWN HM;go_wp2_with (first
            | (at_builtin;go_must (refine wpList_append_own _ rfl _ _ 23 rfl B0 3 i0 _ 1 8 Tryz.underlying23 hi hz0 hz1 hz2 rfl (by decide) _ l.length (l.map iV) rfl OWN4.out ⟨w2.heap.size,0,none⟩ 1 1 [.int .i64 (p:Int)] rfl rfl HNEW.out HONE.out (by unfold maxLen;omega) (by omega) hB4 ?_);intro x5 w5 own5 gr5 at5
               have gr5':(w2.alloc (.cells #[.int .i64 (p:Int)] 3)).grownBy w5 (Value.slice A7 l.length c7).ownBlock:=gr5;have HB5:Hid (Below B0 wr w5):=((H2.out.mono hBw).trans (HB4.out.mono (by omega))).grown gr5' hB4 (fun k hk=>(HALT.out k hk).1);have HW5:Hid (Below w.heap.size w w5):=(show Below w.heap.size w w5 by rw[HB0.out];exact HB.out.trans HB5.out);have OWN5:Hid (w5.ownsRow B0 3 1 x5 (l.length+1) ((l++ [p]).map iV)):=(show World.ownsRow _ _ _ _ _ _ _ by rw[List.map_append];exact own5);clear own5 gr5 gr5' at5)
            | fail)
           refine(HN.out w5 HW5.out).mono ?_;rintro e w6 ⟨rfl,rfl⟩;have HBE:=hE0 (HB.out.trans HB5.out);clear HN H2 HB4 OWN4 HNEW HONE;go_wp2
           go_roundw
           case rel=>exact⟨nx,p,n,l++ [p],rfl,rfl,hnl,hp,by rw[List.length_append,List.length_singleton];omega,HS.out,by rw[List.length_append,List.length_singleton];exact OWN5.out,HBE.out⟩
           case measure=>
            obtain⟨A8,c8,rfl⟩:=ahY OWN5.out;simp;omega
   · rw[if_pos hbd]at hx';obtain rfl:none=x:=hx';have hcs:(b=true/\d=false)\/(b=false/\d=true):=by cases b<;>cases d<;>simp_all
     clear hd hbd HAR HBASE;rcases hcs with⟨rfl,rfl⟩ | ⟨rfl,rfl⟩;all_goals
      go_enter Tryz.func102,Tryz.ntmps102
      go_wp2_with fail
      with_reducible refine HL.out.mono ?_
      rintro e w1 ⟨rfl,rfl⟩;go_wp2_with fail
      with_reducible refine HFA.out.mono ?_
      rintro e w1 ⟨rfl,rfl⟩;go_wp2_with fail
      with_reducible refine HNF.out.mono ?_
      rintro e w1 ⟨rfl,rfl⟩;go_wp2_with fail
      with_reducible refine HBT.out.mono ?_
      rintro e w1 ⟨rfl,rfl⟩;clear HL HFA HNF HBT;go_wp2
      go_ret2
      exact⟨none,0,rfl,World.ownsRow_nil _ _ _ _,Below.refl _ _⟩
theorem au4{l:List Bk}{all:List Nat}{j o:Nat}(ho:all[j]?=some o) (h:(acx l o&& !(all.take j).contains o)=false):all.all (okO l all)=false:=by
 rw[List.all_eq_false];refine⟨o,List.mem_of_getElem? ho,?_⟩;unfold okO
 cases hf:acx l o
 · simp
 · rw[hf,Bool.true_and,Bool.not_eq_false',List.contains_iff_mem]at h;obtain⟨hj,e⟩:=List.getElem?_eq_some_iff.1 ho;have h1:0<(all.take j).count o:=List.count_pos_iff.2 h;have h2:0<(all.drop j).count o:=List.count_pos_iff.2 (by rw[List.drop_eq_getElem_cons hj,e];exact List.mem_cons_self);have h3:all.count o=(all.take j).count o+(all.drop j).count o:=by
    rw[<-List.count_append,List.take_append_drop]
   have:(all.count o==1)=false:=by rw[beq_eq_false_iff_ne];omega
   rw[this];simp
theorem atV{l:List Bk}{all:List Nat}(hn:all.Nodup) (h:∀o∈all,acx l o=true):all.all (okO l all)=true:=by
 rw[List.all_eq_true];intro o ho;unfold okO;have h1:0<all.count o:=List.count_pos_iff.2 ho;have h2:=List.nodup_iff_count.1 hn o;rw[h o ho,show all.count o=1 by omega];rfl
theorem ajd{all:List Nat}{j o:Nat}(ho:all[j]?=some o):all.take (j+1)=all.take j++ [o]:=by
 rw[List.take_add_one,ho];rfl
theorem aqo{all:List Nat}{j o:Nat}(ho:all[j]?=some o) (hn:(all.take j).Nodup) (h:(all.take j).contains o=false):(all.take (j+1)).Nodup:=by
 rw[ajd ho,List.nodup_append];refine⟨hn,by simp,fun a ha b hb e=> ?_⟩;obtain rfl:b=o:=by simpa using hb
 subst e;rw[List.contains_iff_mem.2 ha]at h
 cases h
theorem aje{bs:List UInt8}{l:List Bk}(hg:∀x∈l,aa6 bs (x.off:Int)=some x){o k:Nat}(h:aap bs o (k:Int)=true):acb l o k=acx l o:=by
 unfold acb acx;rw[Bool.eq_iff_iff,List.any_eq_true,List.any_eq_true];unfold aap at h;refine exists_congr fun x=>and_congr_right fun hx=> ?_;have h1:=hg x hx;by_cases e:x.off=o
 · rw[<-e,h1]at h;dsimp only at h;rw[Bool.and_eq_true,Bool.and_eq_true]at h;rw[h.2.1,h.2.2];simp
 · have:(x.off==o)=false:=by rw[beq_eq_false_iff_ne];exact e
   rw[this];simp
theorem BkRd.later{w w':World}{B B':Nat}{A:Option Addr}{l:List Bk}(h:BkRd w B A l) (hb:Below B w w') (hB:B<=B'):BkRd w' B' A l:=fun h0=>by
 obtain⟨b,o,e,hbb,hc⟩:=h h0;refine⟨b,o,e,by omega,fun j x hx=> ?_⟩;obtain⟨p0,p1,p2⟩:=hc j x hx;exact⟨aaV hb p0 hbb,aaV hb p1 hbb,aaV hb p2 hbb⟩
theorem aqp{S:Nat->Prop}{w w':World}(h:Tch S w w'){b j:Nat}{v:Value}(hc:w.cell? ⟨b,j,none⟩=some v) (hb:b<w.heap.size) (hn:¬S b):w'.cell? ⟨b,j,none⟩=some v:=
 (World.cell?_of_block (w:=w) (a:=⟨b,j,none⟩) (h.block b hb hn)).trans hc
def alX (f:Nat->Nat->Bool) (d:Nat) (m:List Nat):Nat->Nat->Bool:=fun o k=>f o k&& !(k==d&&m.contains o)
theorem aob (w0 w:World) (g base cap c:Nat) (A:Option Addr) (bs:List UInt8) (h:Ar w0 195 g base cap A c bs) (hb:base<=4611686018427387904) (hl:bs.length<=16384) (hw:Below w0.heap.size w0 w)
 (B n z:Nat) (f:Nat->Nat->Bool) (hps:PSet w B n f z) (hB:w0.heap.size<=B) (l:List Bk) (hf:∀k:Nat,k<22->∀o,aap bs o (k:Int)=true->f o k=acx l o) (y:Bool) (hy:agb bs l 22 0 (z:Int)=y):
 Calls Tryz.prog 115 #[.pointer (some ⟨g,0,none⟩), .map (some B)] w fun e w'=>e= .returned (.bool y)/\Below w0.heap.size w0 w':=by
 have HAR:=hE0 h;have HBASE:=hE0 hb;have HW:=hE0 hw;have HPS:=hE0 hps;have HF:=hE0 hf;have HY:=hE0 hy;clear h hb hw hps hf hy;go_enter Tryz.func115,Tryz.ntmps115
 go_wp2
 go_loopw [11] (fun t wr=>∃(d k z:Nat) (f:Nat->Nat->Bool),t= .int .i64 (d:Int)/\d+k=22/\y=agb bs l k d (z:Int)/\PSet wr B n f z/\(∀k':Nat,d<=k'->k'<22->∀o,aap bs o (k':Int)=true->f o k'=acx l o)/\Below w0.heap.size w0 wr) (fun t _=>22-(intOf t).toNat)
 case atStart=>exact⟨0,22,z,f,rfl,rfl,HY.out.symm,HPS.out,fun k' _ h=>HF.out k' h,HW.out⟩
 case round=>
  clear HPS HF HY HW;obtain⟨d,k,z,f,rfl,hdk,hyk,hps,hfm,hbe⟩:=hrel;generalize wr=wq at*;by_cases hd22:d<22
  · obtain⟨k,rfl⟩:∃k',k=k'+1:=⟨k-1,by omega⟩;have har:Ar wq 195 g base cap A c bs:=HAR.out.below hbe;have hBq:=hps.lt
    cases ha:afn bs d with
    | none=>
     obtain rfl:y=false:=by rw[hyk];simp[agb,ha]
     have hA:=avu wq g base cap c A bs d _ har HBASE.out hl hd22 ha;dsimp only[afd,Option.isSome,Option.getD,aat]at hA;have HA:=hE0 hA;have HB:=hE0 hbe;clear hA hbe hyk har ha HAR hps hfm;go_wp2_with fail
     with_reducible refine HA.out.mono ?_
     rintro e w2 ⟨A',c',rfl,_,hb3⟩;have HB2:=hE0 (HB.out.trans (hb3.mono (by omega)));clear hb3;go_wp2
     go_ret
     exact⟨rfl,HB2.out⟩
    | some all=>
     have hA:=avu wq g base cap c A bs d _ har HBASE.out hl hd22 ha;dsimp only[afd,Option.isSome,Option.getD,aat]at hA;have hyk':y=(all.all (okO l all)&&agb bs l k (d+1) ((z:Int)-all.length)):=by
      rw[hyk];conv=>lhs;unfold agb
      rw[ha]<;>rfl
     have hmem:∀o∈all,aap bs o (d:Int)=true/\o<=20000:=fun o ho=>⟨acL ha o ho,(aeG (acL ha o ho)).1⟩;have hal:=arr ha;have HA:=hE0 hA;have HB:=hE0 hbe;have HYK:=hE0 hyk';have HMEM:=hE0 hmem;have HPS:=hE0 hps;have HFM:=hE0 hfm;clear hA hbe hyk hyk' har ha hps hfm hmem;go_wp2_with fail
     with_reducible refine HA.out.mono ?_
     rintro e w2 ⟨A2,c2,rfl,ho2,hb3⟩;have HO2:=hE0 ho2;have HB2:=hE0 (HB.out.trans (hb3.mono (by omega)));have HPS2:=hE0 (HPS.out.below hb3 hBq);have hs2:=hb3.size;clear hb3 ho2 HA HB HPS;go_wp2
     go_loopw [24] (fun t wi=>∃j z':Nat,t= .int .i64 (j:Int)/\j<=all.length/\z'+j=z/\(all.take j).Nodup/\(∀o∈all.take j,acx l o=true)/\PSet wi B n (alX f d (all.take j)) z'/\Tch (fun q=>q=B) w2 wi) (fun t _=>all.length-(intOf t).toNat)
     case atStart=>exact⟨0,z,rfl,Nat.zero_le _,by omega,by simp,by simp,HPS2.out.same (fun o k _ _=>by simp[alX]),Tch.refl _ _⟩
     case round=>
      clear HPS2;obtain⟨j,z',rfl,hj,hz,hnd,hfd,hps,htc⟩:=hrel;by_cases hlt:j<all.length
      · obtain⟨o,ho⟩:∃o,all[j]?=some o:=⟨all[j],List.getElem?_eq_getElem hlt⟩;obtain⟨hmo,ho2⟩:=HMEM.out o (List.mem_of_getElem? ho);obtain⟨b2,o2,rfl,hbb,hcl⟩:=arO HO2.out rfl (by simp[auw];omega);have hbB:wq.heap.size<=b2:=(HO2.out.lt b2 rfl).1;have p0:=hcl j (o:Int) (by simp[auw,ho]);have r0:=aqp htc p0 hbb (by omega);have hff:=HFM.out d (Nat.le_refl _) hd22 o hmo;obtain⟨bb,hbbv⟩:=nmE ((acx l o&& !(all.take j).contains o));have hlook:alX f d (all.take j) o d=bb:=by
         unfold alX;rw[hff,<-hbbv];simp
        have hBi:=hps.lt;obtain⟨w4,hw4⟩:=nmE (wr.alloc (.cells #[.int .i64 (o:Int), .int .i64 (d:Int)] 251));have hb4:=abE hw4;have n4:=anE hw4;have d0:=cell_of_row w4 wr.heap.size 0 _ _ (0,0) n4;have d1:=cell_of_row w4 wr.heap.size 1 _ _ (0,0) n4;simp only[List.getElem?_toArray,List.getElem?_cons_zero,List.getElem?_cons_succ]at d0 d1;have HW4:=hE0 hw4;have HP4:=hE0 (hps.below hb4 hBi);have HT4:=hE0 (htc.trans (S':=fun q=>q=B) (Tch.of_below hb4) (fun _ _ h=>h));have HLK:=hE0 hlook;have HBBV:=hE0 hbbv;have HND:=hE0 hnd;have HFD:=hE0 hfd;have HO:=hE0 ho;clear ho hmo hcl p0 hff hlook hbbv hps htc hb4 n4 hw4 hnd hfd HAR HO2 HMEM HFM
        cases bb with
        | false=>
         obtain rfl:y=false:=by rw[HYK.out,au4 HO.out HBBV.out];rfl
         have HE:=hE0 (HB2.out.trans (HT4.out.below (B:=w0.heap.size) (fun q hq=>by omega) (by omega)));clear HB2 HT4 HYK;go_wp2_with (first | (rw[HW4.out]) | (at_lookup;refine ah3 rfl _ _ rfl rfl HP4.out o d (by omega) (by omega) rfl false HLK.out ?_) | fail)
         go_ret
         exact⟨rfl,HE.out⟩
        | true=>
         go_wp2_with (first | (rw[HW4.out]) | (at_lookup;refine ah3 rfl _ _ rfl rfl HP4.out o d (by omega) (by omega) rfl true HLK.out ?_) | (at_delete;refine aph rfl _ _ rfl rfl HP4.out o d (by omega) (by omega) rfl HLK.out ?_;intro w5 z5 hz5 hp5 ht5;have HP5:=hE0 hp5;have HT5:=hE0 (HT4.out.trans ht5 (fun _ _ h=>h));have HZ5:=hE0 hz5;clear hp5 ht5 hz5) | fail)
         go_roundw
         case rel=>
          have hno:(all.take j).contains o=false:=by
           have:=HBBV.out;rw[Bool.and_eq_true,Bool.not_eq_true']at this;exact this.2
          have hyes:acx l o=true:=by
           have:=HBBV.out;rw[Bool.and_eq_true]at this;exact this.1
          refine⟨j+1,z5,by go_num,by omega,by have:=HZ5.out;omega,aqo HO.out HND.out hno,fun q hq=> ?_,?_,HT5.out⟩
          · rw[ajd HO.out,List.mem_append]at hq;rcases hq with hq | hq
            · exact HFD.out q hq
            · obtain rfl:q=o:=by simpa using hq
              exact hyes
          · refine HP5.out.same fun q k' _ _=> ?_;unfold alX;rw[ajd HO.out,Bool.and_assoc];congr 1;rw[Bool.eq_iff_iff];simp;by_cases e1:k'=d<;>by_cases e2:q=o<;>simp[e1,e2]
         case measure=>simp only[intOf];omega
      · have ejl:j=all.length:=by omega
        have et:all.take j=all:=List.take_of_length_le (by omega);rw[et]at hnd hfd hps;have hyn:y=agb bs l k (d+1) (z':Int):=by
         rw[HYK.out,atV hnd hfd,Bool.true_and];congr 1;omega
        have HYN:=hE0 hyn;have HP:=hE0 hps;have HE:=hE0 (HB2.out.trans (htc.below (B:=w0.heap.size) (fun q hq=>by omega) (by omega)));clear hyn hps htc hnd hfd et ejl HYK HB2 HO2;go_wp2
        go_roundw
        case rel=>
         refine⟨d+1,k,z',alX f d all,by go_num,by omega,HYN.out,HP.out,fun k' h1 h2 q hq=> ?_,HE.out⟩;have:(k'==d)=false:=by rw[beq_eq_false_iff_ne];omega
         unfold alX;rw[this,Bool.false_and,Bool.not_false,Bool.and_true];exact HFM.out k' (by omega) h2 q hq
        case measure=>simp only[intOf];omega
  · obtain⟨rfl,rfl⟩:d=22/\k=0:=by omega
    have hyz:y=((z:Int)==0):=hyk;have HYZ:=hE0 hyz;have HPS:=hE0 hps;have HB:=hE0 hbe;clear hyz hyk hps hbe hfm HAR;go_wp2_with (first | (at_len;refine api rfl _ rfl rfl HPS.out ?_) | fail)
    go_ret
    exact⟨asG HYZ.out.symm,HB.out⟩
end Go.Proofs.YtncadccbepjekaaGreatDoor
