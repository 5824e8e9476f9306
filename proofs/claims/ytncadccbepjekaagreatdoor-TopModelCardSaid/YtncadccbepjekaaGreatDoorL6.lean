/- Texts of mine, joined. -/
import Derived.Test.YtncadccbepjekaaGreatDoorL5
set_option maxRecDepth 100000
set_option maxHeartbeats 4000000
namespace Go.Proofs.YtncadccbepjekaaGreatDoor
open Go.RowKit
def ab8 (l:List Bk) (o k:Nat):Bool:=l.any fun x=>x.off==o&& !x.used&&aaq (x.size:Int)==(k:Int)
theorem ah1:∀(l:List Bk) (o e:Nat),aby o l e->l.Pairwise (fun a b=>a.off<b.off)
 | [],_,_,_=>List.Pairwise.nil
 | x::r,o,e,⟨a,b,c⟩=>by
  have q:=(aab _).1 b;refine List.pairwise_cons.2 ⟨fun y hy=> ?_,ah1 r _ _ c⟩;have:=((aak r _ _ c).2 y hy).1;omega
theorem alB{l:List Bk}{j:Nat}{x:Bk}(h:l[j]?=some x) (o k:Nat):ab8 (l.take (j+1)) o k=(ab8 (l.take j) o k || (x.off==o&& !x.used&&aaq (x.size:Int)==(k:Int))):=arz h
theorem anS{l:List Bk}{j:Nat}{x:Bk}(hp:l.Pairwise (fun a b=>a.off<b.off)) (h:l[j]?=some x) (k:Nat):ab8 (l.take j) x.off k=false:=by
 unfold ab8;rw[List.any_eq_false];intro y hy hc;obtain⟨i,hi,e⟩:=List.getElem_of_mem hy;rw[List.length_take]at hi;rw[List.getElem_take]at e;obtain⟨hj,e2⟩:=List.getElem?_eq_some_iff.1 h;have:=List.pairwise_iff_getElem.1 hp i j (by omega) hj (by omega);rw[e,e2]at this;simp at hc;omega
theorem ar5{l:List Bk}{j:Nat}{x:Bk}(h:l[j]?=some x):abm (l.take (j+1))=abm (l.take j)+if x.used=true then 0 else 1:=by
 unfold abm;rw[ale h]
 cases x.used<;>rfl
theorem alC (w:World) (A2:Option Addr) (c2:Nat) (l:List Bk) (hr:BkRd w w.heap.size A2 l) (hl:l.length<=100000) (hp:l.Pairwise (fun a b=>a.off<b.off))
 (hg:∀x∈l,aaG (x.size:Int)=true/\x.off<=100000):
 Calls Tryz.prog 116 #[.slice A2 l.length c2] w fun e w'=>e= .returned (.map (some w.heap.size))/\PSet w' w.heap.size l.length (ab8 l) (abm l)/\Below w.heap.size w w':=by
 have HR:=hE0 hr;have HG:=hE0 hg;have HP:=hE0 hp;have hmm:= @run_makeMap Tryz.prog;obtain⟨B0,hB0⟩:=nmE w.heap.size;have HB0:=hE0 hB0;have hP0:=PSet.made w;rw[hB0]at hP0;obtain⟨w1,hw1⟩:=nmE (w.alloc (.map #[] 0));have hb1:=abE hw1;rw[hw1]at hP0;have HW1:=hE0 hw1;have HB1:=hE0 hb1;have HP0:=hE0 hP0;clear hr hg hp hP0 hw1 hb1;go_enter Tryz.func116,Tryz.ntmps116
 go_wp2_with (first | (rw[HW1.out]) | fail)
 clear hmm hB0;go_loopw [9] (fun t wr=>∃j:Nat,t= .int .i64 (j:Int)/\j<=l.length/\PSet wr B0 j (ab8 (l.take j)) (abm (l.take j))/\Below B0 w wr) (fun t _=>l.length-(intOf t).toNat)
 case atStart=>exact⟨0,rfl,Nat.zero_le _,HP0.out,by rw[<-HB0.out];exact HB1.out⟩
 case round=>
  obtain⟨j,rfl,hj,hps,hbe⟩:=hrel;by_cases hlt:j<l.length
  · obtain⟨x,hx⟩:∃x,l[j]?=some x:=⟨l[j],List.getElem?_eq_getElem hlt⟩;obtain⟨b2,o,rfl,hbb,hcl⟩:=HR.out (by omega);rw[HB0.out]at hbb;obtain⟨p0,p1,p2⟩:=hcl j x hx;have ht:=alB hx;have hn:=anS HP.out hx;have hct:=ar5 hx;obtain⟨hsz,hoff⟩:=HG.out x (List.mem_of_getElem? hx);obtain⟨k,hk,hk22⟩:=abz hsz;have hq:=(aab _).1 hsz;have r0:=aa1 hbe p0 hbb;have r1:=aa1 hbe p1 hbb;have r2:=aa1 hbe p2 hbb;obtain⟨xo,xs,xu⟩:=x;dsimp only at p0 p1 p2 r0 r1 r2 ht hn hct hoff hk hq;have hBr:=hps.lt;obtain⟨w4,hw4⟩:=nmE (wr.alloc (.cells #[.int .i64 (xo:Int), .int .i64 (xs:Int), .bool xu] 112));have hb4:=abE hw4;have n4:=anE hw4;obtain⟨⟨d0,d1,d2⟩,_⟩:=aad n4;have hlt4:=aae n4;have ps4:=hps.below hb4 hBr;have HW4:=hE0 hw4;have HB4:=hE0 (hbe.trans (hb4.mono (by omega)))
    cases xu with
    | true=>
     have hP:PSet w4 B0 (j+1) (ab8 (l.take (j+1))) (abm (l.take (j+1))):=by
      rw[hct];exact(ps4.mono (Nat.le_succ j)).same fun o k _ _=>by rw[ht];simp
     have HPN:=hE0 hP;clear hx hbe hps p0 p1 p2 hb4 n4 hw4 hcl hk hsz ht hn hct ps4 hP;go_wp2_with (first | (rw[HW4.out]) | fail)
     go_roundw
     case rel=>exact⟨j+1,by go_num,by omega,HPN.out,HB4.out⟩
     case measure=>simp only[intOf];omega
    | false=>
     have hC:=fun W=>ajV W (xs:Int) (by omega);rw[hk]at hC;have HC:=hE0 (hC w4.drew);have HPS:=hE0 (⟨ps4,hlt4⟩:PSet w4 B0 j (ab8 (l.take j)) (abm (l.take j))/\wr.heap.size<w4.heap.size);have hP:∀W,PSet W B0 (j+1) (fun p' c'=>ab8 (l.take j) p' c' || (p'==xo&&c'==k)) (abm (l.take j)+1)->PSet W B0 (j+1) (ab8 (l.take (j+1))) (abm (l.take (j+1))):=fun W h=>by
      rw[hct];refine h.same fun o k' _ _=> ?_;rw[ht,hk];congr 1;rw[Bool.eq_iff_iff];simp;omega
     have HPN:=hE0 hP;have HN:=hE0 (hn k);clear hx hbe hps p0 p1 p2 hb4 n4 hw4 hcl hk hsz ht hn hct ps4 hP hC;go_wp2_with (first | (rw[HW4.out]) | fail)
     refine aao w4.heap.size [([0,1,2,3,4],5)] [6] [7] (by kernel_rfl) (by kernel_rfl) (by kernel_rfl) (fun _ _ _ _ _ h=>h) ?_;have q0:∀z:LaterB w4.heap.size w4.drew,z.val.cell? ⟨wr.heap.size,0,none⟩=some (.int .i64 (xo:Int)):=fun z=>aa1 z.ext d0 hlt4;have q1:∀z:LaterB w4.heap.size w4.drew,z.val.cell? ⟨wr.heap.size,1,none⟩=some (.int .i64 (xs:Int)):=fun z=>aa1 z.ext d1 hlt4;refine tail_cons (l:= ?seg1) ?hseg1 ?_
     case hseg1=>simp only[pick,lE1,lE2,lE3];rfl
     repeat (go_big_quiet_step (fail))
     refine wpQuiet_nil ?_;clear q0 q1;refine aar (vs:= #[.int .i64 (xs:Int)]) Tryz.call177 rfl rfl rfl (R:=fun r w'=>r= .int .i64 (k:Int)/\Below w4.heap.size w4.drew w') (HC.out.mono ?_) w4.heap.size (Nat.le_refl _) ?_
     · rintro e w' ⟨rfl,hb⟩;exact⟨_,rfl,hb,rfl,hb⟩
     rintro r w5 _ ⟨rfl,hb5⟩;have hb6:Below w4.heap.size w4 w5:=⟨hb5.os,hb5.tape,hb5.output,hb5.size,hb5.block⟩;have hs6:w4.heap.size<=w5.heap.size:=hb6.size;have hps5:=HPS.out.1.below hb6 (by omega);refine aaH (l:= ?la1) (t:= ?tl1) ?hla1 ?htl1 ?_
     case hla1=>simp only[pick,lE1,lE2,lE3];rfl
     case htl1=>simp only[pick,lE1,lE2,lE3];rfl
     simp only[Act.put,lE4,lE5,lE6];repeat (go_big_quiet_step (fail))
     refine wpQuiet_nil ?_;refine apQ rfl _ _ _ rfl rfl hps5 (by unfold maxLen;omega) xo k (by omega) (by omega) rfl rfl HN.out ?_;intro w6 hp6 ht6;have HP6:=hE0 (HPN.out w6 hp6);have HB6:=hE0 ((HB4.out.trans (hb6.mono (by omega))).trans (ht6.below (B:=B0) (fun q hq=>by omega) (by omega)));clear hp6 ht6 hps5 hb5 hb6 hs6;go_wp2
     go_roundw
     case rel=>exact⟨j+1,by go_num,by omega,HP6.out,HB6.out⟩
     case measure=>simp only[intOf];omega
  · have e:l.take j=l:=List.take_of_length_le (by omega);rw[e]at hps;have HPS:=hE0 (hps.mono (n':=l.length) (by omega));have HB:=hE0 hbe;clear hbe hps e;go_wp2
    go_ret
    exact⟨by rw[HB0.out];rfl,by rw[HB0.out];exact HPS.out,by rw[HB0.out];exact HB.out⟩
theorem au2{l:List Bk}{all:List Nat}{j o:Nat}(ho:all[j]?=some o) (h:(acD l o&& !(all.take j).contains o)=false):all.all (okO l all)=false:=by
 rw[List.all_eq_false];refine⟨o,List.mem_of_getElem? ho,?_⟩;unfold okO
 cases hf:acD l o
 · simp
 · rw[hf,Bool.true_and,Bool.not_eq_false',List.contains_iff_mem]at h;obtain⟨hj,e⟩:=List.getElem?_eq_some_iff.1 ho;have h1:0<(all.take j).count o:=List.count_pos_iff.2 h;have h2:0<(all.drop j).count o:=List.count_pos_iff.2 (by rw[List.drop_eq_getElem_cons hj,e];exact List.mem_cons_self);have h3:all.count o=(all.take j).count o+(all.drop j).count o:=by
    rw[<-List.count_append,List.take_append_drop]
   have:(all.count o==1)=false:=by rw[beq_eq_false_iff_ne];omega
   rw[this];simp
theorem atO{l:List Bk}{all:List Nat}(hn:all.Nodup) (h:∀o∈all,acD l o=true):all.all (okO l all)=true:=by
 rw[List.all_eq_true];intro o ho;unfold okO;have h1:0<all.count o:=List.count_pos_iff.2 ho;have h2:=List.nodup_iff_count.1 hn o;rw[h o ho,show all.count o=1 by omega];rfl
theorem ai2{all:List Nat}{j o:Nat}(ho:all[j]?=some o):all.take (j+1)=all.take j++ [o]:=by
 rw[List.take_add_one,ho];rfl
theorem apV{all:List Nat}{j o:Nat}(ho:all[j]?=some o) (hn:(all.take j).Nodup) (h:(all.take j).contains o=false):(all.take (j+1)).Nodup:=by
 rw[ai2 ho,List.nodup_append];refine⟨hn,by simp,fun a ha b hb e=> ?_⟩;obtain rfl:b=o:=by simpa using hb
 subst e;rw[List.contains_iff_mem.2 ha]at h
 cases h
theorem ai3{bs:List UInt8}{l:List Bk}(hg:∀x∈l,aa8 bs (x.off:Int)=some x){o k:Nat}(h:aap bs o (k:Int)=true):ab8 l o k=acD l o:=by
 unfold ab8 acD;rw[Bool.eq_iff_iff,List.any_eq_true,List.any_eq_true];unfold aap at h;refine exists_congr fun x=>and_congr_right fun hx=> ?_;have h1:=hg x hx;by_cases e:x.off=o
 · rw[<-e,h1]at h;dsimp only at h;rw[Bool.and_eq_true,Bool.and_eq_true]at h;rw[h.2.1,h.2.2];simp
 · have:(x.off==o)=false:=by rw[beq_eq_false_iff_ne];exact e
   rw[this];simp
theorem BkRd.later{w w':World}{B B':Nat}{A:Option Addr}{l:List Bk}(h:BkRd w B A l) (hb:Below B w w') (hB:B<=B'):BkRd w' B' A l:=fun h0=>by
 obtain⟨b,o,e,hbb,hc⟩:=h h0;refine⟨b,o,e,by omega,fun j x hx=> ?_⟩;obtain⟨p0,p1,p2⟩:=hc j x hx;exact⟨aa1 hb p0 hbb,aa1 hb p1 hbb,aa1 hb p2 hbb⟩
theorem apW{S:Nat->Prop}{w w':World}(h:Tch S w w'){b j:Nat}{v:Value}(hc:w.cell? ⟨b,j,none⟩=some v) (hb:b<w.heap.size) (hn:¬S b):w'.cell? ⟨b,j,none⟩=some v:=
 (World.cell?_of_block (w:=w) (a:=⟨b,j,none⟩) (h.block b hb hn)).trans hc
def alD (f:Nat->Nat->Bool) (d:Nat) (m:List Nat):Nat->Nat->Bool:=fun o k=>f o k&& !(k==d&&m.contains o)
theorem anT (w0 w:World) (g base cap c:Nat) (A:Option Addr) (bs:List UInt8) (h:Ar w0 195 g base cap A c bs) (hb:base<=4611686018427387904) (hl:bs.length<=16384) (hw:Below w0.heap.size w0 w)
 (B n z:Nat) (f:Nat->Nat->Bool) (hps:PSet w B n f z) (hB:w0.heap.size<=B) (l:List Bk) (hf:∀k:Nat,k<22->∀o,aap bs o (k:Int)=true->f o k=acD l o) (y:Bool) (hy:af1 bs l 22 0 (z:Int)=y):
 Calls Tryz.prog 115 #[.pointer (some ⟨g,0,none⟩), .map (some B)] w fun e w'=>e= .returned (.bool y)/\Below w0.heap.size w0 w':=by
 have HAR:=hE0 h;have HBASE:=hE0 hb;have HW:=hE0 hw;have HPS:=hE0 hps;have HF:=hE0 hf;have HY:=hE0 hy;clear h hb hw hps hf hy;go_enter Tryz.func115,Tryz.ntmps115
 go_wp2
 go_loopw [11] (fun t wr=>∃(d k z:Nat) (f:Nat->Nat->Bool),t= .int .i64 (d:Int)/\d+k=22/\y=af1 bs l k d (z:Int)/\PSet wr B n f z/\(∀k':Nat,d<=k'->k'<22->∀o,aap bs o (k':Int)=true->f o k'=acD l o)/\Below w0.heap.size w0 wr) (fun t _=>22-(intOf t).toNat)
 case atStart=>exact⟨0,22,z,f,rfl,rfl,HY.out.symm,HPS.out,fun k' _ h=>HF.out k' h,HW.out⟩
 case round=>
  clear HPS HF HY HW;obtain⟨d,k,z,f,rfl,hdk,hyk,hps,hfm,hbe⟩:=hrel;generalize wr=wq at*;by_cases hd22:d<22
  · obtain⟨k,rfl⟩:∃k',k=k'+1:=⟨k-1,by omega⟩;have har:Ar wq 195 g base cap A c bs:=HAR.out.below hbe;have hBq:=hps.lt
    cases ha:afH bs d with
    | none=>
     obtain rfl:y=false:=by rw[hyk];simp[af1,ha]
     have hA:=avF wq g base cap c A bs d _ har HBASE.out hl hd22 ha;dsimp only[afb,Option.isSome,Option.getD,aav]at hA;have HA:=hE0 hA;have HB:=hE0 hbe;clear hA hbe hyk har ha HAR hps hfm;go_wp2_with fail
     with_reducible refine HA.out.mono ?_
     rintro e w2 ⟨A',c',rfl,_,hb3⟩;have HB2:=hE0 (HB.out.trans (hb3.mono (by omega)));clear hb3;go_wp2
     go_ret
     exact⟨rfl,HB2.out⟩
    | some all=>
     have hA:=avF wq g base cap c A bs d _ har HBASE.out hl hd22 ha;dsimp only[afb,Option.isSome,Option.getD,aav]at hA;have hyk':y=(all.all (okO l all)&&af1 bs l k (d+1) ((z:Int)-all.length)):=by
      rw[hyk];conv=>lhs;unfold af1
      rw[ha]<;>rfl
     have hmem:∀o∈all,aap bs o (d:Int)=true/\o<=20000:=fun o ho=>⟨acM ha o ho,(aeE (acM ha o ho)).1⟩;have hal:=arv ha;have HA:=hE0 hA;have HB:=hE0 hbe;have HYK:=hE0 hyk';have HMEM:=hE0 hmem;have HPS:=hE0 hps;have HFM:=hE0 hfm;clear hA hbe hyk hyk' har ha hps hfm hmem;go_wp2_with fail
     with_reducible refine HA.out.mono ?_
     rintro e w2 ⟨A2,c2,rfl,ho2,hb3⟩;have HO2:=hE0 ho2;have HB2:=hE0 (HB.out.trans (hb3.mono (by omega)));have HPS2:=hE0 (HPS.out.below hb3 hBq);have hs2:=hb3.size;clear hb3 ho2 HA HB HPS;go_wp2
     go_loopw [24] (fun t wi=>∃j z':Nat,t= .int .i64 (j:Int)/\j<=all.length/\z'+j=z/\(all.take j).Nodup/\(∀o∈all.take j,acD l o=true)/\PSet wi B n (alD f d (all.take j)) z'/\Tch (fun q=>q=B) w2 wi) (fun t _=>all.length-(intOf t).toNat)
     case atStart=>exact⟨0,z,rfl,Nat.zero_le _,by omega,by simp,by simp,HPS2.out.same (fun o k _ _=>by simp[alD]),Tch.refl _ _⟩
     case round=>
      clear HPS2;obtain⟨j,z',rfl,hj,hz,hnd,hfd,hps,htc⟩:=hrel;by_cases hlt:j<all.length
      · obtain⟨o,ho⟩:∃o,all[j]?=some o:=⟨all[j],List.getElem?_eq_getElem hlt⟩;obtain⟨hmo,ho2⟩:=HMEM.out o (List.mem_of_getElem? ho);obtain⟨b2,o2,rfl,hbb,hcl⟩:=ary HO2.out rfl (by simp[auF];omega);have hbB:wq.heap.size<=b2:=(HO2.out.lt b2 rfl).1;have p0:=hcl j (o:Int) (by simp[auF,ho]);have r0:=apW htc p0 hbb (by omega);have hff:=HFM.out d (Nat.le_refl _) hd22 o hmo;obtain⟨bb,hbbv⟩:=nmE ((acD l o&& !(all.take j).contains o));have hlook:alD f d (all.take j) o d=bb:=by
         unfold alD;rw[hff,<-hbbv];simp
        have hBi:=hps.lt;obtain⟨w4,hw4⟩:=nmE (wr.alloc (.cells #[.int .i64 (o:Int), .int .i64 (d:Int)] 251));have hb4:=abE hw4;have n4:=anE hw4;have d0:=cell_of_row w4 wr.heap.size 0 _ _ (0,0) n4;have d1:=cell_of_row w4 wr.heap.size 1 _ _ (0,0) n4;simp only[List.getElem?_toArray,List.getElem?_cons_zero,List.getElem?_cons_succ]at d0 d1;have HW4:=hE0 hw4;have HP4:=hE0 (hps.below hb4 hBi);have HT4:=hE0 (htc.trans (S':=fun q=>q=B) (Tch.of_below hb4) (fun _ _ h=>h));have HLK:=hE0 hlook;have HBBV:=hE0 hbbv;have HND:=hE0 hnd;have HFD:=hE0 hfd;have HO:=hE0 ho;clear ho hmo hcl p0 hff hlook hbbv hps htc hb4 n4 hw4 hnd hfd HAR HO2 HMEM HFM
        cases bb with
        | false=>
         obtain rfl:y=false:=by rw[HYK.out,au2 HO.out HBBV.out];rfl
         have HE:=hE0 (HB2.out.trans (HT4.out.below (B:=w0.heap.size) (fun q hq=>by omega) (by omega)));clear HB2 HT4 HYK;go_wp2_with (first | (rw[HW4.out]) | (at_lookup;refine ah0 rfl _ _ rfl rfl HP4.out o d (by omega) (by omega) rfl false HLK.out ?_) | fail)
         go_ret
         exact⟨rfl,HE.out⟩
        | true=>
         go_wp2_with (first | (rw[HW4.out]) | (at_lookup;refine ah0 rfl _ _ rfl rfl HP4.out o d (by omega) (by omega) rfl true HLK.out ?_) | (at_delete;refine apR rfl _ _ rfl rfl HP4.out o d (by omega) (by omega) rfl HLK.out ?_;intro w5 z5 hz5 hp5 ht5;have HP5:=hE0 hp5;have HT5:=hE0 (HT4.out.trans ht5 (fun _ _ h=>h));have HZ5:=hE0 hz5;clear hp5 ht5 hz5) | fail)
         go_roundw
         case rel=>
          have hno:(all.take j).contains o=false:=by
           have:=HBBV.out;rw[Bool.and_eq_true,Bool.not_eq_true']at this;exact this.2
          have hyes:acD l o=true:=by
           have:=HBBV.out;rw[Bool.and_eq_true]at this;exact this.1
          refine⟨j+1,z5,by go_num,by omega,by have:=HZ5.out;omega,apV HO.out HND.out hno,fun q hq=> ?_,?_,HT5.out⟩
          · rw[ai2 HO.out,List.mem_append]at hq;rcases hq with hq | hq
            · exact HFD.out q hq
            · obtain rfl:q=o:=by simpa using hq
              exact hyes
          · refine HP5.out.same fun q k' _ _=> ?_;unfold alD;rw[ai2 HO.out,Bool.and_assoc];congr 1;rw[Bool.eq_iff_iff];simp;by_cases e1:k'=d<;>by_cases e2:q=o<;>simp[e1,e2]
         case measure=>simp only[intOf];omega
      · have ejl:j=all.length:=by omega
        have et:all.take j=all:=List.take_of_length_le (by omega);rw[et]at hnd hfd hps;have hyn:y=af1 bs l k (d+1) (z':Int):=by
         rw[HYK.out,atO hnd hfd,Bool.true_and];congr 1;omega
        have HYN:=hE0 hyn;have HP:=hE0 hps;have HE:=hE0 (HB2.out.trans (htc.below (B:=w0.heap.size) (fun q hq=>by omega) (by omega)));clear hyn hps htc hnd hfd et ejl HYK HB2 HO2;go_wp2
        go_roundw
        case rel=>
         refine⟨d+1,k,z',alD f d all,by go_num,by omega,HYN.out,HP.out,fun k' h1 h2 q hq=> ?_,HE.out⟩;have:(k'==d)=false:=by rw[beq_eq_false_iff_ne];omega
         unfold alD;rw[this,Bool.false_and,Bool.not_false,Bool.and_true];exact HFM.out k' (by omega) h2 q hq
        case measure=>simp only[intOf];omega
  · obtain⟨rfl,rfl⟩:d=22/\k=0:=by omega
    have hyz:y=((z:Int)==0):=hyk;have HYZ:=hE0 hyz;have HPS:=hE0 hps;have HB:=hE0 hbe;clear hyz hyk hps hbe hfm HAR;go_wp2_with (first | (at_len;refine apS rfl _ rfl rfl HPS.out ?_) | fail)
    go_ret
    exact⟨asW HYZ.out.symm,HB.out⟩
theorem as3:au0:=by
 intro w g base cap c A bs x h hb hl hx
 cases hw:abI bs with
 | none=>
  obtain rfl:false=x:=by rw[<-hx];unfold ace;rw[hw]
  have hW:=alv w g base cap c A bs _ h hb hl hw;dsimp only[ac0,Option.isSome,Option.getD,aav]at hW;dsimp only[aav];have HW:=hE0 hW;clear hW hw hx h hb;go_enter Tryz.func55,Tryz.ntmps55
  go_wp2_with fail
  with_reducible refine HW.out.mono ?_
  rintro e w2 ⟨A',c',rfl,_,hb2⟩;have HB2:=hE0 hb2;clear hb2;go_wp2
  go_ret
  exact⟨rfl,HB2.out⟩
 | some l=>
  obtain⟨h184,ht,hg⟩:=aaj hw;have hm:=aak l _ _ ht;obtain⟨y1,hy1⟩:∃y,aev l=y:=⟨_,rfl⟩;obtain⟨y2,hy2⟩:∃y,decide (aaf bs 0<4194304)=y:=⟨_,rfl⟩;obtain⟨y3,hy3⟩:∃y,af1 bs l 22 0 (abm l)=y:=⟨_,rfl⟩;have e0:aos bs 0=aaf bs 0:=by unfold aos word?;rw[if_pos (by omega)];rfl
  have hx':(y2&&(y1&&y3))=x:=by
   rw[<-hx];unfold ace;rw[hw];dsimp only;rw[e0,hy1,hy2,hy3]
  have hll:=ajN hw;have hW:=alv w g base cap c A bs _ h hb hl hw;dsimp only[ac0,Option.isSome,Option.getD,aav]at hW;have HW:=hE0 hW;have HAR:=hE0 h;have HBASE:=hE0 hb;have HG:Hid (∀x∈l,aaG (x.size:Int)=true/\x.off<=100000):=fun x hx=>⟨(hm.2 x hx).2.2.1,by have:=(hm.2 x hx).2.1;omega⟩;have HPM:Hid (∀k:Nat,k<22->∀o,aap bs o (k:Int)=true->ab8 l o k=acD l o):=fun k _ o ho=>ai3 hg ho;have HR:=hE0 (ah1 l _ _ ht);have HY1:=hE0 hy1;have HY2:=hE0 hy2;have HY3:=hE0 hy3;clear hW hw hx h hb ht hg hm hy1 hy2 hy3 e0;go_enter Tryz.func55,Tryz.ntmps55
  go_wp2_with fail
  with_reducible refine HW.out.mono ?_
  rintro e w2 ⟨A2,c2,rfl,ho2,hb2⟩;have hcl:l.length<=c2/\c2<=9223372036854775807:=by
   rcases ho2.2 with⟨h',h0⟩ | ⟨_,_,_,h',_,_,h1,h2,_⟩
   · injection h' with _ _ e;rw[h0,e];omega
   · injection h' with _ _ e;unfold maxLen at h2;omega
  have hr2:=BkRd.of_own ho2;have HR2:=hE0 hr2;have HB2:=hE0 hb2;have HADJ:=hE0 (ar4 w2 A2 c2 l hr2 hcl y1 HY1.out);have hs2:=hb2.size;clear ho2 hr2 hb2 HW;go_wp2_with fail
  with_reducible refine HADJ.out.mono ?_
  rintro e w3 ⟨rfl,hb3⟩;have hr3:=HR2.out.later hb3 hb3.size;have HB3:=hE0 (HB2.out.trans (hb3.mono hs2));have hs3:=hb3.size;clear hb3 HR2 HB2 HADJ
  cases y1 with
  | false=>
   obtain rfl:false=x:=by rw[<-hx'];simp
   clear HAR HG HPM hr3 hx';dsimp only[aav];go_wp2
   go_ret
   exact⟨rfl,HB3.out⟩
  | true=>
   have HBT:=hE0 (apU (HAR.out.below HB3.out) HBASE.out hl h184 y2 HY2.out);have HPL:=hE0 (alC w3 A2 c2 l hr3 (by omega) HR.out HG.out);clear hr3;go_wp2_with fail
   with_reducible refine HBT.out.mono ?_
   rintro e w4 ⟨rfl,rfl⟩
   cases y2 with
   | false=>
    obtain rfl:false=x:=by rw[<-hx'];simp
    clear HAR HG HPM hx' HBT HPL;dsimp only[aav];go_wp2
    go_ret
    exact⟨rfl,HB3.out⟩
   | true=>
    obtain rfl:y3=x:=by rw[<-hx'];simp
    go_wp2_with fail
    with_reducible refine HPL.out.mono ?_
    rintro e w4 ⟨rfl,hps4,hb4⟩;have HLS:=hE0 (anT w w4 g base cap c A bs HAR.out HBASE.out hl (HB3.out.trans (hb4.mono (by omega))) w3.heap.size l.length (abm l) (ab8 l) hps4 (by omega) l HPM.out y3 HY3.out);clear HAR HG HPM hx' HBT HPL hps4 hb4;go_wp2_with fail
    with_reducible refine HLS.out.mono ?_
    rintro e w5 ⟨rfl,hb5⟩;have HB5:=hE0 hb5;clear hb5 HLS
    cases y3 with
    | false=>
     dsimp only[aav];go_wp2
     go_ret
     exact⟨rfl,HB5.out⟩
    | true=>
     dsimp only[aav];go_wp2
     go_ret
     exact⟨rfl,HB5.out⟩
structure Hm (F:Nat->Prop) (w:World) (p:Nat) (H:Hp) (Vb Vd:Value) (gl:Nat) (cs:List Value):Prop where
 obj:w.heap[p]?=some (.cells #[.int .i64 (H.cap:Int),Vb,Vd, .slice (some ⟨gl,0,none⟩) 22 22] 135 (0,0))
 ob:w.ownsRow 0 112 3 Vb H.blks.length (acW H.blks)
 od:w.ownsRow 0 37 1 Vd H.ds.length (H.ds.map Prod.fst)
 row:w.heap[gl]?=some (.cells cs.toArray 23 (0,0))
 len:cs.length=22
 at_:∀d,d<22->∃v,cs[d]?=some v/\w.ownsRow 0 3 1 v (H.lists d).length ((H.lists d).map iV)
 fp:F p
 fl:F gl
 fb:∀k,Vb.ownBlock=some k->F k
 fd:∀k,Vd.ownBlock=some k->F k
 fi:∀d v k,d<22->cs[d]?=some v->v.ownBlock=some k->F k
 sl:∀d∈H.ds,∃A n c,d.1= .slice A n c
def HM (F:Nat->Prop) (w:World) (p:Nat) (H:Hp):Prop:=∃Vb Vd gl cs,Hm F w p H Vb Vd gl cs
def HT (F:Nat->Prop) (w:World) (p:Nat) (H':Hp) (w':World):Prop:=∃F',HM F' w' p H'/\Tch F w w'/\∀k,F' k->F k\/w.heap.size<=k
theorem ar6{w:World}{base base' n size:Nat}{t:TypeId}{v:Value}{xs:List Value}(h:w.ownsRow base t size v n xs) (hb:base'<=base):w.ownsRow base' t size v n xs:=by
 refine⟨h.1,?_⟩;rcases h.2 with h2 | ⟨g,cap,cur,hv,hg,r⟩
 · exact .inl h2
 · exact .inr ⟨g,cap,cur,hv,Nat.le_trans hb hg,r⟩
section
variable {F F':Nat->Prop} {w w' w2:World} {p gl:Nat} {H H':Hp} {Vb Vd:Value} {cs:List Value}
end
theorem apX (b k j:Nat):(⟨b,k,none⟩:Addr).add j=⟨b,k+j,none⟩:=by unfold Addr.add;split<;>simp_all
theorem agb{w:World}{base n c size b:Nat}{t:TypeId}{xs:List Value}(h:w.ownsRow base t size (.slice (some ⟨b,0,none⟩) n c) n xs) (k m:Nat) (hkm:k+m<=n) (A:Addr) (hA:m=0\/A=⟨b,k*size,none⟩):Src w (some A) m c ((xs.drop (k*size)).take (m*size)):=by
 refine⟨fun e=>(by cases e),fun ad e j u hu=> ?_⟩;injection e with e;subst e;rcases hA with rfl | rfl
 · simp at hu
 · rw[apX];have hlen:j<m*size:=by
    rcases Nat.lt_or_ge j (m*size)with h1 | h1
    · exact h1
    · rw[List.getElem?_eq_none (Nat.le_trans (List.length_take_le _ _) h1)]at hu;cases hu
   rw[List.getElem?_take,if_pos hlen,List.getElem?_drop]at hu;have h2:k*size+m*size<=n*size:=by rw[<-Nat.add_mul];exact Nat.mul_le_mul_right _ hkm
   rw[h.cellAt _ (by omega)];exact hu
theorem Src.cap{w:World}{A:Addr}{m c c':Nat}{xs:List Value}(h:Src w (some A) m c xs):Src w (some A) m c' xs:=⟨fun e=>(by cases e),h.2⟩
section
variable {F:Nat->Prop} {w w':World} {p gl:Nat} {H:Hp} {Vb Vd:Value} {cs:List Value}
end
theorem aem{l:List Nat}:∀{r:List Nat},l.Nodup->(∀a∈l,a∈r)->l.length<=r.length:=by
 induction l with
 | nil=>intro r _ _;exact Nat.zero_le _
 | cons x l ih=>
  intro r hn hs;obtain⟨h1,h2⟩:=List.nodup_cons.1 hn;have hx:=hs x (by simp);have h3:=ih (r:=r.erase x) h2 (fun a ha=>(List.mem_erase_of_ne (fun e:a=x=>h1 (by rw[<-e];exact ha))).2 (hs a (by simp[ha])));have h4:=List.length_erase_of_mem hx;have h5:0<r.length:=List.length_pos_of_mem hx;rw[List.length_cons];omega
theorem apY{l r:List Nat}(hn:l.Nodup) (hs:∀a∈l,a∈r) (hl:r.length<=l.length):∀b∈r,b∈l:=fun b hb=>by
 by_cases hin:b∈l
 · exact hin
 · have h1:=aem (r:=r.erase b) hn (fun a ha=>(List.mem_erase_of_ne (fun e:a=b=>hin (by rw[<-e];exact ha))).2 (hs a ha));have h2:=List.length_erase_of_mem hb;have h3:0<r.length:=List.length_pos_of_mem hb;omega
theorem agS:∀{l:List Nat},(∀a∈l,l.count a=1)->l.Nodup
 | [],_=>List.nodup_nil
 | x::r,h=>by
  have h1:=h x (by simp);rw[List.count_cons_self]at h1;have hx:x∉r:=List.count_eq_zero.1 (by omega);refine List.nodup_cons.2 ⟨hx,agS fun a ha=> ?_⟩;have h2:=h a (by simp[ha]);have hne:x≠a:=fun e=>hx (e▸ha);rw[List.count_cons_of_ne hne]at h2;exact h2
section
variable {bs:List UInt8} {H:Hp}
theorem Rt.nfree (h:Rt bs H):(∀c,c<22->(H.lists c).Nodup/\∀o∈H.lists c,o∈abb H.blks c)/\aev H.blks=true/\af1 bs H.blks 22 0 (abm H.blks)=true:=by
 have hk:=h.chk;unfold ace at hk;rw[h.walk]at hk;simp only[Bool.and_eq_true]at hk;refine⟨fun c hc=> ?_,hk.2.1,hk.2.2⟩;obtain⟨al,h1,h2⟩:=aeW 22 0 _ hk.2.2 c (Nat.zero_le _) (by omega);rw[h.all_ c hc]at h1;injection h1 with h1;subst h1;have h2':=List.all_eq_true.1 h2;refine⟨agS fun a ha=> ?_,fun o ho=> ?_⟩
 · have:=h2' a ha;unfold okO at this;rw[Bool.and_eq_true]at this;simpa using this.2
 · have h3:=h2' o ho;unfold okO at h3;rw[Bool.and_eq_true]at h3;have h4:=h3.1;unfold acD at h4;obtain⟨x,hx,hx2⟩:=List.any_eq_true.1 h4;simp only[Bool.and_eq_true,beq_iff_eq]at hx2;have hm:=acM (h.all_ c hc) o ho;have hg:=(aaj h.walk).2.2 x hx;unfold aap at hm;rw[<-hx2.1,hg]at hm;simp only[Bool.and_eq_true,beq_iff_eq]at hm;rw[<-hx2.1];exact abe hx (by simpa using hx2.2) hm.2.2
theorem amJ{bs:List UInt8}{l:List Bk}{L:Nat->List Nat}(hL:∀c,c<22->afH bs c=some (L c)) (hs:∀c,c<22->(L c).length<=(abb l c).length):
 ∀(k c:Nat) (fr:Int),c+k=22->af1 bs l k c fr=true->fr<=afu l k c/\(fr=afu l k c->∀d,c<=d->d<22->(abb l d).length<=(L d).length)
 | 0,c,fr,hck,h=>by
  unfold af1 at h;have:fr=0:=by simpa using h
  refine⟨by subst this;exact Int.natCast_nonneg _,fun _ d h1 h2=>by omega⟩
 | k+1,c,fr,hck,h=>by
  unfold af1 at h;rw[hL c (by omega)]at h;dsimp only at h;rw[Bool.and_eq_true]at h;obtain⟨i1,i2⟩:=amJ hL hs k (c+1) _ (by omega) h.2;have h1:=hs c (by omega);have e:(afu l (k+1) c:Int)=((abb l c).length:Int)+(afu l k (c+1):Int):=by
   show(((abb l c).length+afu l k (c+1):Nat):Int)=_;omega
  refine⟨by omega,fun hfr d hd1 hd2=> ?_⟩;rcases Nat.lt_or_ge c d with hlt | hge
  · exact i2 (by omega) d hlt hd2
  · obtain rfl:d=c:=by omega
    omega
theorem Rt.complete (h:Rt bs H):∀c,c<22->∀o∈abb H.blks c,o∈H.lists c:=fun c hc=>by
 obtain⟨h1,_,h3⟩:=h.nfree;have ht:=(aaj h.walk).2.1;have hsz:∀x∈H.blks,aaG (x.size:Int)=true:=fun x hx=>((aak _ _ _ ht).2 x hx).2.2.1;have hl:=amJ h.all_ (fun c hc=>aem (h1 c hc).1 (h1 c hc).2) 22 0 _ rfl h3;exact apY (h1 c hc).1 (h1 c hc).2 (hl.2 (by rw[aiJ _ hsz]) c (Nat.zero_le _) hc)
theorem ah2{l:List Bk}{s:Nat}:∀{L:List Nat},afV l s L=none->(∀o∈L,∃i,atB (o:Int) l=some i)->∀o∈L,∀i,atB (o:Int) l=some i->(aal l i).size<s
 | [],_,_,o,ho,_,_=>by cases ho
 | q::r,h,hL,o,ho,i,hi=>by
  obtain⟨j,hj⟩:=hL q (by simp);unfold afV at h;rw[hj]at h;dsimp only at h;split at h
  · cases h
  · rename_i hs;rcases List.mem_cons.1 ho with rfl | ho
    · rw[hj]at hi;injection hi with hi;subst hi;omega
    · exact ah2 h (fun a ha=>hL a (by simp[ha])) o ho i hi
theorem ah3{s:Nat}:∀{k c:Nat},H.findC s k c=none->∀d,c<=d->d<c+k->afV H.blks s (H.lists d)=none
 | 0,c,_,d,h1,h2=>by omega
 | k+1,c,h,d,h1,h2=>by
  unfold Hp.findC at h;split at h
  · cases h
  · rename_i hn;rcases Nat.lt_or_ge c d with hlt | hge
    · exact ah3 h d hlt (by omega)
    · obtain rfl:d=c:=by omega
      exact hn
theorem amK{l:List Bk}{o e:Nat}(h:aby o l e){x y:Bk}(hx:x∈l) (hy:y∈l) (he:x.off=y.off):x=y:=by
 have h1:=(aab _).1 ((aak _ _ _ h).2 x hx).2.2.1;have h2:=(aab _).1 ((aak _ _ _ h).2 y hy).2.2.1;rcases aaO l o e h x hx y hy with h' | h' | h'
 · exact h'
 · omega
 · omega
theorem amL{l:List Bk}{o e:Nat}(h:aby o l e){x:Bk}(hx:x∈l):∃i,atB (x.off:Int) l=some i/\i<l.length/\aal l i=x:=by
 obtain⟨i,hi⟩:=aeD hx;obtain⟨h1,h2⟩:=afJ hi;refine⟨i,hi,h1,amK h (List.mem_of_getElem? (aat h1)) hx (by omega)⟩
theorem Rt.found (h:Rt bs H){s i:Nat}(hs:aaG (s:Int)=true) (hf:H.find s=some i):i<H.blks.length/\s<=(aal H.blks i).size/\(aal H.blks i).used=false:=by
 have ht:=(aaj h.walk).2.1;have one:∀(LL:List Nat),(∀o∈LL,∃x∈H.blks,x.off=o/\x.used=false)->∀i,afV H.blks s LL=some i->i<H.blks.length/\s<=(aal H.blks i).size/\(aal H.blks i).used=false:=by
  intro LL;induction LL with
  | nil=>intro _ i h;cases h
  | cons o r ih=>
   intro hL i h;unfold afV at h;split at h
   · cases h
   · rename_i j hj;split at h
     · rename_i hs;injection h with h;subst h;obtain⟨x,hx,hxo,hxu⟩:=hL o (by simp);obtain⟨h1,h2⟩:=afJ hj;have e:=amK ht (List.mem_of_getElem? (aat h1)) hx (by omega);exact⟨h1,hs,by rw[e];exact hxu⟩
     · exact ih (fun a ha=>hL a (by simp[ha])) i h
 have go:∀(k c i:Nat),c+k<=22->H.findC s k c=some i->i<H.blks.length/\s<=(aal H.blks i).size/\(aal H.blks i).used=false:=by
  intro k;induction k with
  | zero=>intro c i _ h;cases h
  | succ k ih=>
   intro c i hck hh;unfold Hp.findC at hh;split at hh
   · rename_i j hj;injection hh with hh;subst hh;refine one _ (fun o ho=> ?_) _ hj;obtain⟨x,h1,h2,h3,_⟩:=abA ((h.nfree.1 c (by omega)).2 o ho);exact⟨x,h1,h2,h3⟩
   · exact ih _ _ (by omega) hh
 obtain⟨cl,hcl,hcl22⟩:∃c:Nat,aaq (s:Int)=(c:Int)/\c<22:=abz (x:=⟨0,s,false⟩) hs;unfold Hp.find at hf;rw[hcl,Int.toNat_natCast]at hf;exact go _ _ _ (by omega) hf
theorem Rt.lost (h:Rt bs H){s:Nat}(hs:aaG (s:Int)=true) (hf:H.find s=none):∀x∈H.blks,x.used=false->x.size<s:=fun x hx hu=>by
 have ht:=(aaj h.walk).2.1;have hxs:=((aak _ _ _ ht).2 x hx).2.2.1;obtain⟨cl,hcl,hcl22⟩:∃c:Nat,aaq (s:Int)=(c:Int)/\c<22:=abz (x:=⟨0,s,false⟩) hs;obtain⟨cx,hcx,hcx22⟩:=abz hxs;rcases Nat.lt_or_ge x.size s with h1 | h1
 · exact h1
 · have hm:=alb hs hxs (by omega);unfold Hp.find at hf;rw[hcl,Int.toNat_natCast]at hf;have hl:=ah3 hf cx (by omega) (by omega);obtain⟨i,hi,_,hb⟩:=amL ht hx;have:=ah2 hl (h.listed cx hcx22) x.off (h.complete cx hcx22 _ (abe hx hu hcx)) i hi;rw[hb]at this;exact this
theorem atP{l:List Bk}{j:Nat}{x:Bk}(hx:l[j]?=some x):abd (l.take (j+1))=abd (l.take j)+x.size:=by
 rw[List.take_add_one,hx,aeY];simp[abd]
def anU (l:List Bk):Nat:=l.foldl (fun e x=>if x.used=true then x.off+x.size else e) 184
theorem akh (l:List Bk) (x:Bk):anU (l++ [x])=if x.used=true then x.off+x.size else anU l:=by
 unfold anU;rw[List.foldl_append];rfl
theorem apZ{l:List Bk}{j:Nat}{x:Bk}(hx:l[j]?=some x):anU (l.take (j+1))=if x.used=true then x.off+x.size else anU (l.take j):=by
 rw[List.take_add_one,hx];exact akh _ _
theorem atQ{l:List Bk}{k:Nat}(h:l.length=k+1):l=l.take k++ [aal l k]:=by
 have e:=aeZ (aat (l:=l) (i:=k) (by omega));rw[List.drop_of_length_le (by omega)]at e;exact e
theorem ap0{l:List Bk}(ht:aby 184 l (lenB l)) (hn:aev l=true):anU l+acq l=lenB l:=by
 obtain⟨k,hk⟩:∃k,l.length=0\/l.length=k+1:=⟨l.length-1,by omega⟩;rcases hk with hk | hk
 · obtain rfl:=List.eq_nil_of_length_eq_zero hk;rfl
 · have e:=atQ hk;have ha:=aiM ht (aat (l:=l) (i:=k) (by omega));have hlast:(aal l k).off+(aal l k).size=lenB l:=by
    have h4:=ha.2.2.2;rw[List.drop_of_length_le (by omega)]at h4;exact h4
   have he:anU l=if (aal l k).used=true then (aal l k).off+(aal l k).size else anU (l.take k):=by
    conv=>lhs;rw[e]
    exact akh _ _
   unfold acq;rw[if_neg (by omega),show l.length-1=k by omega]
   cases hu:(aal l k).used with
   | true=>
    rw[hu,if_pos rfl]at he;rw[if_pos rfl,he];omega
   | false=>
    rw[hu,if_neg (by decide)]at he;rw[if_neg (by decide),he];have hoff:=ha.2.1
    cases k with
    | zero=>
     rw[List.take_zero];rw[List.take_zero]at hoff;have h0:anU []=184:=rfl;simp only[abd]at hoff;rw[h0];omega
    | succ k=>
     have hp:=List.all_eq_true.1 hn (k+1) (List.mem_range.2 (by omega));unfold adJ adI at hp;rw[aat (l:=l) (i:=k+1) (by omega),show k+1-1=k by omega,aat (l:=l) (i:=k) (by omega)]at hp;dsimp only at hp;rw[hu]at hp;have hpu:(aal l k).used=true:=by simpa using hp
     have e2:anU (l.take (k+1))=(aal l k).off+(aal l k).size:=by
      rw[apZ (aat (l:=l) (i:=k) (by omega)),if_pos hpu]
     have hb:=aiM ht (aat (l:=l) (i:=k) (by omega));have hs:=atP (aat (l:=l) (i:=k) (by omega));rw[e2];omega
theorem Rt.room (h:Rt bs H){s:Nat}(hs:aaG (s:Int)=true):(H.take s).1.isSome=(H.blks.any (fun x=> !x.used&&decide (s<=x.size)) || decide (s+anU H.blks<=H.cap)):=by
 have ht:aby 184 H.blks (lenB H.blks):=by rw[h.lenE];exact(aaj h.walk).2.1
 have het:=ap0 ht h.nfree.2.1;unfold Hp.take
 cases hf:H.find s with
 | some i=>
  obtain⟨h1,h2,h3⟩:=h.found hs hf;dsimp only;have:H.blks.any (fun x=> !x.used&&decide (s<=x.size))=true:=List.any_eq_true.2 ⟨_,List.mem_of_getElem? (aat h1),by rw[h3,decide_eq_true h2];rfl⟩;rw[this];rfl
 | none=>
  have hno:H.blks.any (fun x=> !x.used&&decide (s<=x.size))=false:=by
   rw[Bool.eq_false_iff];intro hh;obtain⟨x,hx,hx2⟩:=List.any_eq_true.1 hh;simp only[Bool.and_eq_true,decide_eq_true_eq]at hx2;have:=h.lost hs hf x hx (by simpa using hx2.1);omega
  rw[hno,Bool.false_or];dsimp only;by_cases hr:H.cap<lenB H.blks+s-acq H.blks
  · rw[if_pos hr,decide_eq_false (by omega)];rfl
  · rw[if_neg hr,decide_eq_true (by omega)];split<;>rfl
end
section
variable {bs:List UInt8} {H:Hp}
theorem ap1{i j:Nat}(hp:(aal H.blks (i-1)).used=true) (hj:j<i):(H.give i).blks[j]?=H.blks[j]?:=by
 have e1:∀k,k<i->((H.use i false).wipe i).blks[k]?=H.blks[k]?:=fun k hk=>by
  show(H.blks.set i _)[k]?=_;exact List.getElem?_set_ne (by omega)
 have l1:((H.use i false).wipe i).blks.length=H.blks.length:=List.length_set ..;unfold Hp.give;obtain⟨H1,hH1⟩:=nmE ((H.use i false).wipe i);rw[hH1]at e1 l1 ⊢;have e2:∀k,k<i->(H1.giveB i).blks[k]?=H.blks[k]?:=fun k hk=>by
  rw[<-e1 k hk];unfold Hp.giveB;split
  · rename_i hn;have hlt:i+1<H1.blks.length:=by
     unfold acG at hn;rw[Bool.and_eq_true,decide_eq_true_eq]at hn;exact hn.1
    rw[acr (H1.out (i+1)) (i:=i) hlt];rw[List.getElem?_append_left (by rw[List.length_take];show k<min i H1.blks.length;omega)];exact List.getElem?_take_of_lt hk
  · rfl
 have hprev:aiL (H1.giveB i).blks i=false:=by
  unfold aiL;have h1:=e2 (i-1) (by omega);have h2:aal (H1.giveB i).blks (i-1)=aal H.blks (i-1):=by
   unfold aal;rw[List.getD_eq_getElem?_getD,List.getD_eq_getElem?_getD,h1]
  rw[h2,hp,Bool.not_true,Bool.and_false]
 have e3:((H1.giveB i).giveC i).blks=(H1.giveB i).blks:=by
  unfold Hp.giveC;rw[hprev,if_neg (by decide)];rfl
 rw[e3];exact e2 j hj
theorem alE{i s:Nat}(hi:i<H.blks.length) (hle:s<=(aal H.blks i).size):∃x∈(H.cut i s).blks,x.off=(aal H.blks i).off/\x.used=true/\s<=x.size/\x.size<s+32/\x.size<=(aal H.blks i).size:=by
 unfold Hp.cut;split
 · rename_i hlt;refine⟨{aal H.blks i with used:=true},?_,rfl,rfl,hle,hlt,Nat.le_refl _⟩;exact List.mem_of_getElem? (i:=i) (List.getElem?_set_self hi)
 · rename_i hge;obtain⟨y,hy⟩:∃y:Bk,(⟨(aal H.blks i).off+s,(aal H.blks i).size-s,true⟩:Bk)=y:=⟨_,rfl⟩;rw[hy];have hb:=ae0 (s:=s) H hi y;have hln:=alc (s:=s) H hi y;obtain⟨H2,hH2⟩:=nmE (((H.use i true).size i s).put (i+1) y);rw[hH2]at hb hln ⊢;have hat:H2.blks[i]?=some {aal H.blks i with used:=true,size:=s}:=by
    rw[hb,List.getElem?_append_right (by rw[List.length_take];omega),List.length_take,show i-min i H.blks.length=0 by omega];rfl
   have hk:=ap1 (H:=H2) (i:=i+1) (j:=i) (by rw[show i+1-1=i by omega,aaX hat]) (by omega);refine⟨_,List.mem_of_getElem? (hk.trans hat),rfl,rfl,Nat.le_refl _,by show s<s+32;omega,hle⟩
theorem Rt.what (h:Rt bs H){s o:Nat}(hs:aaG (s:Int)=true) (hx:(H.take s).1=some o):
 ∃x∈(H.take s).2.blks,x.off=o/\x.used=true/\s<=x.size/\x.size<s+32/\∀y∈H.blks,y.used=true->y.off+y.size<=x.off\/x.off+x.size<=y.off:=by
 have ht:aby 184 H.blks (Go.Proofs.YtncadccbepjekaaGreatDoor.lenB H.blks):=by rw[h.lenE];exact(aaj h.walk).2.1
 cases hf:H.find s with
 | some i=>
  obtain⟨h1,h2,h3⟩:=h.found hs hf;have e:H.take s=(some (aal H.blks i).off,(H.out i).cut i s):=by unfold Hp.take;rw[hf]
  rw[e]at hx ⊢;injection hx with hx;obtain⟨x,k1,k2,k3,k4,k5,k6⟩:=alE (H:=H.out i) (i:=i) (s:=s) h1 h2;have hb:aal (H.out i).blks i=aal H.blks i:=rfl;rw[hb]at k2 k6;refine⟨x,k1,by omega,k3,k4,k5,fun y hy hu=> ?_⟩;rcases aaO _ _ _ ht y hy _ (List.mem_of_getElem? (aat h1))with h' | h' | h'
  · rw[h',h3]at hu;cases hu
  · exact .inl (by omega)
  · exact .inr (by omega)
 | none=>
  by_cases hr:H.cap<Go.Proofs.YtncadccbepjekaaGreatDoor.lenB H.blks+s-acq H.blks
  · have e:H.take s=(none,H):=by unfold Hp.take;rw[hf];dsimp only;rw[if_pos hr]
    rw[e]at hx
    cases hx
  · by_cases htl:0<acq H.blks
    · have e:H.take s=(some (aal H.blks (H.blks.length-1)).off,((H.out (H.blks.length-1)).size (H.blks.length-1) s).use (H.blks.length-1) true):=by unfold Hp.take;rw[hf];dsimp only;rw[if_neg hr,if_pos htl]
      have hn:0<H.blks.length:=by
       rcases Nat.eq_zero_or_pos H.blks.length with h0 | h0
       · unfold acq at htl;rw[if_pos h0]at htl;omega
       · exact h0
      have hu0:(aal H.blks (H.blks.length-1)).used=false:=by
       cases hu:(aal H.blks (H.blks.length-1)).used with
       | false=>rfl
       | true=>unfold acq at htl;rw[if_neg (by omega),if_pos hu]at htl;omega
      obtain⟨k,hk⟩:=nmE (H.blks.length-1);rw[hk]at e hu0;have hkl:k<H.blks.length:=by omega
      rw[e]at hx ⊢;injection hx with hx;have ha:=aiM ht (aat hkl);have hlast:(aal H.blks k).off+(aal H.blks k).size=Go.Proofs.YtncadccbepjekaaGreatDoor.lenB H.blks:=by
       have h4:=ha.2.2.2;rw[List.drop_of_length_le (by omega)]at h4;exact h4
      have hget:(((H.out k).size k s).use k true).blks[k]?=some ⟨(aal H.blks k).off,s,true⟩:=by
       show((H.blks.set k _).set k _)[k]?=_;rw[List.getElem?_set_self (by rw[List.length_set];exact hkl)];have e2:aal ((H.out k).size k s).blks k={aal H.blks k with size:=s}:=by
        show aal (H.blks.set k _) k=_;rw[acH _ _ _ _ hkl,if_pos rfl];rfl
       rw[e2]
      refine⟨_,List.mem_of_getElem? hget,hx,rfl,Nat.le_refl _,by show s<s+32;omega,fun y hy hu=> .inl ?_⟩;have hm:=(aak _ _ _ ht).2 y hy;have hys:=(aab _).1 hm.2.2.1;show y.off+y.size<=(aal H.blks k).off;rcases aaO _ _ _ ht y hy _ (List.mem_of_getElem? (aat hkl))with h' | h' | h'
      · rw[h',hu0]at hu;cases hu
      · exact h'
      · omega
    · have e:H.take s=(some (Go.Proofs.YtncadccbepjekaaGreatDoor.lenB H.blks),H.put H.blks.length ⟨Go.Proofs.YtncadccbepjekaaGreatDoor.lenB H.blks,s,true⟩):=by unfold Hp.take;rw[hf];dsimp only;rw[if_neg hr,if_neg htl]
      rw[e]at hx ⊢;injection hx with hx;refine⟨⟨Go.Proofs.YtncadccbepjekaaGreatDoor.lenB H.blks,s,true⟩,?_,hx,rfl,Nat.le_refl _,by show s<s+32;omega,fun y hy hu=> .inl ((aak _ _ _ ht).2 y hy).2.1⟩;show _∈H.blks.take _++_::H.blks.drop _;simp
end
theorem atR{H:Hp}{s:Nat}:∀{i:Nat},H.find s=some i->i<H.blks.length:=by
 have one:∀(LL:List Nat) (i:Nat),afV H.blks s LL=some i->i<H.blks.length:=by
  intro LL;induction LL with
  | nil=>intro i h;cases h
  | cons o r ih=>
   intro i h;unfold afV at h;split at h
   · cases h
   · rename_i j hj;split at h
     · injection h with h;subst h;exact(afJ hj).1
     · exact ih i h
 have go:∀(k c i:Nat),H.findC s k c=some i->i<H.blks.length:=by
  intro k;induction k with
  | zero=>intro c i h;cases h
  | succ k ih=>
   intro c i h;unfold Hp.findC at h;split at h
   · rename_i j hj;injection h with h;subst h;exact one _ _ hj
   · exact ih _ _ h
 intro i h;exact go _ _ _ h
section
variable {H:Hp} {i s N:Nat}
theorem Hp.Ok.giveB (h:H.Ok):(H.giveB i).Ok:=by
 unfold Hp.giveB;split
 · rename_i hn;have hlt:i+1<H.blks.length:=by
    unfold acG at hn;rw[Bool.and_eq_true,decide_eq_true_eq]at hn;exact hn.1
   exact Hp.Ok.join (Hp.Ok.out h) hlt
 · exact h
theorem Hp.Ok.giveC (h:H.Ok) (hi:i<H.blks.length):(H.giveC i).Ok:=by
 unfold Hp.giveC;split
 · rename_i hn;have hlt:i-1+1<H.blks.length:=by
    unfold aiL at hn;rw[Bool.and_eq_true,decide_eq_true_eq]at hn;have:=hn.1;omega
   exact Hp.Ok.in_ (Hp.Ok.join (Hp.Ok.out h) hlt)
 · exact Hp.Ok.in_ h
theorem amM (hi:i<H.blks.length):i<(H.giveB i).blks.length:=by
 unfold Hp.giveB;split
 · rename_i hn;have hlt:i+1<H.blks.length:=by
    unfold acG at hn;rw[Bool.and_eq_true,decide_eq_true_eq]at hn;exact hn.1
   exact(aiO (H.out (i+1)) (i:=i) hlt).1
 · exact hi
theorem Hp.Ok.give (h:H.Ok) (hi:i<H.blks.length):(H.give i).Ok:=by
 have h1:((H.use i false).wipe i).Ok:=(h.use hi false).wipe;have l1:i<((H.use i false).wipe i).blks.length:=by
  show i<(H.blks.set i _).length;rw[List.length_set];exact hi
 exact(h1.giveB).giveC (amM l1)
theorem Hp.Ok.cutA (h:H.Ok) (hi:i<H.blks.length) (hs:aaG (s:Int)=true):(H.cut i s).Ok:=by
 unfold Hp.cut;split
 · exact h.use hi true
 · rename_i hge;exact(h.cut hi hs (by omega)).give (by rw[alc H hi];omega)
theorem Hp.Ok.last (h:H.Ok){k:Nat}(hk:H.blks.length=k+1) (u:Bool) (hs:aaG (s:Int)=true) (hle:(aal H.blks k).off+s<=16384):(((H.size k s).use k u)).Ok/\(H.size k s).Ok:=by
 obtain⟨a,b,c⟩:=h.at_ (i:=k) (by omega);have hd:H.blks.drop (k+1)= []:=List.drop_of_length_le (by omega);have go:∀y:Bk,y.off=(aal H.blks k).off->y.size=s->aby 184 (H.blks.set k y) ((aal H.blks k).off+s):=fun y ho hsz=>by
  rw[aoU y (aat (i:=k) (by omega)),hd];exact aiN (by rw[ho];exact a) (by rw[hsz];exact hs) (by rw[ho,hsz];rfl)
 have e1:((H.size k s).use k u).blks=H.blks.set k {aal H.blks k with size:=s,used:=u}:=by
  show(H.blks.set k _).set k _=_;rw[List.set_set];congr 1;show {aal (H.blks.set k {aal H.blks k with size:=s}) k with used:=u}=_;rw[acH _ _ _ _ (by omega),if_pos rfl]
 have t1:=go {aal H.blks k with size:=s,used:=u} rfl rfl;have t2:=go {aal H.blks k with size:=s} rfl rfl;refine⟨⟨?_,?_,?_⟩,?_,?_,?_⟩
 · rw[e1,acl t1];exact t1
 · rw[e1,acl t1];exact hle
 · show H.ds.length=((H.size k s).use k u).blks.length;rw[e1,List.length_set];exact h.dl
 · show aby 184 (H.blks.set k _) (lenB (H.blks.set k _));rw[acl t2];exact t2
 · show lenB (H.blks.set k _)<=_;rw[acl t2];exact hle
 · show H.ds.length=(H.blks.set k _).length;rw[List.length_set];exact h.dl
theorem ar7 (h:H.Ok){k:Nat}(hk:H.blks.length=k+1):(aal H.blks k).off+(aal H.blks k).size=lenB H.blks:=by
 have h4:=(h.at_ (i:=k) (by omega)).2.2;rw[List.drop_of_length_le (by omega)]at h4;exact h4
theorem Hp.Ok.take (h:H.Ok) (hc:H.cap<=16384) (hs:aaG (s:Int)=true):(H.take s).2.Ok:=by
 unfold Hp.take;split
 · rename_i i hf;exact Hp.Ok.cutA (Hp.Ok.out h) (atR (H:=H) hf) hs
 · split
   · exact h
   · rename_i hr;split
     · rename_i htl;obtain⟨k,hk⟩:∃k,H.blks.length=0\/H.blks.length=k+1:=⟨H.blks.length-1,by omega⟩;rcases hk with hk | hk
       · unfold acq at htl;rw[if_pos hk]at htl;omega
       · have he:=ar7 h hk;have htf:acq H.blks=(aal H.blks k).size:=by
          unfold acq at htl ⊢;rw[if_neg (by omega),show H.blks.length-1=k by omega]at htl ⊢;split at htl
          · omega
          · rename_i hu;rw[if_neg hu]
         rw[show H.blks.length-1=k by omega];exact(Hp.Ok.last (Hp.Ok.out (i:=k) h) hk true hs (by show(aal H.blks k).off+s<=_;omega)).1
     · rename_i htl;have ht:aby 184 (H.blks++ [⟨lenB H.blks,s,true⟩]) (lenB H.blks+s):=ajK _ _ _ _ h.tl rfl hs;have e:(H.put H.blks.length ⟨lenB H.blks,s,true⟩).blks=H.blks++ [⟨lenB H.blks,s,true⟩]:=by
        show H.blks.take _++_::H.blks.drop _=_;rw[List.take_length,List.drop_length]
       refine⟨?_,?_,?_⟩
       · rw[e,acl ht];exact ht
       · rw[e,acl ht];omega
       · rw[e];show(H.ds.take _++acc::H.ds.drop _).length=_;have:=h.dl;simp only[List.length_append,List.length_take,List.length_drop,List.length_cons,List.length_nil];omega
end
def Hp.swallow (H:Hp) (i:Nat):Hp:=if acG H.blks i=true then (H.out (i+1)).drop (i+1) else H
def ahu (l:List Bk) (i:Nat):Nat:=(aal l i).size+(if acG l i=true then (aal l (i+1)).size else 0)
def Hp.widen (H:Hp) (i:Nat):Hp:=(H.swallow i).size i (ahu H.blks i)
def Hp.copyD (H:Hp) (p o:Nat):Hp:={H with ds:=H.ds.set p (H.ds.getD o acc)}
def Hp.moveD (H:Hp) (p o:Int):Hp:=match atB p H.blks,atB o H.blks with
 | some ip,some io=>H.copyD ip io
 | _,_=>H
def afM (H:Hp) (i s:Nat):Bool:=decide ((aal H.blks i).off+ahu H.blks i=lenB H.blks)&&decide (lenB H.blks+s-ahu H.blks i<=H.cap)
def Hp.resize (H:Hp) (o:Int) (s:Nat):(Nat × Int) × Hp:=match aa3 H.blks o with
 | none=>((0,3),H)
 | some i=>if s<=(aal H.blks i).size then (((aal H.blks i).off,0),H.cut i s)
  else if s<=ahu H.blks i then (((aal H.blks i).off,0),(H.widen i).cut i s)
  else if afM H i s=true then (((aal H.blks i).off,0),(H.widen i).size i s)
  else match (H.take s).1 with
   | none=>((0,5),H)
   | some p=>((p,0),(((H.take s).2.moveD (p:Int) o).giveO o).getD ((H.take s).2.moveD (p:Int) o))
section
variable {H:Hp} {i s N:Nat}
theorem agT (h:acG H.blks i=true):H.swallow i=(H.out (i+1)).drop (i+1):=by unfold Hp.swallow;rw[if_pos h]
theorem ah4 (h:acG H.blks i=false):H.swallow i=H:=by unfold Hp.swallow;rw[h,if_neg (by decide)]
theorem ai4 (h:acG H.blks i=true):ahu H.blks i=(aal H.blks i).size+(aal H.blks (i+1)).size:=by unfold ahu;rw[if_pos h]
theorem alF (h:acG H.blks i=false):ahu H.blks i=(aal H.blks i).size:=by unfold ahu;rw[h,if_neg (by decide)];rfl
theorem aeN (h:acG H.blks i=true):i+1<H.blks.length:=by
 unfold acG at h;rw[Bool.and_eq_true,decide_eq_true_eq]at h;exact h.1
theorem aen (h:acG H.blks i=true):(H.widen i).blks=((H.out (i+1)).join i).blks/\(H.widen i).ds=((H.out (i+1)).join i).ds:=by
 have hlt:=aeN h;have hb:aal ((H.out (i+1)).drop (i+1)).blks i=aal H.blks i:=by
  show aal (H.blks.take (i+1)++H.blks.drop (i+1+1)) i=_;unfold aal;rw[List.getD_eq_getElem?_getD,List.getElem?_append_left (by rw[List.length_take];omega),List.getElem?_take_of_lt (by omega),<-List.getD_eq_getElem?_getD]
 unfold Hp.widen;rw[agT h,ai4 h];refine⟨?_,rfl⟩;rw[acr (H.out (i+1)) hlt];show(H.blks.take (i+1)++H.blks.drop (i+1+1)).set i {aal ((H.out (i+1)).drop (i+1)).blks i with size:=_}=_;rw[hb,List.set_append_left _ _ (by rw[List.length_take];omega)];rw[List.take_add_one,List.getElem?_eq_getElem (by omega)];rw[Option.toList_some,List.set_append_right _ _ (by rw[List.length_take];omega),List.length_take,show i-min i H.blks.length=0 by omega];simp;rfl
theorem aeo (h:acG H.blks i=false) (hi:i<H.blks.length):(H.widen i).blks=H.blks/\(H.widen i).ds=H.ds:=by
 unfold Hp.widen;rw[ah4 h,alF h];refine⟨?_,rfl⟩;show H.blks.set i {aal H.blks i with size:=(aal H.blks i).size}=H.blks;have e:({aal H.blks i with size:=(aal H.blks i).size}:Bk)=aal H.blks i:=rfl;rw[e];have hg:=aat hi;rw[List.getElem?_eq_getElem hi]at hg;injection hg with hg;rw[<-hg];exact List.set_getElem_self hi
theorem Hp.Ok.widen (h:H.Ok) (hi:i<H.blks.length):(H.widen i).Ok/\i<(H.widen i).blks.length/\aal (H.widen i).blks i={aal H.blks i with size:=ahu H.blks i}:=by
 cases hn:acG H.blks i with
 | true=>
  obtain⟨e1,e2⟩:=aen hn;have hj:=Hp.Ok.join (Hp.Ok.out (i:=i+1) h) (aeN hn);have ha:=aiO (H.out (i+1)) (i:=i) (aeN hn);refine⟨⟨by rw[e1];exact hj.tl,by rw[e1];exact hj.le,by rw[e1,e2];exact hj.dl⟩,by rw[e1];exact ha.1,?_⟩;rw[e1,ha.2.1,ai4 hn];rfl
 | false=>
  obtain⟨e1,e2⟩:=aeo hn hi;refine⟨⟨by rw[e1];exact h.tl,by rw[e1];exact h.le,by rw[e1,e2];exact h.dl⟩,by rw[e1];exact hi,?_⟩;rw[e1,alF hn]
theorem widen_cap:(H.widen i).cap=H.cap:=by unfold Hp.widen Hp.swallow;split<;>rfl
theorem Hp.Dl.swallow (h:H.Dl):(H.swallow i).Dl:=by
 unfold Hp.swallow;split
 · exact Hp.Dl.drop (Hp.Dl.out h)
 · exact h
theorem Hp.Dl.widen (h:H.Dl):(H.widen i).Dl:=Hp.Dl.size (Hp.Dl.swallow h)
theorem Hp.Dl.moveD{p o:Int}(h:H.Dl):(H.moveD p o).Dl:=by
 unfold Hp.moveD;split
 · show(H.ds.set _ _).length=_;rw[List.length_set];exact h
 · exact h
theorem moveD_cap{p o:Int}:(H.moveD p o).cap=H.cap:=by unfold Hp.moveD;split<;>rfl
theorem Hp.Dl.resize{o:Int}(h:H.Dl):(H.resize o s).2.Dl:=by
 unfold Hp.resize;split
 · exact h
 · split
   · exact h.cut
   · split
     · exact h.widen.cut
     · split
       · exact h.widen.size
       · split
         · exact h
         · rename_i p _
           cases hg:((H.take s).2.moveD (p:Int) o).giveO o with
           | none=>exact h.take.moveD
           | some H2=>exact h.take.moveD.giveO hg
theorem resize_cap{o:Int}:(H.resize o s).2.cap=H.cap:=by
 unfold Hp.resize;split
 · rfl
 · split
   · exact cut_cap
   · split
     · exact cut_cap.trans widen_cap
     · split
       · exact widen_cap
       · split
         · rfl
         · rename_i p _
           cases hg:((H.take s).2.moveD (p:Int) o).giveO o with
           | none=>exact moveD_cap.trans take_cap
           | some H2=>exact(aoX hg).trans (moveD_cap.trans take_cap)
end
theorem ade{l:List Bk}{k:Nat}{v x:Bk}(hx:x∈l) (hne:x≠aal l k):x∈l.set k v:=by
 obtain⟨j,hj⟩:=List.mem_iff_getElem?.1 hx;have hjk:k≠j:=fun e=>by
  subst e;exact hne (aaX hj).symm
 exact List.mem_of_getElem? ((List.getElem?_set_ne hjk).trans hj)
section
variable {H:Hp} {i s:Nat} {x:Bk}
theorem amN (hi:i+1<H.blks.length) (h1:(aal H.blks i).used=false) (h2:(aal H.blks (i+1)).used=false) (hx:x∈H.blks) (hu:x.used=true):x∈(H.join i).blks:=by
 obtain⟨j,hj⟩:=List.mem_iff_getElem?.1 hx;have e1:j≠i:=fun e=>by subst e;rw[aaX hj,hu]at h1;cases h1
 have e2:j≠i+1:=fun e=>by subst e;rw[aaX hj,hu]at h2;cases h2
 rw[acr H hi];rcases Nat.lt_or_ge j i with h | h
 · exact List.mem_append_left _ (List.mem_of_getElem? ((List.getElem?_take_of_lt h).trans hj))
 · refine List.mem_append_right _ (List.mem_cons_of_mem _ ?_);refine List.mem_of_getElem? (i:=j-(i+2)) ?_;rw[List.getElem?_drop,show i+2+(j-(i+2))=j by omega];exact hj
theorem aki (h:acG H.blks i=true):(aal H.blks (i+1)).used=false:=by
 unfold acG at h;rw[Bool.and_eq_true]at h;simpa using h.2
theorem akj (h:aiL H.blks i=true):0<i/\(aal H.blks (i-1)).used=false:=by
 unfold aiL at h;rw[Bool.and_eq_true,decide_eq_true_eq]at h;exact⟨h.1,by simpa using h.2⟩
theorem ai5 (hi:i<H.blks.length) (hx:x∈H.blks) (hu:x.used=true) (hne:x≠aal H.blks i):x∈(H.give i).blks:=by
 have m1:x∈((H.use i false).wipe i).blks:=ade (v:={aal H.blks i with used:=false}) hx hne;have f1:aal ((H.use i false).wipe i).blks i={aal H.blks i with used:=false}:=by
  show aal (H.blks.set i _) i=_;rw[acH _ _ _ _ hi,if_pos rfl]
 have l1:i<((H.use i false).wipe i).blks.length:=by show i<(H.blks.set i _).length;rw[List.length_set];exact hi
 unfold Hp.give;obtain⟨H1,hH1⟩:=nmE ((H.use i false).wipe i);rw[hH1]at m1 f1 l1 ⊢;have f1u:(aal H1.blks i).used=false:=by rw[f1]
 have m2:x∈(H1.giveB i).blks:=by
  unfold Hp.giveB;split
  · rename_i hn;exact amN (H:=H1.out (i+1)) (aeN hn) f1u (aki hn) m1 hu
  · exact m1
 have l2:=amM (H:=H1) l1;have f2:(aal (H1.giveB i).blks i).used=false:=by
  unfold Hp.giveB;split
  · rename_i hn;rw[(aiO (H1.out (i+1)) (i:=i) (aeN hn)).2.1];exact f1u
  · exact f1u
 unfold Hp.giveC;split
 · rename_i hp;obtain⟨hp1,hp2⟩:=akj hp;have e:i-1+1=i:=by omega
   exact amN (H:=(H1.giveB i).out (i-1)) (i:=i-1) (by show i-1+1<(H1.giveB i).blks.length;omega) hp2 (by rw[e];exact f2) m2 hu
 · exact m2
theorem alG (ht:aby 184 H.blks (lenB H.blks)) (hi:i<H.blks.length) (hs:aaG (s:Int)=true) (hx:x∈H.blks) (hu:x.used=true) (hne:x≠aal H.blks i):x∈(H.cut i s).blks:=by
 unfold Hp.cut;split
 · exact ade (v:={aal H.blks i with used:=true}) hx hne
 · rename_i hge;obtain⟨y,hy⟩:∃y:Bk,(⟨(aal H.blks i).off+s,(aal H.blks i).size-s,true⟩:Bk)=y:=⟨_,rfl⟩;rw[hy];have hb:=ae0 (s:=s) H hi y;have hln:=alc (s:=s) H hi y;obtain⟨H2,hH2⟩:=nmE (((H.use i true).size i s).put (i+1) y);rw[hH2]at hb hln ⊢;have hss:=(aab _).1 hs;have hx2:x∈H2.blks:=by
    rw[hb];obtain⟨j,hj⟩:=List.mem_iff_getElem?.1 hx;have e1:j≠i:=fun e=>by subst e;exact hne (aaX hj).symm
    rcases Nat.lt_or_ge j i with h | h
    · exact List.mem_append_left _ (List.mem_of_getElem? ((List.getElem?_take_of_lt h).trans hj))
    · refine List.mem_append_right _ (List.mem_cons_of_mem _ (List.mem_cons_of_mem _ ?_));refine List.mem_of_getElem? (i:=j-(i+1)) ?_;rw[List.getElem?_drop,show i+1+(j-(i+1))=j by omega];exact hj
   have hat:aal H2.blks (i+1)=y:=aaX (by
    rw[hb,List.getElem?_append_right (by rw[List.length_take];omega),List.length_take,show i+1-min i H.blks.length=1 by omega];rfl)
   refine ai5 (H:=H2) (by omega) hx2 hu (fun e=> ?_);rw[hat,<-hy]at e;have hxs:=(aab _).1 ((aak _ _ _ ht).2 x hx).2.2.1;have e2:x.off=(aal H.blks i).off+s:=by rw[e]
   rcases aaO _ _ _ ht x hx _ (List.mem_of_getElem? (aat hi))with h | h | h
   · exact hne h
   · omega
   · omega
theorem afc (ht:aby 184 H.blks (lenB H.blks)) (hs:aaG (s:Int)=true) (hfr:∀i,H.find s=some i->i<H.blks.length/\(aal H.blks i).used=false) (hx:x∈H.blks) (hu:x.used=true):x∈(H.take s).2.blks:=by
 unfold Hp.take;split
 · rename_i i hf;obtain⟨h1,h2⟩:=hfr i hf;exact alG (H:=H.out i) ht h1 hs hx hu (fun e=>by
    have e:x=aal H.blks i:=e;rw[e,h2]at hu;cases hu)
 · split
   · exact hx
   · split
     · rename_i htl;have hn:0<H.blks.length:=List.length_pos_of_mem hx;have hu0:(aal H.blks (H.blks.length-1)).used=false:=by
        cases hu':(aal H.blks (H.blks.length-1)).used with
        | false=>rfl
        | true=>unfold acq at htl;rw[if_neg (by omega),if_pos hu']at htl;omega
       obtain⟨k,hk⟩:=nmE (H.blks.length-1);rw[hk]at hu0 ⊢;have hne:x≠aal H.blks k:=fun e=>by rw[e,hu0]at hu;cases hu
       have m1:x∈((H.out k).size k s).blks:=ade (v:={aal H.blks k with size:=s}) hx hne;refine ade (l:=((H.out k).size k s).blks) (k:=k) (v:={aal ((H.out k).size k s).blks k with used:=true}) m1 (fun e=> ?_);have e2:aal ((H.out k).size k s).blks k={aal H.blks k with size:=s}:=by
        show aal (H.blks.set k _) k=_;rw[acH _ _ _ _ (by omega),if_pos rfl];rfl
       rw[e2]at e;rw[e]at hu;have hu:(aal H.blks k).used=true:=hu;rw[hu0]at hu
       cases hu
     · show x∈H.blks.take _++_::H.blks.drop _;rw[List.take_length];exact List.mem_append_left _ hx
end
section
variable {bs:List UInt8} {H:Hp} {s:Nat}
theorem Rt.moves (h:Rt bs H) (hs:aaG (s:Int)=true){o:Int}:∀i q,aa3 H.blks o=some i->(H.take s).1=some q->∃iq io,atB (q:Int) (H.take s).2.blks=some iq/\atB o (H.take s).2.blks=some io:=fun i q hu hq=>by
 have ht:aby 184 H.blks (Go.Proofs.YtncadccbepjekaaGreatDoor.lenB H.blks):=by rw[h.lenE];exact(aaj h.walk).2.1
 obtain⟨x,hx,hxo,_⟩:=h.what hs hq;obtain⟨iq,hiq⟩:=aeD hx;have hib:i<H.blks.length/\((aal H.blks i).off:Int)=o/\(aal H.blks i).used=true:=by
  unfold aa3 at hu;split at hu
  · cases hu
  · rename_i j hj;split at hu
    · rename_i hus;injection hu with hu;subst hu;exact⟨(afJ hj).1,(afJ hj).2,hus⟩
    · cases hu
 obtain⟨io,hio⟩:=aeD (afc ht hs (fun j hj=>by obtain⟨a,_,c⟩:=h.found hs hj;exact⟨a,c⟩) (List.mem_of_getElem? (aat hib.1)) hib.2.2);rw[hxo]at hiq;rw[hib.2.1]at hio;exact⟨iq,io,hiq,hio⟩
end
def ah5 (bs bs':List UInt8) (x:Bk):Prop:=bs'.length=bs.length/\∀q,(q<x.off+8\/x.off+x.size<=q+8)->bs'[q]?=bs[q]?
theorem ah6{bs bs':List UInt8}{c:Nat}:∀(k last p:Nat) (l:List Nat),aeR bs c k last p=some l->(∀o∈l,aap bs' o (c:Int)=true/\aaf bs' (o+16)=aaf bs (o+16)/\aaf bs' (o+8)=aaf bs (o+8))->aeR bs' c k last p=some l
 | 0,last,p,l,h,_=>by
  unfold aeR at h ⊢;split at h
  · rename_i hp;rw[if_pos hp];exact h
  · cases h
 | k+1,last,p,l,h,hm=>by
  unfold aeR at h ⊢;by_cases hp:p=0
  · rw[if_pos hp]at h ⊢;exact h
  · rw[if_neg hp]at h ⊢;dsimp only at h ⊢;by_cases hc:aap bs p (c:Int)=true/\aaf bs (p+16)=last
    · rw[if_pos hc]at h
      cases hr:aeR bs c k p (aaf bs (p+8))with
      | none=>rw[hr]at h;cases h
      | some l'=>
       rw[hr]at h;injection h with h;subst h;obtain⟨m1,m2,m3⟩:=hm p (by simp);rw[if_pos ⟨m1,m2.trans hc.2⟩,m3,ah6 k p _ l' hr (fun o ho=>hm o (by simp[ho]))];rfl
    · rw[if_neg hc]at h;cases h
theorem ah7{bs bs':List UInt8}{l:List Bk}(h:∀c,c<22->afH bs' c=afH bs c):∀(k c:Nat) (fr:Int),c+k=22->af1 bs' l k c fr=af1 bs l k c fr
 | 0,c,fr,_=>rfl
 | k+1,c,fr,hck=>by
  unfold af1;rw[h c (by omega)];split
  · rfl
  · rw[ah7 h k (c+1) _ (by omega)]
section
variable {bs bs':List UInt8} {H:Hp} {x:Bk}
theorem Rt.fill (h:Rt bs H) (hx:x∈H.blks) (hu:x.used=true) (ha:ah5 bs bs' x):Rt bs' H:=by
 obtain⟨h184,ht,hg⟩:=aaj h.walk;obtain⟨hl,hq⟩:=ha;have hxm:=(aak _ _ _ ht).2 x hx;have hxs:=(aab _).1 hxm.2.2.1;have hw:∀p,(p+8<=x.off+8\/x.off+x.size<=p+8)->aaf bs' p=aaf bs p:=fun p hp=>aaM bs bs' p fun i h1 h2=>hq i (by omega);have hget:∀y∈H.blks,aa8 bs' (y.off:Int)=some y:=fun y hy=>by
  have hym:=(aab _).1 ((aak _ _ _ ht).2 y hy).2.2.1;refine abV bs bs' y hl (hg y hy) ?_ ?_
  · rcases aaO _ _ _ ht y hy x hx with rfl | h' | h'
    · exact hw _ (.inl (by omega))
    · exact hw _ (.inl (by omega))
    · exact hw _ (.inr (by omega))
  · rcases aaO _ _ _ ht y hy x hx with rfl | h' | h'
    · exact hw _ (.inr (by omega))
    · exact hw _ (.inl (by omega))
    · exact hw _ (.inr (by omega))
 have hwalk:abI bs'=some H.blks:=ac9 (by rw[hl];exact ht) hget;have hall:∀c,c<22->afH bs' c=some (H.lists c):=fun c hc=>by
  have h1:=h.all_ c hc;unfold afH at h1 ⊢;rw[hl,hw 0 (.inl (by omega)),hw (8+8*c) (.inl (by omega))];split at h1
  · cases h1
  · rename_i hn;rw[if_neg hn];split at h1
    · cases h1
    · rename_i hb;rw[if_neg hb];refine ah6 _ _ _ _ h1 fun o ho=> ?_;obtain⟨y,hy,hyo,hyu,hyc⟩:=abA ((h.nfree.1 c hc).2 o ho);have hym:=(aab _).1 ((aak _ _ _ ht).2 y hy).2.2.1;have hye:=((aak _ _ _ ht).2 y hy).2.1;have hmm:=aeE (acM (h.all_ c hc) o ho);subst hyo;have hap:y.off+y.size<=x.off\/x.off+x.size<=y.off:=by
       rcases aaO _ _ _ ht y hy x hx with h' | h' | h'
       · rw[h',hu]at hyu;cases hyu
       · exact .inl h'
       · exact .inr h'
      refine⟨?_,?_,?_⟩
      · unfold aap;rw[hget y hy];simp only[Bool.and_eq_true,decide_eq_true_eq,beq_iff_eq,Bool.not_eq_true'];exact⟨hmm.1,hyu,hyc⟩
      · rcases hap with h' | h'
        · exact hw _ (.inl (by omega))
        · exact hw _ (.inr (by omega))
      · rcases hap with h' | h'
        · exact hw _ (.inl (by omega))
        · exact hw _ (.inr (by omega))
 refine⟨hwalk,hall,?_,by rw[hl];exact h.len⟩;have hk:=h.chk;unfold ace at hk ⊢;rw[h.walk]at hk;rw[hwalk];dsimp only at hk ⊢;have hn0:aos bs' 0=aos bs 0:=by
  unfold aos word?;rw[hl];split
  · show(some (aaf bs' 0)).getD 0=(some (aaf bs 0)).getD 0;rw[hw 0 (.inl (by omega))]
  · rfl
 rw[hn0,ah7 (fun c hc=>(hall c hc).trans (h.all_ c hc).symm) 22 0 _ rfl];exact hk
theorem ad8 (d:Nat) (cs:List UInt8) (h1:x.off+8<=d) (h2:d+cs.length+8<=x.off+x.size) (h3:x.off+x.size<=bs.length):ah5 bs (lay bs d cs) x:=by
 have hle:d<=bs.length:=by omega
 refine⟨?_,fun q hq=> ?_⟩
 · unfold lay;simp only[List.length_append,List.length_take,List.length_drop];omega
 · unfold lay;rcases Nat.lt_or_ge q d with h | h
   · rw[List.getElem?_append_left (by rw[List.length_take];omega),List.getElem?_take_of_lt h]
   · have hq2:d+cs.length<=q:=by omega
     rw[List.getElem?_append_right (by rw[List.length_take];omega),List.length_take,List.getElem?_append_right (by omega),List.getElem?_drop];congr 1;omega
theorem agU (bs:List UInt8) (d:Nat) (cs:List UInt8) (hd:d<=bs.length) (k:Nat) (hk:k<cs.length):(lay bs d cs)[d+k]?=cs[k]?:=by
 unfold lay;rw[List.getElem?_append_right (by rw[List.length_take];omega),List.length_take,List.getElem?_append_left (by omega),show d+k-min d bs.length=k by omega]
end
section
variable {bs:List UInt8} {H:Hp} {i s:Nat} {x:Bk}
theorem ap2 (hi:i+1<H.blks.length) (h1:x≠aal H.blks i) (h2:x≠aal H.blks (i+1)) (hx:x∈H.blks):x∈(H.join i).blks:=by
 obtain⟨j,hj⟩:=List.mem_iff_getElem?.1 hx;have e1:j≠i:=fun e=>by subst e;exact h1 (aaX hj).symm
 have e2:j≠i+1:=fun e=>by subst e;exact h2 (aaX hj).symm
 rw[acr H hi];rcases Nat.lt_or_ge j i with h | h
 · exact List.mem_append_left _ (List.mem_of_getElem? ((List.getElem?_take_of_lt h).trans hj))
 · refine List.mem_append_right _ (List.mem_cons_of_mem _ ?_);refine List.mem_of_getElem? (i:=j-(i+2)) ?_;rw[List.getElem?_drop,show i+2+(j-(i+2))=j by omega];exact hj
theorem akk (hi:i<H.blks.length) (hx:x∈H.blks) (hu:x.used=true) (hne:x≠aal H.blks i):x∈(H.widen i).blks:=by
 cases hn:acG H.blks i with
 | true=>
  rw[(aen hn).1];refine ap2 (H:=H.out (i+1)) (aeN hn) hne (fun e=> ?_) hx;have e:x=aal H.blks (i+1):=e;rw[e,aki hn]at hu
  cases hu
 | false=>rw[(aeo hn hi).1];exact hx
theorem acw{l:List Bk}{o:Int}{i:Nat}(h:aa3 l o=some i):i<l.length/\((aal l i).off:Int)=o/\(aal l i).used=true:=by
 unfold aa3 at h;split at h
 · cases h
 · rename_i j hj;split at h
   · rename_i hu;injection h with h;subst h;exact⟨(afJ hj).1,(afJ hj).2,hu⟩
   · cases h
theorem ach{p o:Int}:(H.moveD p o).blks=H.blks:=by unfold Hp.moveD;split<;>rfl
theorem akl{o:Int}(hx:x∈H.blks) (hu:x.used=true) (hne:(x.off:Int)≠o):x∈((H.giveO o).getD H).blks:=by
 unfold Hp.giveO
 cases h:aa3 H.blks o with
 | none=>exact hx
 | some j=>
  obtain⟨h1,h2,_⟩:=acw h;exact ai5 h1 hx hu (fun e=>hne (by rw[e];exact h2))
theorem Rt.rezMem (h:Rt bs H) (hok:H.Ok) (hs:aaG (s:Int)=true){o:Int}(hx:x∈H.blks) (hu:x.used=true) (hne:(x.off:Int)≠o):x∈(H.resize o s).2.blks:=by
 unfold Hp.resize;split
 · exact hx
 · rename_i i hi;obtain⟨h1,h2,h3⟩:=acw hi;have hxi:x≠aal H.blks i:=fun e=>hne (by rw[e];exact h2);split
   · exact alG hok.tl h1 hs hx hu hxi
   · have hw:=hok.widen h1;have hxw:x≠aal (H.widen i).blks i:=fun e=>by
      rw[hw.2.2]at e;exact hne (by rw[e];exact h2)
     split
     · exact alG hw.1.tl hw.2.1 hs (akk h1 hx hu hxi) hu hxw
     · split
       · exact ade (l:=(H.widen i).blks) (akk h1 hx hu hxi) hxw
       · split
         · exact hx
         · refine akl (H:=(H.take s).2.moveD _ o) ?_ hu hne;rw[ach];exact afc hok.tl hs (fun j hj=>by obtain⟨a,_,c⟩:=h.found hs hj;exact⟨a,c⟩) hx hu
theorem Rt.rezHas (h:Rt bs H) (hok:H.Ok) (hs:aaG (s:Int)=true){o:Int}(he:(H.resize o s).1.2=0):∃y∈(H.resize o s).2.blks,y.used=true/\y.off=(H.resize o s).1.1/\s<=y.size:=by
 unfold Hp.resize at he ⊢;split
 · rename_i hn;rw[hn]at he
   cases he
 · rename_i i hi;obtain⟨h1,h2,h3⟩:=acw hi;rw[hi]at he;dsimp only at he ⊢;split
   · rename_i hle;obtain⟨y,a,b,c,d,_⟩:=alE h1 hle;exact⟨y,a,c,b,d⟩
   · rename_i hlt;rw[if_neg hlt]at he;have hw:=hok.widen h1;split
     · rename_i hb;obtain⟨y,a,b,c,d,_⟩:=alE (H:=H.widen i) (s:=s) hw.2.1 (by rw[hw.2.2];exact hb);rw[hw.2.2]at b;exact⟨y,a,c,b,d⟩
     · rename_i hb;rw[if_neg hb]at he;split
       · have hat:((H.widen i).size i s).blks[i]?=some {aal (H.widen i).blks i with size:=s}:=List.getElem?_set_self hw.2.1;rw[hw.2.2]at hat;exact⟨_,List.mem_of_getElem? hat,h3,rfl,Nat.le_refl _⟩
       · rename_i hg;rw[if_neg hg]at he;split
         · rename_i hn;rw[hn]at he
           cases he
         · rename_i q hq;obtain⟨y,a,b,c,d,_,ap⟩:=h.what hs hq;refine⟨y,?_,c,b,d⟩;refine akl (H:=(H.take s).2.moveD (q:Int) o) (by rw[ach];exact a) c (fun e=> ?_);have hap:=ap _ (List.mem_of_getElem? (aat h1)) h3;have hsz:=(aab _).1 (hok.sz h1);have hss:=(aab _).1 hs;omega
end
def Hp.handleB (H:Hp) (q:Nat):Option Nat:=if q<8\/20000<q then none else aa3 H.blks ((q:Int)-8)
def acT (d:List UInt8) (n:Nat) (x:UInt8):List UInt8:=d.take n++List.replicate (n-d.length) x
theorem adf (d:List UInt8) (n:Nat) (x:UInt8):(acT d n x).length=n:=by
 unfold acT;rw[List.length_append,List.length_take,List.length_replicate];omega
theorem ai6 (d:List UInt8) (n:Nat) (x:UInt8) (k:Nat) (hk:k<n):(acT d n x)[k]?=some (d.getD k x):=by
 unfold acT;rcases Nat.lt_or_ge k d.length with h | h
 · rw[List.getElem?_append_left (by rw[List.length_take];omega),List.getElem?_take_of_lt hk,List.getD_eq_getElem?_getD,List.getElem?_eq_getElem h];rfl
 · rw[List.getElem?_append_right (by rw[List.length_take];omega),List.getElem?_replicate,if_pos (by rw[List.length_take];omega),List.getD_eq_getElem?_getD,List.getElem?_eq_none h];rfl
def Hp.dset (H:Hp) (i:Nat) (d:Dt):Hp:={H with ds:=H.ds.set i d}
def Hp.fill (H:Hp) (i:Nat) (x:UInt8):Hp:=H.dset i (.slice none 0 0,acT (H.ds.getD i acc).2 ((aal H.blks i).size-16) x)
theorem ac3{n s:Nat}(h:acn n=some s):aaG (s:Int)=true:=by
 unfold acn at h;split at h
 · injection h with h;exact(aab _).2 (by omega)
 · cases h
def Hp.get (H:Hp) (n:Nat) (x:UInt8):(Nat × Int) × Hp:=match acn n with
 | none=>((0,5),H)
 | some s=>match (H.take s).1 with
  | none=>((0,5),H)
  | some o=>((o+8,0),match atB (o:Int) (H.take s).2.blks with
   | none=>(H.take s).2
   | some i=>((H.take s).2.wipe i).fill i x)
def Hp.calloc (H:Hp) (n m:Nat):(Nat × Int) × Hp:=if 18446744073709551615<n*m then ((0,5),H) else H.get (n*m) 0
def Hp.realloc (H:Hp) (q n:Nat):(Nat × Int) × Hp:=match H.handleB q with
 | none=>((0,4),H)
 | some _=>match acn n with
  | none=>((0,5),H)
  | some s=>if (H.resize ((q:Int)-8) s).1.2=0 then (((H.resize ((q:Int)-8) s).1.1+8,0),match atB ((H.resize ((q:Int)-8) s).1.1:Int) (H.resize ((q:Int)-8) s).2.blks with
   | none=>(H.resize ((q:Int)-8) s).2
   | some i=>(H.resize ((q:Int)-8) s).2.fill i 165)
   else ((0,(H.resize ((q:Int)-8) s).1.2),(H.resize ((q:Int)-8) s).2)
theorem adA{H:Hp}{q i:Nat}(h:H.handleB q=some i):8<=q/\q<=20000/\aa3 H.blks ((q:Int)-8)=some i:=by
 unfold Hp.handleB at h;split at h
 · cases h
 · exact⟨by omega,by omega,h⟩
theorem aeO (H:Hp) (o:Int) (s:Nat) (h:(H.resize o s).1.2≠0):(H.resize o s).1.1=0/\(H.resize o s).2=H/\((H.resize o s).1.2=3\/(H.resize o s).1.2=5):=by
 unfold Hp.resize at h ⊢;split
 · exact⟨rfl,rfl, .inl rfl⟩
 · rename_i i hi;rw[hi]at h;dsimp only at h ⊢;split
   · rename_i h1;rw[if_pos h1]at h;exact absurd rfl h
   · rename_i h1;rw[if_neg h1]at h;split
     · rename_i h2;rw[if_pos h2]at h;exact absurd rfl h
     · rename_i h2;rw[if_neg h2]at h;split
       · rename_i h3;rw[if_pos h3]at h;exact absurd rfl h
       · rename_i h3;rw[if_neg h3]at h;split
         · exact⟨rfl,rfl, .inr rfl⟩
         · rename_i p hp;rw[hp]at h;exact absurd rfl h
theorem au4{α:Type}(l:List α) (i j:Nat):(l.take i++l.drop (i+1))[j]?=if j<i then l[j]? else l[j+1]?:=by
 rcases Nat.lt_or_ge j i with h | h
 · rw[if_pos h];rcases Nat.lt_or_ge j l.length with h2 | h2
   · rw[List.getElem?_append_left (by rw[List.length_take];omega),List.getElem?_take_of_lt h]
   · rw[List.getElem?_append_right (by rw[List.length_take];omega),List.getElem?_drop,List.getElem?_eq_none (by omega),List.getElem?_eq_none (by omega)]
 · rw[if_neg (by omega)];rw[List.getElem?_append_right (by rw[List.length_take];omega),List.length_take,List.getElem?_drop];rcases Nat.lt_or_ge l.length i with h2 | h2
   · rw[List.getElem?_eq_none (by omega),List.getElem?_eq_none (by omega)]
   · congr 1;omega
theorem as4{α:Type}(l:List α) (i j:Nat) (y:α) (hi:i<=l.length):(l.take i++y::l.drop i)[j]?=if j<i then l[j]? else if j=i then some y else l[j-1]?:=by
 rcases Nat.lt_or_ge j i with h | h
 · rw[if_pos h,List.getElem?_append_left (by rw[List.length_take];omega),List.getElem?_take_of_lt h]
 · rw[if_neg (by omega),List.getElem?_append_right (by rw[List.length_take];omega),List.length_take];by_cases e:j=i
   · rw[if_pos e,show j-min i l.length=0 by omega];rfl
   · rw[if_neg e,show j-min i l.length=(j-1-i)+1 by omega,List.getElem?_cons_succ,List.getElem?_drop];congr 1;omega
def Hp.At (H:Hp) (j:Nat) (x:Bk) (d:Dt):Prop:=H.blks[j]?=some x/\H.ds[j]?=some d
section
variable {H:Hp} {i j k s:Nat} {x:Bk} {d:Dt}
theorem ap3 (h:(H.drop k).At j x d):∃j',j'≠k/\H.At j' x d/\(j<k->j'=j)/\(k<=j->j'=j+1):=by
 obtain⟨h1,h2⟩:=h;have h1:(H.blks.take k++H.blks.drop (k+1))[j]?=some x:=h1;have h2:(H.ds.take k++H.ds.drop (k+1))[j]?=some d:=h2;rw[au4]at h1 h2;split at h1
 · rename_i hj;rw[if_pos hj]at h2;exact⟨j,by omega,⟨h1,h2⟩,fun _=>rfl,fun h=>by omega⟩
 · rename_i hj;rw[if_neg hj]at h2;exact⟨j+1,by omega,⟨h1,h2⟩,fun h=>by omega,fun _=>rfl⟩
theorem as5{y:Bk}{l:List Bk}(h1:(l.set i y)[j]?=some x):(j=i/\x=y/\i<l.length)\/(j≠i/\l[j]?=some x):=by
 rw[List.getElem?_set]at h1;split at h1
 · rename_i e;split at h1
   · rename_i hi;injection h1 with h1;exact .inl ⟨e.symm,h1.symm,hi⟩
   · cases h1
 · rename_i e;exact .inr ⟨fun e'=>e e'.symm,h1⟩
theorem agV (h:(H.size i s).At j x d):∃x0,H.At j x0 d/\x0.off=x.off/\x0.used=x.used/\(j≠i->x0=x):=by
 obtain⟨h1,h2⟩:=h;rcases as5 h1 with⟨rfl,rfl,hi⟩ | ⟨hj,h1⟩
 · exact⟨aal H.blks j,⟨aat hi,h2⟩,rfl,rfl,fun e=>absurd rfl e⟩
 · exact⟨x,⟨h1,h2⟩,rfl,rfl,fun _=>rfl⟩
theorem amO{u:Bool}(h:(H.use i u).At j x d):(j=i/\x={aal H.blks i with used:=u}/\i<H.blks.length/\H.ds[i]?=some d)\/(j≠i/\H.At j x d):=by
 obtain⟨h1,h2⟩:=h;rcases as5 h1 with⟨rfl,h3,h4⟩ | ⟨hj,h1⟩
 · exact .inl ⟨rfl,h3,h4,h2⟩
 · exact .inr ⟨hj,h1,h2⟩
theorem ap4 (h:(H.wipe i).At j x d) (hj:j≠i):H.At j x d:=by
 obtain⟨h1,h2⟩:=h;have h2:(H.ds.set i acc)[j]?=some d:=h2;rw[List.getElem?_set_ne (fun e=>hj e.symm)]at h2;exact⟨h1,h2⟩
theorem ap5 (h:(H.join i).At j x d):(∃x0,H.At i x0 d/\x0.off=x.off/\x0.used=x.used)\/∃j',j'≠i/\j'≠i+1/\H.At j' x d:=by
 unfold Hp.join at h;obtain⟨j',hj,h,_⟩:=ap3 h;obtain⟨x0,h1,h2,h3,h4⟩:=agV h;by_cases e:j'=i
 · subst e;exact .inl ⟨x0,h1,h2,h3⟩
 · rw[h4 e]at h1;exact .inr ⟨j',e,hj,h1⟩
theorem alH (h:H.blks[j]?=some x) (hu:(aal H.blks j).used=false):x.used=false:=by rw[<-aaX h];exact hu
theorem ai7 (hi:i<H.blks.length) (h:(H.give i).At j x d) (hu:x.used=true):∃j',j'≠i/\H.At j' x d:=by
 unfold Hp.give at h;have f0:aal ((H.use i false).wipe i).blks i={aal H.blks i with used:=false}:=by
  show aal (H.blks.set i _) i=_;rw[acH _ _ _ _ hi,if_pos rfl]
 have fin:∀j',((H.use i false).wipe i).At j' x d->∃j',j'≠i/\H.At j' x d:=fun j' hh=>by
  by_cases e:j'=i
  · subst e;have:=alH hh.1 (by rw[f0]);rw[hu]at this;cases this
  · have hw:=ap4 hh e;rcases amO hw with⟨e',_⟩ | ⟨_,hw⟩
    · exact absurd e' e
    · exact⟨j',e,hw⟩
 obtain⟨H1,hH1⟩:=nmE ((H.use i false).wipe i);have hi1:i<H1.blks.length:=by rw[<-hH1];show i<(H.blks.set i _).length;rw[List.length_set];exact hi
 rw[hH1]at h f0 fin;have f1:(aal H1.blks i).used=false:=by rw[f0]
 have mid:∀j',(H1.giveB i).At j' x d->∃j',j'≠i/\H.At j' x d:=fun j' hh=>by
  unfold Hp.giveB at hh;split at hh
  · rcases ap5 (H:=H1.out (i+1)) hh with⟨x0,h1,h2,h3⟩ | ⟨j2,_,_,h1⟩
    · have:x0.used=false:=alH (H:=H1) h1.1 f1;rw[h3,hu]at this;cases this
    · exact fin j2 ⟨h1.1,h1.2⟩
  · exact fin j' hh
 obtain⟨H2,hH2⟩:=nmE (H1.giveB i);rw[hH2]at h mid;unfold Hp.giveC at h;split at h
 · rename_i hp;have hp:=(akj hp).2;rcases ap5 (H:=H2.out (i-1)) (i:=i-1) ⟨h.1,h.2⟩with⟨x0,h1,h2,h3⟩ | ⟨j2,_,_,h1⟩
   · have:x0.used=false:=alH (H:=H2) h1.1 hp;rw[h3,hu]at this;cases this
   · exact mid j2 ⟨h1.1,h1.2⟩
 · exact mid j ⟨h.1,h.2⟩
theorem ap6 (hd:H.Dl) (hi:i<H.blks.length) (h:(H.cut i s).At j x d) (hu:x.used=true):(∃x0,H.At i x0 d/\x0.off=x.off)\/∃j',j'≠i/\H.At j' x d:=by
 unfold Hp.cut at h;split at h
 · rcases amO h with⟨rfl,rfl,h3,h4⟩ | ⟨hj,h⟩
   · exact .inl ⟨aal H.blks j,⟨aat h3,h4⟩,rfl⟩
   · exact .inr ⟨j,hj,h⟩
 · have hlen:((H.use i true).size i s).blks.length=H.blks.length:=by
    show((H.blks.set i _).set i _).length=_;rw[List.length_set,List.length_set]
   have hlp:i+1<(((H.use i true).size i s).put (i+1) ⟨(aal H.blks i).off+s,(aal H.blks i).size-s,true⟩).blks.length:=by
    show i+1<(((H.use i true).size i s).blks.take (i+1)++_::((H.use i true).size i s).blks.drop (i+1)).length;simp only[List.length_append,List.length_take,List.length_cons,List.length_drop];omega
   obtain⟨j1,hj1,h1⟩:=ai7 hlp h hu;obtain⟨a,b⟩:=h1;have a:(((H.use i true).size i s).blks.take (i+1)++_::((H.use i true).size i s).blks.drop (i+1))[j1]?=some x:=a;have b:(H.ds.take (i+1)++acc::H.ds.drop (i+1))[j1]?=some d:=b;have hd:H.ds.length=H.blks.length:=hd;rw[as4 _ _ _ _ (by omega)]at a b;have key:∀j2,((H.use i true).size i s).blks[j2]?=some x->H.ds[j2]?=some d->(∃x0,H.At i x0 d/\x0.off=x.off)\/∃j',j'≠i/\H.At j' x d:=fun j2 a b=>by
    obtain⟨x0,c1,c2,c3,c4⟩:=agV (H:=H.use i true) (i:=i) (s:=s) (j:=j2) ⟨a,b⟩;rcases amO c1 with⟨rfl,rfl,h3,h4⟩ | ⟨hj,c1⟩
    · exact .inl ⟨aal H.blks j2,⟨aat h3,h4⟩,c2⟩
    · rw[c4 hj]at c1;exact .inr ⟨j2,hj,c1⟩
   by_cases e:j1<i+1
   · rw[if_pos e]at a b;exact key j1 a b
   · rw[if_neg e,if_neg hj1]at a b;exact key _ a b
theorem ai8 (hd:H.Dl) (hfr:∀i,H.find s=some i->i<H.blks.length/\(aal H.blks i).used=false) (h:(H.take s).2.At j x d) (hu:x.used=true):(H.take s).1=some x.off\/∃j',H.At j' x d:=by
 unfold Hp.take at h ⊢;split at h
 · rename_i i hf;rcases ap6 (H:=H.out i) hd (hfr i hf).1 h hu with⟨x0,h1,h2⟩ | ⟨j',_,h1⟩
   · left;rw[<-h2,aaX (show H.blks[i]?=some x0 from h1.1)]
   · exact .inr ⟨j',h1.1,h1.2⟩
 · rename_i hf;split at h
   · exact .inr ⟨j,h⟩
   · rename_i hcp;rw[if_neg hcp];split at h
     · rename_i htl;rw[if_pos htl];rcases amO h with⟨rfl,rfl,h3,h4⟩ | ⟨hj,h⟩
       · left;have h3:H.blks.length-1<H.blks.length:=by
          have h3:H.blks.length-1<(H.blks.set _ _).length:=h3;rw[List.length_set]at h3;exact h3
         show some (aal H.blks (H.blks.length-1)).off=some (aal (H.blks.set (H.blks.length-1) {aal H.blks (H.blks.length-1)with size:=s}) (H.blks.length-1)).off;rw[acH _ _ _ _ h3,if_pos rfl]
       · obtain⟨x0,c1,c2,c3,c4⟩:=agV (H:=H.out (H.blks.length-1)) h;rw[c4 hj]at c1;exact .inr ⟨j,c1.1,c1.2⟩
     · rename_i htl;rw[if_neg htl];obtain⟨a,b⟩:=h;have a:(H.blks.take H.blks.length++_::H.blks.drop H.blks.length)[j]?=some x:=a;have b:(H.ds.take H.blks.length++acc::H.ds.drop H.blks.length)[j]?=some d:=b;have hd:H.ds.length=H.blks.length:=hd;rw[as4 _ _ _ _ (by omega)]at a b;by_cases e:j<H.blks.length
       · rw[if_pos e]at a b;exact .inr ⟨j,a,b⟩
       · rw[if_neg e]at a b;by_cases e2:j=H.blks.length
         · rw[if_pos e2]at a;injection a with a;left;rw[<-a]
         · rw[if_neg e2]at a b;exact .inr ⟨_,a,b⟩
end
def ai9 (H:Hp) (bs:List UInt8) (o:Int) (H':Hp) (out:List UInt8) (p:Nat):Prop:=
 ∀x∈H.blks,x.used=true->(x.off:Int)=o->∀y∈H'.blks,y.used=true->y.off=p->∀i,8<=i->i+8<x.size->i+8<y.size->out[p+i]?=bs[x.off+i]?
def Hp.One (H:Hp):Prop:=∀(a b:Nat) (x y:Bk),H.blks[a]?=some x->H.blks[b]?=some y->x.off=y.off->a=b
theorem Rt.one{bs:List UInt8}{H:Hp}(h:Rt bs H):H.One:=fun a b x y ha hb e=>by
 have hpw:=List.pairwise_iff_getElem.1 (adX _ _ _ (aaj h.walk).2.1);have e1:H.blks[a]'(aau ha)=x:=by have:=List.getElem?_eq_getElem (aau ha);rw[ha]at this;exact(Option.some.inj this).symm
 have e2:H.blks[b]'(aau hb)=y:=by have:=List.getElem?_eq_getElem (aau hb);rw[hb]at this;exact(Option.some.inj this).symm
 rcases Nat.lt_trichotomy a b with h' | h' | h'
 · exact absurd (by rw[e1,e2];exact e) (hpw a b (aau ha) (aau hb) h')
 · exact h'
 · exact absurd (by rw[e1,e2];exact e.symm) (hpw b a (aau hb) (aau ha) h')
section
variable {H:Hp} {i j k s:Nat} {x:Bk} {d:Dt}
theorem aja (h:(H.widen i).At j x d):∃j' x0,H.At j' x0 d/\x0.off=x.off/\x0.used=x.used/\(j=i->j'=i)/\(j≠i->j'≠i/\x0=x):=by
 unfold Hp.widen at h;obtain⟨x0,h1,h2,h3,h4⟩:=agV h;unfold Hp.swallow at h1;split at h1
 · obtain⟨j',c1,h1,c2,c3⟩:=ap3 h1;exact⟨j',x0,⟨h1.1,h1.2⟩,h2,h3,fun e=>by rw[c2 (by omega),e],fun e=>⟨by
    rcases Nat.lt_or_ge j (i+1)with hh | hh
    · rw[c2 hh];exact e
    · rw[c3 hh];omega,h4 e⟩⟩
 · exact⟨j,x0,h1,h2,h3,id,fun e=>⟨e,h4 e⟩⟩
theorem ar8{p o:Int}(h:(H.moveD p o).At j x d):(H.At j x d/\∀ip io,atB p H.blks=some ip->atB o H.blks=some io->j≠ip)\/((x.off:Int)=p/\∃io xo,atB o H.blks=some io/\H.blks[io]?=some xo/\d=H.ds.getD io acc):=by
 unfold Hp.moveD at h;split at h
 · rename_i ip io h1 h2;obtain⟨a,b⟩:=h;have b:(H.ds.set ip (H.ds.getD io acc))[j]?=some d:=b;have a':H.blks[j]?=some x:=a;by_cases e:j=ip
   · subst e;have hl:j<H.ds.length:=by
      have:=aau b;rwa [List.length_set]at this
     rw[List.getElem?_set_self hl]at b;injection b with b;obtain⟨x1,e1,e2⟩:=abM h1;obtain⟨x2,e3,_⟩:=abM h2;obtain rfl:x=x1:=Option.some.inj (a'.symm.trans e1);exact .inr ⟨e2,io,x2,h2,e3,b.symm⟩
   · rw[List.getElem?_set_ne (fun e'=>e e'.symm)]at b;exact .inl ⟨⟨a',b⟩,fun ip' io' h3 _=>by rw[h1]at h3;injection h3 with h3;rw[<-h3];exact e⟩
 · rename_i hn;exact .inl ⟨h,fun ip io h1 h2=>absurd h2 (hn ip io h1)⟩
theorem ar9{o:Int}(h:((H.giveO o).getD H).At j x d) (hu:x.used=true):∃j',H.At j' x d/\∀i,aa3 H.blks o=some i->j'≠i:=by
 unfold Hp.giveO at h
 cases hi:aa3 H.blks o with
 | none=>rw[hi]at h;exact⟨j,h,fun i hh=>by cases hh⟩
 | some i=>
  rw[hi]at h;obtain⟨j',e,h'⟩:=ai7 (acw hi).1 h hu;exact⟨j',h',fun i' hh=>by injection hh with hh;rw[<-hh];exact e⟩
theorem afd (hd:H.Dl){o:Int}(h0:H.One) (he:(H.resize o s).1.2=0) (hfr:∀i,H.find s=some i->i<H.blks.length/\(aal H.blks i).used=false) (hone:(H.take s).2.One)
 (hmv:∀i q,aa3 H.blks o=some i->(H.take s).1=some q->(∃iq,atB (q:Int) (H.take s).2.blks=some iq)/\∃io x0,atB o (H.take s).2.blks=some io/\aa3 (H.take s).2.blks o=some io/\(H.take s).2.blks[io]?=some x0/\x0.used=true/\x0.off≠q)
 (h:(H.resize o s).2.At j x d) (hu:x.used=true):∃j' x0,H.At j' x0 d/\x0.used=true/\((x0=x/\(x0.off:Int)≠o)\/((x0.off:Int)=o/\x.off=(H.resize o s).1.1)):=by
 unfold Hp.resize at h he ⊢;split at h
 · rename_i hn;rw[hn]at he
   cases he
 · rename_i i hi;rw[hi]at he;obtain⟨h1,h2,h3⟩:=acw hi;have hoth:∀j' x0,H.blks[j']?=some x0->j'≠i->(x0.off:Int)≠o:=fun j' x0 a e e'=>e (h0 j' i x0 _ a (aat h1) (by omega));have hat:∀x0,H.blks[i]?=some x0->(x0.off:Int)=o/\x0.used=true/\x0.off=(aal H.blks i).off:=fun x0 a=>by rw[<-aaX a];exact⟨h2,h3,rfl⟩
   split at h
   · rename_i hle;rw[if_pos hle];rcases ap6 hd h1 h hu with⟨x0,a,b⟩ | ⟨j',e,a⟩
     · obtain⟨c1,c2,c3⟩:=hat x0 a.1;exact⟨i,x0,a,c2, .inr ⟨c1,by rw[<-b,c3]⟩⟩
     · exact⟨j',x,a,hu, .inl ⟨rfl,hoth j' x a.1 e⟩⟩
   · rename_i hlt;dsimp only at he;rw[if_neg hlt]at he;split at h
     · rename_i hle;rw[if_neg hlt,if_pos hle];have hw:(H.widen i).Dl:=hd.widen;have hwi:i<(H.widen i).blks.length:=by
        cases hn:acG H.blks i with
        | true=>rw[(aen hn).1];exact(aiO (H.out (i+1)) (i:=i) (aeN hn)).1
        | false=>rw[(aeo hn h1).1];exact h1
       rcases ap6 hw hwi h hu with⟨x0,a,b⟩ | ⟨j',e,a⟩
       · obtain⟨j2,x2,c1,c2,c3,c4,_⟩:=aja a;obtain rfl:=c4 rfl;obtain⟨d1,d2,d3⟩:=hat x2 c1.1;exact⟨j2,x2,c1,d2, .inr ⟨d1,by rw[<-b,<-c2,d3]⟩⟩
       · obtain⟨j2,x2,c1,c2,c3,_,c5⟩:=aja a;obtain⟨e2,rfl⟩:=c5 e;exact⟨j2,x2,c1,hu, .inl ⟨rfl,hoth j2 x2 c1.1 e2⟩⟩
     · rename_i hlt2;rw[if_neg hlt2]at he;split at h
       · rename_i hg;rw[if_neg hlt,if_neg hlt2,if_pos hg];obtain⟨x0,a,b,c,c'⟩:=agV h;obtain⟨j2,x2,c1,c2,c3,c4,c5⟩:=aja a;by_cases e:j=i
         · obtain rfl:=c4 e;obtain⟨d1,d2,d3⟩:=hat x2 c1.1;exact⟨j2,x2,c1,d2, .inr ⟨d1,by rw[<-b,<-c2,d3]⟩⟩
         · obtain⟨e2,rfl⟩:=c5 e;obtain rfl:=c' e;exact⟨j2,x2,c1,hu, .inl ⟨rfl,hoth j2 x2 c1.1 e2⟩⟩
       · rename_i hg;rw[if_neg hg]at he;rw[if_neg hlt,if_neg hlt2,if_neg hg]
         cases hq:(H.take s).1 with
         | none=>
          rw[hq]at he
          cases he
         | some q=>
          rw[hq]at h;obtain⟨⟨iq,hiq⟩,io',x0,c1,cu,c2,c3,c4⟩:=hmv i q hi hq;obtain⟨j1,a,hj1⟩:=ar9 h hu;rw[ach]at hj1;have hj1:=hj1 io' cu;obtain⟨xq,e1,e2⟩:=abM c1;rw[c2]at e1;injection e1 with e1;subst e1;rcases ar8 a with⟨a,hne⟩ | ⟨a,io,xo,b1,b2,b3⟩
          · rcases ai8 hd hfr a hu with e | ⟨j2,b⟩
            · rw[hq]at e;injection e with e;obtain⟨y,f1,f2⟩:=abM hiq;exact absurd (hone j1 iq x y a.1 f1 (by omega)) (hne iq io' hiq c1)
            · exact⟨j2,x,b,hu, .inl ⟨rfl,fun e=>hj1 (hone j1 io' x x0 a.1 c2 (by omega))⟩⟩
          · rw[b1]at c1;injection c1 with c1;subst c1;rw[b2]at c2;injection c2 with c2;subst c2;have hat:(H.take s).2.At io xo d:=⟨b2,by
             have hdl:(H.take s).2.ds.length=(H.take s).2.blks.length:=hd.take;have:io<(H.take s).2.ds.length:=by rw[hdl];exact aau b2
             rw[b3,List.getD_eq_getElem?_getD,List.getElem?_eq_getElem this];rfl⟩
            rcases ai8 hd hfr hat c3 with e | ⟨j2,b⟩
            · rw[hq]at e;injection e with e;exact absurd e.symm c4
            · exact⟨j2,xo,b,c3, .inr ⟨e2,by show x.off=q;omega⟩⟩
end
def avZ (bs:List UInt8) (H:Hp):Prop:=∀j x d,H.At j x d->x.used=true->d.2.length+16=x.size/\∀k,k<d.2.length->bs[x.off+8+k]?=d.2[k]?
structure RtD (bs:List UInt8) (H:Hp):Prop where
 rt:Rt bs H
 dl:H.Dl
 ho:avZ bs H
section
variable {bs out:List UInt8} {H H':Hp} {s:Nat}
theorem Rt.sz (h:Rt bs H){x:Bk}(hx:x∈H.blks):184<=x.off/\32<=x.size/\x.size<=16384/\x.off+x.size<=bs.length:=by
 have:=(aak _ _ _ (aaj h.walk).2.1).2 x hx;have sz:=(aab _).1 this.2.2.1;omega
theorem Rt.apart (h:Rt bs H){x y:Bk}(hx:x∈H.blks) (hy:y∈H.blks) (hne:x.off≠y.off):x.off+x.size<=y.off\/y.off+y.size<=x.off:=by
 rcases aaO _ _ _ (aaj h.walk).2.1 x hx y hy with e | e | e
 · exact absurd (by rw[e]) hne
 · exact .inl e
 · exact .inr e
theorem RtD.keep (h:RtD bs H) (hh:Held H bs H' out){x:Bk}{d:Dt}{j:Nat}(ha:H.At j x d) (hu:x.used=true) (hx:x∈H'.blks):d.2.length+16=x.size/\∀k,k<d.2.length->out[x.off+8+k]?=d.2[k]?:=by
 obtain⟨h1,h2⟩:=h.ho j x d ha hu;have hm:=List.mem_of_getElem? ha.1;refine⟨h1,fun k hk=> ?_⟩;rw[hh x hm hu x hx hu rfl (x.off+8+k) (by omega) (by omega) (by omega)];exact h2 k hk
theorem RtD.freed (h:RtD bs H){i:Nat}(hi:i<H.blks.length) (h':Rt out (H.give i)) (hh:Held H bs (H.give i) out):RtD out (H.give i):=
 ⟨h',h.dl.give,fun j x d ha hu=>by
  obtain⟨j',_,hb⟩:=ai7 hi ha hu;exact h.keep hh hb hu (List.mem_of_getElem? ha.1)⟩
theorem ajb (b:List UInt8) (d:Nat) (cs:List UInt8) (hd:d+cs.length<=b.length) (q:Nat) (hq:q<d\/d+cs.length<=q):(lay b d cs)[q]?=b[q]?:=by
 unfold lay;rcases hq with h | h
 · rw[List.getElem?_append_left (by rw[List.length_take];omega),List.getElem?_take_of_lt h]
 · rw[List.getElem?_append_right (by rw[List.length_take];omega),List.length_take,List.getElem?_append_right (by omega),List.getElem?_drop];congr 1;omega
theorem RtD.fills (h':Rt out H') (hd:H'.Dl){i:Nat}{y:Bk}(hy:H'.blks[i]?=some y) (hyu:y.used=true) (V:Value){L:List UInt8}(hL:L.length+16=y.size){b2:List UInt8}(hag:ah5 out b2 y) (hb2:∀k,k<L.length->b2[y.off+8+k]?=L[k]?)
 (hoth:∀j x d,H'.At j x d->x.used=true->j≠i->d.2.length+16=x.size/\∀k,k<d.2.length->out[x.off+8+k]?=d.2[k]?):RtD b2 (H'.dset i (V,L)):=by
 have hym:=List.mem_of_getElem? hy;have hf:=h'.fill hym hyu hag;refine⟨⟨hf.walk,hf.all_,hf.chk,hf.len⟩,by show(H'.ds.set i _).length=_;rw[List.length_set];exact hd,fun j x d ha hu=> ?_⟩;obtain⟨a,b⟩:=ha;have a':H'.blks[j]?=some x:=a;have b:(H'.ds.set i (V,L))[j]?=some d:=b;by_cases e:j=i
 · subst e;obtain rfl:y=x:=Option.some.inj (hy.symm.trans a');have hl:j<H'.ds.length:=by have:=aau b;rwa [List.length_set]at this
   rw[List.getElem?_set_self hl]at b;injection b with b;subst b;exact⟨hL,hb2⟩
 · rw[List.getElem?_set_ne (fun e'=>e e'.symm)]at b;obtain⟨c1,c2⟩:=hoth j x d ⟨a',b⟩ hu e;refine⟨c1,fun k hk=> ?_⟩;rw[<-c2 k hk];have hxm:=List.mem_of_getElem? a';have hap:=h'.apart hxm hym (fun e'=>e (h'.one _ _ _ _ a' hy e'));exact hag.2 _ (by omega)
theorem anV (b:List UInt8) (x:Bk):ah5 b b x:=⟨rfl,fun _ _=>rfl⟩
theorem akm (H:Hp) (i:Nat):((H.wipe i).ds.getD i acc).2= []:=by
 show((H.ds.set i acc).getD i acc).2= [];rw[List.getD_eq_getElem?_getD,List.getElem?_set];split
 · split<;>rfl
 · rename_i e;exact absurd rfl e
theorem RtD.got (h:RtD bs H){o:Nat}(hs:aaG (s:Int)=true) (hq:(H.take s).1=some o) (h1:Rt out (H.take s).2) (hh:Held H bs (H.take s).2 out) (v:UInt8):
 ∃i y,atB (o:Int) (H.take s).2.blks=some i/\(H.take s).2.blks[i]?=some y/\y.off=o/\y.used=true/\s<=y.size/\y.off+y.size<=out.length/\RtD (lay out (o+8) (List.replicate (y.size-16) v)) (((H.take s).2.wipe i).fill i v):=by
 obtain⟨y,y1,y2,y3,y4,y5,y6⟩:=h.rt.what hs hq;obtain⟨i,hi⟩:=aeD y1;rw[y2]at hi;obtain⟨y',e1,e2⟩:=abM hi;obtain⟨k,hk⟩:=List.mem_iff_getElem?.1 y1;obtain rfl:i=k:=h1.one _ _ _ _ e1 hk (by omega);have hsz:=h1.sz y1;refine⟨i,y,hi,hk,y2,y3,y4,hsz.2.2.2,?_⟩;unfold Hp.fill;rw[akm];have eb:aal ((H.take s).2.wipe i).blks i=y:=aaX (show(H.take s).2.blks[i]?=some y from hk);rw[eb];have eL:acT [] (y.size-16) v=List.replicate (y.size-16) v:=by unfold acT;simp
 rw[eL];have hll:(List.replicate (y.size-16) v).length=y.size-16:=List.length_replicate;refine RtD.fills (H':=(H.take s).2.wipe i) (y:=y) ⟨h1.walk,h1.all_,h1.chk,h1.len⟩ ?_ hk y3 _ (by omega) (ad8 (x:=y) _ _ (by omega) (by omega) (by omega)) (fun k hk2=> ?_) (fun j x d ha hu hne=> ?_)
 · show((H.take s).2.ds.set i acc).length=_;rw[List.length_set];exact h.dl.take
 · rw[show y.off+8+k=o+8+k by omega];exact agU out (o+8) _ (by omega) k hk2
 · have ha:=ap4 ha hne;rcases ai8 h.dl (fun j hj=>by obtain⟨a,_,c⟩:=h.rt.found hs hj;exact⟨a,c⟩) ha hu with e | ⟨j',hb⟩
   · rw[hq]at e;injection e with e;exact absurd (h1.one _ _ _ _ ha.1 hk (by omega)) hne
   · exact h.keep hh hb hu (List.mem_of_getElem? ha.1)
theorem ad9{o:Int}(he:(H.resize o s).1.2=0):((H.resize o s).1.1:Int)=o\/(H.take s).1=some (H.resize o s).1.1:=by
 unfold Hp.resize at he ⊢;split
 · rename_i hn;rw[hn]at he;cases he
 · rename_i i hi;obtain⟨h1,h2,h3⟩:=acw hi;rw[hi]at he;dsimp only at he;split
   · exact .inl h2
   · rename_i a;rw[if_neg a]at he;split
     · exact .inl h2
     · rename_i b;rw[if_neg b]at he;split
       · exact .inl h2
       · rename_i c;rw[if_neg c]at he;split
         · rename_i d;rw[d]at he;cases he
         · rename_i d;exact .inr d
theorem Rt.movesU (h:Rt bs H) (hs:aaG (s:Int)=true){o:Int}(hT:(H.take s).2.One):∀i q,aa3 H.blks o=some i->(H.take s).1=some q->(∃iq,atB (q:Int) (H.take s).2.blks=some iq)/\∃io x0,atB o (H.take s).2.blks=some io/\aa3 (H.take s).2.blks o=some io/\(H.take s).2.blks[io]?=some x0/\x0.used=true/\x0.off≠q:=fun i q hu hq=>by
 obtain⟨iq,io,h1,h2⟩:=h.moves hs i q hu hq;obtain⟨i1,i2,i3⟩:=acw hu;have ht:aby 184 H.blks (Go.Proofs.YtncadccbepjekaaGreatDoor.lenB H.blks):=by rw[h.lenE];exact(aaj h.walk).2.1
 have hm:aal H.blks i∈H.blks:=List.mem_of_getElem? (aat i1);have hm2:=afc (s:=s) ht hs (fun j hj=>by obtain⟨a,_,c⟩:=h.found hs hj;exact⟨a,c⟩) hm i3;obtain⟨x,e1,e2⟩:=abM h2;obtain⟨k,hk⟩:=List.mem_iff_getElem?.1 hm2;obtain rfl:io=k:=hT _ _ _ _ e1 hk (by omega);obtain rfl:x=aal H.blks i:=Option.some.inj (e1.symm.trans hk);obtain⟨y,y1,y2,y3,y4,y5,y6⟩:=h.what hs hq;have sx:=(aab _).1 ((aak _ _ _ ht).2 _ hm).2.2.1;have ss:=(aab _).1 hs;refine⟨⟨iq,h1⟩,io,aal H.blks i,h2,?_,e1,i3,fun e=> ?_⟩
 · unfold aa3;rw[h2];dsimp only;rw[aaX e1,if_pos i3]
 · have:=y6 _ hm i3;omega
theorem RtD.resized (h:RtD bs H) (hok:H.Ok) (hT:(H.take s).2.One) (hs:aaG (s:Int)=true){o:Int}(he:(H.resize o s).1.2=0) (h1:Rt out (H.resize o s).2) (hh:Held H bs (H.resize o s).2 out) (hm:ai9 H bs o (H.resize o s).2 out (H.resize o s).1.1) (v:UInt8):
 ∃i y j x0 d,atB ((H.resize o s).1.1:Int) (H.resize o s).2.blks=some i/\(H.resize o s).2.blks[i]?=some y/\y.off=(H.resize o s).1.1/\y.used=true/\s<=y.size/\y.off+y.size<=out.length/\H.At j x0 d/\x0.used=true/\(x0.off:Int)=o/\d.2.length+16=x0.size/\
  (∀k,k<d.2.length->k+16<y.size->out[y.off+8+k]?=d.2[k]?)/\∀b2,ah5 out b2 y->(∀k,k<y.size-16->b2[y.off+8+k]?=(acT d.2 (y.size-16) v)[k]?)->RtD b2 ((H.resize o s).2.fill i v):=by
 obtain⟨y,y1,y3,y2,y4⟩:=h.rt.rezHas hok hs he;obtain⟨i,hi⟩:=aeD y1;rw[y2]at hi;obtain⟨y',e1,e2⟩:=abM hi;obtain⟨k,hk⟩:=List.mem_iff_getElem?.1 y1;obtain rfl:i=k:=h1.one _ _ _ _ e1 hk (by omega);have hsz:=h1.sz y1;have hdl:(H.resize o s).2.ds.length=(H.resize o s).2.blks.length:=h.dl.resize;have hil:i<(H.resize o s).2.ds.length:=by rw[hdl];exact aau hk
 have hfr:=fun j hj=>by obtain⟨a,_,c⟩:=h.rt.found (s:=s) (i:=j) hs hj;exact(⟨a,c⟩:j<H.blks.length/\(aal H.blks j).used=false)
 have hmv:=h.rt.movesU hs (o:=o) hT;obtain⟨j,x0,a,au,hx⟩:=afd h.dl h.rt.one he hfr hT hmv (j:=i) (x:=y) (d:=(H.resize o s).2.ds[i]) ⟨hk,List.getElem?_eq_getElem hil⟩ y3;have hx0:(x0.off:Int)=o:=by
  rcases hx with⟨e,hne⟩ | ⟨e,_⟩
  · exfalso;subst e;rcases ad9 he with e | e
    · omega
    · obtain⟨z,z1,z2,z3,z4,z5,z6⟩:=h.rt.what hs e;have hap:=z6 x0 (List.mem_of_getElem? a.1) au;have:=h.rt.sz (List.mem_of_getElem? a.1);have ss:=(aab _).1 hs;omega
  · exact e
 obtain⟨c1,c2⟩:=h.ho j x0 _ a au;have hpay:∀k,k<(H.resize o s).2.ds[i].2.length->k+16<y.size->out[y.off+8+k]?=(H.resize o s).2.ds[i].2[k]?:=fun k k1 k2=>by
  have:=hm x0 (List.mem_of_getElem? a.1) au hx0 y y1 y3 y2 (8+k) (by omega) (by omega) (by omega);rw[y2,show(H.resize o s).1.1+8+k=(H.resize o s).1.1+(8+k) by omega,this,show x0.off+(8+k)=x0.off+8+k by omega];exact c2 k k1
 refine⟨i,y,j,x0,(H.resize o s).2.ds[i],hi,hk,y2,y3,y4,hsz.2.2.2,a,au,hx0,c1,hpay,fun b2 hag hb2=> ?_⟩;unfold Hp.fill;have eb:aal (H.resize o s).2.blks i=y:=aaX hk;have ed:(H.resize o s).2.ds.getD i acc=(H.resize o s).2.ds[i]:=by rw[List.getD_eq_getElem?_getD,List.getElem?_eq_getElem hil];rfl
 rw[eb,ed];have hL:=adf (H.resize o s).2.ds[i].2 (y.size-16) v;refine RtD.fills h1 hdl hk y3 _ (by omega) hag (fun k hk2=>hb2 k (by omega)) (fun j2 x d ha hu hne=> ?_);obtain⟨j3,x3,a3,au3,hx3⟩:=afd h.dl h.rt.one he hfr hT hmv ha hu;rcases hx3 with⟨rfl,hne3⟩ | ⟨_,e3⟩
 · exact h.keep hh a3 au3 (List.mem_of_getElem? ha.1)
 · exact absurd (h1.one _ _ _ _ ha.1 hk (by omega)) hne
theorem RtD.wrote (h:RtD bs H){i:Nat}{x:Bk}{d:Dt}(ha:H.At i x d) (hu:x.used=true) (V:Value) (p:Nat) (b:List UInt8) (hp:p+b.length<=d.2.length):RtD (lay bs (x.off+8+p) b) (H.dset i (V,lay d.2 p b)):=by
 obtain⟨c1,c2⟩:=h.ho i x d ha hu;have hsz:=h.rt.sz (List.mem_of_getElem? ha.1);have hll:(lay d.2 p b).length=d.2.length:=by
  unfold lay;simp only[List.length_append,List.length_take,List.length_drop];omega
 refine RtD.fills h.rt h.dl ha.1 hu V (by omega) (ad8 (x:=x) _ _ (by omega) (by omega) (by omega)) (fun k hk=> ?_) (fun j z e hz hzu _=>h.ho j z e hz hzu);rw[hll]at hk;by_cases e:k<p\/p+b.length<=k
 · rw[ajb bs _ b (by omega) _ (by omega),ajb d.2 p b hp k e];exact c2 k hk
 · rw[show x.off+8+k=x.off+8+p+(k-p) by omega,agU bs _ b (by omega) (k-p) (by omega)];have:=agU d.2 p b (by omega) (k-p) (by omega);rw[show p+(k-p)=k by omega]at this;exact this.symm
end
def aez (cap:Nat):Hp:=⟨cap,[],[],fun _=> []⟩
theorem atS{z:List UInt8}(hz:List.replicate 184 (0:UInt8)=z) (cap:Nat) (hc:184<=cap):Rt z ⟨cap,[],[],fun _=> []⟩:=by
 have hl:z.length=184:=by rw[<-hz];exact List.length_replicate
 have hw0:∀p,p+8<=184->p%8=0->aaf z p=0:=fun p hp _=>by
  have:=ads [] 184 p hp;rw[List.append_nil,hz]at this;exact this
 have hwk:abI z=some []:=ac9 (by rw[hl];rfl) (fun x hx=>by cases hx);have hli:Lists z [] (fun _=> []):=afs (by omega) (by omega) ⟨fun x hx=>(by cases hx),fun x hx=>(by cases hx)⟩ hw0;refine⟨hwk,fun c hc=>hli.all hc (Nat.zero_le _),?_,by show z.length<=cap;omega⟩;have e:abb []=fun _=> []:=rfl;rw[afI hwk (by rw[e];exact hli) (by rw[hw0 0 (by omega) rfl];omega)];rfl
theorem asa{z:List UInt8}(hz:List.replicate 184 (0:UInt8)=z) (cap:Nat) (hc:184<=cap):RtD z (aez cap):=
 ⟨atS hz cap hc,rfl,fun j x d ha=>by have h:=ha.1;cases h⟩
theorem ajc:∀(l:List Bk) (o e:Nat),aby o l e->o+l.length*32<=e
 | [],o,e,h=>by simp[aby]at h;simp;omega
 | x::r,o,e,h=>by
  obtain⟨h1,h2,h3⟩:=h;have:=ajc r _ e h3;have q:=(aab _).1 h2;rw[List.length_cons];omega
theorem asb{l:List Bk}{e:Nat}(h:aby 184 l e) (he:e<=16384):l.length<=512:=by
 have:=ajc _ _ _ h;omega
def awt (bs:List UInt8) (l:List Bk):List Dt:=l.map fun x=>(.slice none 0 0,(bs.drop (x.off+8)).take (x.size-16))
theorem au5{bs:List UInt8}{cap:Nat}(hk:ace bs=true) (hl:bs.length<=cap):∃H:Hp,RtD bs H/\H.cap=cap:=by
 have hk':=hk;unfold ace at hk
 cases hw:abI bs with
 | none=>rw[hw]at hk;cases hk
 | some l=>
  rw[hw]at hk;simp only[Bool.and_eq_true]at hk;have ht:=(aaj hw).2.1;refine⟨⟨cap,l,awt bs l,fun c=>(afH bs c).getD []⟩,⟨⟨hw,fun c hc=> ?_,hk',hl⟩,List.length_map _,fun j x d ha _=> ?_⟩,rfl⟩
  · obtain⟨al,h1,_⟩:=aeW 22 0 _ hk.2.2 c (Nat.zero_le _) (by omega);show afH bs c=some ((afH bs c).getD []);rw[h1];rfl
  · obtain⟨h1,h2⟩:=ha;have h1:l[j]?=some x:=h1;have h2:(l.map fun x=>((.slice none 0 0,(bs.drop (x.off+8)).take (x.size-16)):Dt))[j]?=some d:=h2;rw[List.getElem?_map,h1]at h2;injection h2 with h2;subst h2;have hm:=(aak _ _ _ ht).2 x (List.mem_of_getElem? h1);have hq:=(aab _).1 hm.2.2.1;refine⟨?_,fun k hk=> ?_⟩
    · dsimp only;rw[List.length_take,List.length_drop];omega
    · dsimp only at hk ⊢;rw[List.length_take]at hk;rw[List.getElem?_take_of_lt (by omega),List.getElem?_drop]
def abu:List Bk->Nat × Nat × Nat
 | []=>(0,0,0)
 | x::r=>if x.used=true then ((abu r).1+1,(abu r).2.1,(abu r).2.2+(x.size-16)) else ((abu r).1,(abu r).2.1+1,(abu r).2.2)
structure St5 where
 used:Nat
 free:Nat
 bytes:Nat
 len:Nat
 cap:Nat
def St5.none:St5:=⟨0,0,0,0,0⟩
def Hp.stats (H:Hp):St5:=⟨(abu H.blks).1,(abu H.blks).2.1,(abu H.blks).2.2,lenB H.blks,H.cap⟩
structure Rp where
 code:Int
 hd:Nat
 n:Nat
 b:List UInt8
 st:St5
def Rp.err (k:Int):Rp:=⟨k,0,0,[],St5.none⟩
def Hp.heldC (H:Hp) (op:Int) (q n p:Nat) (b:List UInt8):Rp × Hp:=match H.handleB q with
 | none=>(Rp.err 4,H)
 | some i=>if op=5 then (⟨0,0,(H.ds.getD i acc).2.length,[],St5.none⟩,H)
  else if (H.ds.getD i acc).2.length<p+(if op=7 then b.length else n) then (Rp.err 2,H)
  else if op=6 then (⟨0,0,0,((H.ds.getD i acc).2.drop p).take n,St5.none⟩,H)
  else (Rp.err 0,H.dset i ((H.ds.getD i acc).1,lay (H.ds.getD i acc).2 p b))
def aow (r:(Nat × Int) × Hp):Rp × Hp:=(⟨r.1.2,r.1.1,0,[],St5.none⟩,r.2)
def Hp.doC (H:Hp) (op:Int) (q n m p:Nat) (b:List UInt8):Rp × Hp:=
 if op=1 then aow (H.get n 165)
 else if op=2 then aow (H.calloc n m)
 else if op=3 then match H.handleB q with
  | none=>(Rp.err 4,H)
  | some i=>(Rp.err 0,H.give i)
 else if op=4 then aow (H.realloc q n)
 else if op=5\/op=6\/op=7 then H.heldC op q n p b
 else if op=8 then (⟨0,0,0,[],H.stats⟩,H)
 else (Rp.err 1,H)
section
variable {H:Hp}
end
theorem acJ{bs:List UInt8}{x:Bk}(hs:aaG (x.size:Int)=true) (h:x.off+x.size<=bs.length) (i:Nat) (hi:(i<x.off\/x.off+8<=i)/\(i<x.off+x.size-8\/x.off+x.size<=i)):(aaY bs x)[i]?=bs[i]?:=by
 have hs:=(aab _).1 hs;have e:=aah bs x.off (aot x) (by omega);unfold aaY;rw[adU _ _ _ _ (by omega) (by omega),adU _ _ _ _ (by omega) (by omega)]
section
variable {bs:List UInt8} {P Q:List Bk} {L:Nat->List Nat}
theorem Lists.set (h:Lists bs P L){x:Bk}(x1:184<=x.off) (x2:x.off%16=8) (x3:x.off+x.size<=bs.length) (hs:aaG (x.size:Int)=true)
 (hQ:∀y∈Q,y=x\/(y∈P/\(y.off+y.size<=x.off\/x.off+x.size<=y.off)))
 (hL:∀c,c<22->∀o∈L c,∃y∈Q,y∈P/\y.off=o/\(y.off+y.size<=x.off\/x.off+x.size<=y.off)):Lists (aaY bs x) Q L:=by
 have hl:=aba hs x3;have hlen:=h.len;have sz:=(aab _).1 hs;refine⟨by omega,by rw[hl];exact h.small,⟨fun y hy=> ?_,fun y hy z hz=> ?_⟩,fun c hc=> ?_,fun c hc=> ?_,fun c hc o ho=> ?_,fun c hc=> ?_,h.nodup⟩
 · rcases hQ y hy with rfl | ⟨hy,hd⟩
   · exact aoR x1 x2 x3 hs
   · exact ajL hs x3 (h.st.at_ y hy) hd
 · rcases hQ y hy with rfl | ⟨hy,hd⟩
   · rcases hQ z hz with rfl | ⟨hz,hd⟩
     · exact .inl rfl
     · exact .inr hd.symm
   · rcases hQ z hz with rfl | ⟨hz,_⟩
     · exact .inr hd
     · exact h.st.apart y hy z hz
 · rw[aaU hs x3 _ (by omega)];exact h.head c hc
 · rw[aaU hs x3 _ (by omega)];exact h.bit c hc
 · obtain⟨y,hy,hyP,e,hd⟩:=hL c hc o ho;obtain⟨z,hz,ez,hu,hcl⟩:=h.mem c hc o ho;have:=h.st.uniq hyP hz (by omega);subst this;exact⟨y,hy,e,hu,hcl⟩
 · refine abW (L c) 0 0 (fun o ho=> ?_) (h.links c hc);obtain⟨y,hy,hyP,e,hd⟩:=hL c hc o ho;have hf:=h.st.facts hyP;exact⟨aaU hs x3 _ (by omega),aaU hs x3 _ (by omega)⟩
theorem agc (bs:List UInt8) (n i:Nat) (h:i<bs.length):(bs++List.replicate n (0:UInt8))[i]?=bs[i]?:=List.getElem?_append_left h
theorem ab9 (bs:List UInt8) (n p:Nat) (h:p+8<=bs.length):aaf (bs++List.replicate n 0) p=aaf bs p:=aaM _ _ _ fun i _ h2=>agc bs n i (by omega)
theorem Lists.more (h:Lists bs P L) (n:Nat) (hn:bs.length+n<=16384):Lists (bs++List.replicate n 0) P L:=by
 have hlen:=h.len;have hl:(bs++List.replicate n (0:UInt8)).length=bs.length+n:=by rw[List.length_append,List.length_replicate]
 refine⟨by omega,by omega,⟨fun y hy=> ?_,h.st.apart⟩,fun c hc=> ?_,fun c hc=> ?_,h.mem,fun c hc=> ?_,h.nodup⟩
 · obtain⟨_,g1,g2,g3,g4,g5,g6⟩:=aay (h.st.at_ y hy);have q:=(aab _).1 g4;refine ak8 g1 g2 (by omega) ?_ ?_
   · rw[ab9 _ _ _ (by omega)];exact g5
   · rw[ab9 _ _ _ (by omega),ab9 _ _ _ (by omega)];exact g6
 · rw[ab9 _ _ _ (by omega)];exact h.head c hc
 · rw[ab9 _ _ _ (by omega)];exact h.bit c hc
 · refine abW (L c) 0 0 (fun o ho=> ?_) (h.links c hc);obtain⟨_,y,hyP,e,_⟩:=h.member hc ho;have hf:=h.st.facts hyP;exact⟨ab9 _ _ _ (by omega),ab9 _ _ _ (by omega)⟩
end
theorem ah8{bs:List UInt8}{p:Nat}{c:Int}(h:aap bs p c=true):184<=p/\p+32<=bs.length:=by
 unfold aap at h
 cases hg:aa8 bs (p:Int)with
 | none=>rw[hg]at h;simp at h
 | some y=>
  obtain⟨r0,r1,_,r3,r4,_⟩:=aay hg;have q:=(aab _).1 r4;omega
theorem ah9{bs out:List UInt8}{o:Int}(hl:184<=bs.length) (h:aeB bs o=some out):aaf out 0/4194304=aaf bs 0/4194304:=by
 unfold aeB at h;by_cases hf:aa2 bs o<0
 · rw[if_pos hf]at h;cases h
 rw[if_neg hf]at h;have hb:aa2 bs o<22:=by
  unfold aa2;split
  · rename_i x _;have:=acE (x.size:Int);split<;>omega
  · omega
 obtain⟨c,hcc⟩:=nmE ((aa2 bs o).toNat);have hc22:c<22:=by omega
 rw[hcc]at h;dsimp only at h;obtain⟨n,hn⟩:=nmE (aaf bs (o.toNat+8));obtain⟨p,hp⟩:=nmE (aaf bs (o.toNat+16));rw[hn,hp]at h;split at h
 · cases h
 split at h
 · cases h
 rename_i hp2;split at h
 · cases h
 rename_i hn2;injection h with h;have hpm:p≠0->184<=p/\p+32<=bs.length:=fun e=>by
  cases hm:aap bs p (c:Int)with
  | true=>exact ah8 hm
  | false=>exact absurd ⟨e, .inl hm⟩ hp2
 have hnm:n≠0->184<=n/\n+32<=bs.length:=fun e=>by
  cases hm:aap bs n (c:Int)with
  | true=>exact ah8 hm
  | false=>exact absurd ⟨e, .inl hm⟩ hn2
 obtain⟨b1,hb1⟩:∃b1,(if p=0 then lyN bs (8+8*c) n else lyN bs (p+8) n)=b1:=⟨_,rfl⟩;have f1:b1.length=bs.length/\aaf b1 0=aaf bs 0:=by
  rw[<-hb1];by_cases e:p=0
  · rw[if_pos e];exact⟨aah _ _ _ (by omega),aaz _ _ _ _ (by omega) (by omega)⟩
  · have:=hpm e;rw[if_neg e];exact⟨aah _ _ _ (by omega),aaz _ _ _ _ (by omega) (by omega)⟩
 rw[hb1]at h;obtain⟨b2,hb2⟩:=nmE ((if n≠0 then lyN b1 (n+16) p else b1));have f2:b2.length=bs.length/\aaf b2 0=aaf bs 0:=by
  rw[<-hb2];by_cases e:n≠0
  · have:=hnm e;rw[if_pos e];exact⟨(aah _ _ _ (by omega)).trans f1.1,(aaz _ _ _ _ (by omega) (by omega)).trans f1.2⟩
  · rw[if_neg e];exact f1
 rw[hb2]at h;obtain⟨b3,hb3⟩:∃b3,(if p≠0/\(aaf bs (8+8*c):Int)=o then lyN b2 (8+8*c) n else b2)=b3:=⟨_,rfl⟩;have f3:b3.length=bs.length/\aaf b3 0=aaf bs 0:=by
  rw[<-hb3];by_cases e:p≠0/\(aaf bs (8+8*c):Int)=o
  · rw[if_pos e];exact⟨(aah _ _ _ (by omega)).trans f2.1,(aaz _ _ _ _ (by omega) (by omega)).trans f2.2⟩
  · rw[if_neg e];exact f2
 rw[hb3]at h;rw[<-h,ahN _ c hc22 (by omega),f3.2]
theorem amP:∀(l:List Bk) (o e:Nat),aby o l e->l.length*32+o<=e
 | [],o,e,h=>by have:o=e:=h;simp;omega
 | x::r,o,e,⟨_,b,c⟩=>by
  have q:=(aab _).1 b;have:=amP r _ e c;rw[List.length_cons];omega
theorem alI{l:List Bk}{o e:Nat}(ht:aby o l e) (c:Nat):(abb l c).Nodup:=by
 unfold abb;have h:=adX l o e ht;refine List.pairwise_map.2 (List.Pairwise.filter _ (List.pairwise_reverse.2 (h.imp fun h=>h.symm)))
theorem aep{bs:List UInt8}{c:Nat}:∀(k last p:Nat) (l:List Nat),aeR bs c k last p=some l->aoP bs last l 0/\l.headD 0=p
 | k,last,p,l,h=>by
  unfold aeR at h;by_cases hp:p=0
  · rw[if_pos hp]at h;injection h with h;subst h;exact⟨trivial,hp.symm⟩
  · rw[if_neg hp]at h
    cases k with
    | zero=>cases h
    | succ k=>
     dsimp only at h;split at h
     · rename_i hc
       cases hr:aeR bs c k p (aaf bs (p+8))with
       | none=>rw[hr]at h;cases h
       | some r=>
        rw[hr]at h;injection h with h;subst h;obtain⟨i1,i2⟩:=aep k _ _ r hr;exact⟨⟨hc.2,i2.symm,i1⟩,rfl⟩
     · cases h
structure Md (bs:List UInt8) (H:Hp):Prop where
 tl:aby 184 H.blks bs.length
 ls:Lists bs H.blks H.lists
 hi:aaf bs 0<4194304
 len:bs.length<=H.cap
theorem Rt.md{bs:List UInt8}{H:Hp}(h:Rt bs H) (hc:H.cap<=16384):Md bs H:=by
 obtain⟨w1,w2,w3⟩:=aaj h.walk;obtain⟨n1,_,_⟩:=h.nfree;have hl:=h.len;have hk:=h.chk;unfold ace at hk;rw[h.walk]at hk;simp only[Bool.and_eq_true]at hk;have h0:aaf bs 0<4194304:=by
  have e0:aos bs 0=aaf bs 0:=by unfold aos word?;rw[if_pos (by omega)];rfl
  rw[<-e0];exact of_decide_eq_true hk.1
 refine⟨w2,⟨w1,by omega,⟨w3,aaO _ _ _ w2⟩,fun c hc=> ?_,fun c hc=> ?_,fun c hc o ho=>abA ((n1 c hc).2 o ho),fun c hc=> ?_,fun c hc=>(n1 c hc).1⟩,h0,hl⟩
 · exact(aep _ _ _ _ (aiK (h.all_ c hc)).2).2.symm
 · obtain⟨b1,b2⟩:=aiK (h.all_ c hc);have e:=(aep _ _ _ _ b2).2;rw[b1,<-e]
   cases hL:H.lists c with
   | nil=>rfl
   | cons o r=>
    obtain⟨x,hx,ex,_⟩:=abA ((n1 c hc).2 o (by rw[hL];simp));have:=((aak _ _ _ w2).2 x hx).1;have:o≠0:=by omega
    simp[this]
 · exact(aep _ _ _ _ (aiK (h.all_ c hc)).2).1
theorem akn{bs:List UInt8}{l:List Bk}{L:Nat->List Nat}(h:Lists bs l L) (hl:∀c,c<22->(L c).length<=1024) (hn:∀c,c<22->(L c).length=(abb l c).length):∀(k c:Nat) (fr:Int),c+k=22->af1 bs l k c fr=(fr-afu l k c==0)
 | 0,c,fr,_=>by unfold af1 afu;simp
 | k+1,c,fr,hc=>by
  have ha:=h.all (c:=c) (by omega) (hl c (by omega));have hok:(L c).all (okO l (L c))=true:=by
   rw[List.all_eq_true];intro o ho;unfold okO acD;rw[Bool.and_eq_true];constructor
   · rw[List.any_eq_true];obtain⟨x,hx,e,hu,_⟩:=h.mem c (by omega) o ho;exact⟨x,hx,by simp[e,hu]⟩
   · rw[List.Nodup.count (h.nodup c (by omega)),if_pos ho];rfl
  unfold af1;rw[ha];dsimp only;rw[hok,Bool.true_and,akn h hl hn k (c+1) _ (by omega)];have e:fr-(afu l (k+1) c:Nat)=fr-((L c).length:Int)-(afu l k (c+1):Nat):=by
   have:afu l (k+1) c=(abb l c).length+afu l k (c+1):=rfl;have:=hn c (by omega);omega
  rw[e]
theorem Md.sub{bs:List UInt8}{H:Hp}(h:Md bs H){c:Nat}(hc:c<22):∀o∈H.lists c,o∈abb H.blks c:=fun o ho=>by
 obtain⟨x,hx,e,hu,hcl⟩:=h.ls.mem c hc o ho;rw[<-e];exact abe hx hu hcl
theorem Md.small{bs:List UInt8}{H:Hp}(h:Md bs H){c:Nat}(hc:c<22):(H.lists c).length<=1024:=by
 have h1:=aem (h.ls.nodup c hc) (h.sub hc);have h2:=ajP H.blks c;have h3:=amP _ _ _ h.tl;have h4:=h.ls.small;omega
theorem Md.rt{bs:List UInt8}{H:Hp}(h:Md bs H) (hF:∀c,c<22->∀o∈abb H.blks c,o∈H.lists c) (hn:aev H.blks=true):Rt bs H:=by
 have hw:abI bs=some H.blks:=ac9 h.tl h.ls.st.at_;have hlen:=h.ls.len;refine⟨hw,fun c hc=>h.ls.all hc (h.small hc),?_,h.len⟩;have e0:aos bs 0=aaf bs 0:=by unfold aos word?;rw[if_pos (by omega)];rfl
 have hnn:∀c,c<22->(H.lists c).length=(abb H.blks c).length:=fun c hc=>Nat.le_antisymm (aem (h.ls.nodup c hc) (h.sub hc)) (aem (alI h.tl c) (hF c hc));have hm:=(aak _ _ _ h.tl).2;unfold ace;rw[hw];dsimp only;rw[e0,decide_eq_true h.hi,hn,Bool.true_and,Bool.true_and,akn h.ls (fun c hc=>h.small hc) hnn 22 0 _ rfl,aiJ H.blks (fun x hx=>(hm x hx).2.2.1),Int.sub_self];rfl
def afW:Bool->List Bk->Bool
 | _,[]=>true
 | u,x::r=>(u || x.used)&&afW x.used r
def ako:Bool->List Bk->Bool
 | u,[]=>u
 | _,x::r=>ako x.used r
theorem abG:∀(a b:List Bk) (u:Bool),afW u (a++b)=(afW u a&&afW (ako u a) b)
 | [],b,u=>by simp[afW,ako]
 | x::r,b,u=>by simp only[List.cons_append,afW,ako];rw[abG r b x.used,Bool.and_assoc]
theorem agW:∀(a b:List Bk) (u:Bool),ako u (a++b)=ako (ako u a) b
 | [],_,_=>rfl
 | x::r,b,_=>agW r b x.used
theorem afe{l:List Bk}{j:Nat}{y:Bk}(h:l[j]?=some y):adI l j=y.used:=by unfold adI;rw[h]
theorem amQ:∀(l:List Bk) (u:Bool),afW u l=true ↔ (∀y,l[0]?=some y->u=true\/y.used=true)/\∀j,j+1<l.length->adI l (j+1)=true\/adI l j=true
 | [],u=>by simp[afW]
 | x::r,u=>by
  unfold afW;rw[Bool.and_eq_true,Bool.or_eq_true,amQ r x.used];constructor
  · rintro⟨h1,h2,h3⟩;refine⟨fun y hy=> ?_,fun j hj=> ?_⟩
    · injection hy with hy;subst hy;exact h1
    · rw[List.length_cons]at hj
      cases j with
      | zero=>
       obtain⟨y,hy⟩:∃y,r[0]?=some y:=⟨_,List.getElem?_eq_getElem (by omega)⟩;rw[afe (y:=y) (by simpa using hy),afe (y:=x) rfl];exact(h2 y hy).symm
      | succ j=>exact h3 j (by omega)
  · rintro⟨h1,h2⟩;refine⟨h1 x rfl,fun y hy=> ?_,fun j hj=> ?_⟩
    · have hl:=aau hy;have:=h2 0 (by rw[List.length_cons];omega);rw[afe (y:=y) (by simpa using hy),afe (y:=x) rfl]at this;exact this.symm
    · exact h2 (j+1) (by rw[List.length_cons];omega)
theorem abf (l:List Bk):aev l=afW true l:=by
 rw[Bool.eq_iff_iff,amQ];unfold aev;rw[List.all_eq_true];constructor
 · intro h;refine⟨fun _ _=> .inl rfl,fun j hj=> ?_⟩;have:=h (j+1) (List.mem_range.2 hj);unfold adJ at this;rw[Bool.or_eq_true,Bool.or_eq_true,Nat.add_sub_cancel]at this;rcases this with h1 | h1
   · simp at h1
   · exact h1
 · rintro⟨_,h⟩ j hj;have hj:=List.mem_range.1 hj;unfold adJ
   cases j with
   | zero=>rfl
   | succ j=>
    rw[Bool.or_eq_true,Bool.or_eq_true,Nat.add_sub_cancel];exact .inr (h j hj)
def tkL (L:Nat->List Nat) (y:Bk):Nat->List Nat:=ahn L (afU y) ((L (afU y)).filter fun o=>o !=y.off)
def ptL (L:Nat->List Nat) (y:Bk):Nat->List Nat:=ahn L (afU y) (y.off::L (afU y))
def tkO (L:Nat->List Nat):Option Bk->Nat->List Nat
 | none=>L
 | some y=>tkL L y
theorem aea (A:List Bk) (y:Bk) (B:List Bk):aal (A++y::B) A.length=y:=aaX (by rw[List.getElem?_append_right (Nat.le_refl _),Nat.sub_self];rfl)
theorem alJ (A:List Bk) (y z:Bk) (B:List Bk):aal (A++y::z::B) (A.length+1)=z:=aaX (by rw[List.getElem?_append_right (by omega),show A.length+1-A.length=1 by omega];rfl)
theorem aff{l:List Bk}{i:Nat}(hi:i<l.length):l=l.take i++aal l i::l.drop (i+1)/\(l.take i).length=i:=by
 refine⟨?_,by rw[List.length_take];omega⟩;have e:l.drop i=aal l i::l.drop (i+1):=by
  have h:=aat hi;rw[List.getElem?_eq_getElem hi]at h;injection h with h;rw[List.drop_eq_getElem_cons hi,h]
 rw[<-e,List.take_append_drop]
section
variable {H:Hp} {A B:List Bk} {y z:Bk} {i:Nat}
theorem agX (hb:H.blks=A++y::B) (u:Bool):(H.use A.length u).blks=A++{y with used:=u}::B:=by
 show H.blks.set A.length {aal H.blks A.length with used:=u}=_;rw[hb,aea,List.set_append_right _ _ (Nat.le_refl _),Nat.sub_self];rfl
theorem amR (hb:H.blks=A++y::B) (s:Nat):(H.size A.length s).blks=A++{y with size:=s}::B:=by
 show H.blks.set A.length {aal H.blks A.length with size:=s}=_;rw[hb,aea,List.set_append_right _ _ (Nat.le_refl _),Nat.sub_self];rfl
theorem ajd (hb:H.blks=A++y::z::B):(H.join A.length).blks=A++{y with size:=y.size+z.size}::B:=by
 rw[acr H (i:=A.length) (by rw[hb];simp),hb,aea,alJ,List.take_left,show A++y::z::B=(A++ [y,z])++B by simp,List.drop_left' (by simp)]
theorem agY (hb:H.blks=A++y::B):(H.out A.length).lists=tkL H.lists y:=by
 show ahn H.lists (afU (aal H.blks A.length)) _=_;rw[hb,aea];rfl
theorem as6 (hb:H.blks=A++y::B):(H.in_ A.length).lists=ptL H.lists y:=by
 show ahn H.lists (afU (aal H.blks A.length)) _=_;rw[hb,aea];rfl
end
theorem agZ (A:List Bk) (x:Bk) (B:List Bk):acG (A++x::B) A.length=match B with
 | []=>false
 | n::_=> !n.used:=by
 unfold acG
 cases B with
 | nil=>simp
 | cons n r=>
  rw[alJ];simp
theorem akp (A:List Bk) (p x:Bk) (B:List Bk):aiL (A++p::x::B) (A.length+1)= !p.used:=by
 unfold aiL;rw[Nat.add_sub_cancel,aea];simp
structure alK (A1:List Bk) (p:Option Bk) (n:Option Bk) (B1:List Bk):Prop where
 pf:∀y,p=some y->y.used=false
 nf:∀y,n=some y->y.used=false
 pu:p=none->∀y r,A1=r++ [y]->y.used=true
 nu:n=none->∀y r,B1=y::r->y.used=true
theorem alL (A B:List Bk):∃A1 p n B1,A=A1++p.toList/\B=n.toList++B1/\alK A1 p n B1:=by
 have h1:∃A1 p,A=A1++p.toList/\(∀y,p=some y->y.used=false)/\(p=none->∀y r,A1=r++ [y]->y.used=true):=by
  rcases List.eq_nil_or_concat A with e | ⟨r,y,e⟩
  · refine⟨[],none,e,fun y hy=>(by cases hy),fun _ y r h=> ?_⟩;have:=congrArg List.length h;simp at this
  · rw[List.concat_eq_append]at e
    cases hu:y.used with
    | false=>exact⟨r,some y,e,fun z hz=>(by injection hz with hz;rw[<-hz];exact hu),fun h=>(by cases h)⟩
    | true=>
     refine⟨A,none,by simp,fun y hy=>(by cases hy),fun _ z r2 h=> ?_⟩;rw[e]at h;have:=List.append_inj_right' h rfl;injection this with h1;rw[<-h1];exact hu
 have h2:∃n B1,B=n.toList++B1/\(∀y,n=some y->y.used=false)/\(n=none->∀y r,B1=y::r->y.used=true):=by
  cases B with
  | nil=>exact⟨none,[],rfl,fun y hy=>(by cases hy),fun _ y r h=>(by cases h)⟩
  | cons y r=>
   cases hu:y.used with
   | false=>exact⟨some y,r,rfl,fun z hz=>(by injection hz with hz;rw[<-hz];exact hu),fun h=>(by cases h)⟩
   | true=>exact⟨none,y::r,rfl,fun y hy=>(by cases hy),fun _ z r2 h=>(by injection h with h1 _;rw[<-h1];exact hu)⟩
 obtain⟨A1,p,e1,e2,e3⟩:=h1;obtain⟨n,B1,f1,f2,f3⟩:=h2;exact⟨A1,p,n,B1,e1,f1,e2,f2,e3,f3⟩
def aeb (p:Option Bk) (x:Bk) (n:Option Bk):Bk:=⟨(p.getD x).off,(p.map Bk.size).getD 0+x.size+(n.map Bk.size).getD 0,false⟩
theorem alM{H:Hp}{A1 B1:List Bk}{p n:Option Bk}{x:Bk}(hb:H.blks=(A1++p.toList)++x::(n.toList++B1)) (hN:alK A1 p n B1):
 (H.give (A1++p.toList).length).blks=A1++aeb p x n::B1/\(H.give (A1++p.toList).length).lists=ptL (tkO (tkO H.lists n) p) (aeb p x n):=by
 obtain⟨A,hA⟩:=nmE (A1++p.toList);rw[hA]at hb ⊢;obtain⟨H0,hH0⟩:=nmE ((H.use A.length false).wipe A.length);have b0:H0.blks=A++{x with used:=false}::(n.toList++B1):=by rw[<-hH0];exact agX hb false
 have l0:H0.lists=H.lists:=by rw[<-hH0];rfl
 have h1:(H0.giveB A.length).blks=A++⟨x.off,x.size+(n.map Bk.size).getD 0,false⟩::B1/\(H0.giveB A.length).lists=tkO H.lists n:=by
  unfold Hp.giveB;rw[b0,agZ]
  cases n with
  | none=>
   have e:(match (none:Option Bk).toList++B1 with
    | []=>false
    | n::_=> !n.used)=false:=by
    cases B1 with
    | nil=>rfl
    | cons y r=>
     show(!y.used)=false;rw[hN.nu rfl y r rfl];rfl
   rw[e,if_neg (by simp)];exact⟨b0,l0⟩
  | some m=>
   have hm:=hN.nf m rfl;show(if (!m.used)=true then _ else _:Hp).blks=_/\(if (!m.used)=true then _ else _:Hp).lists=_;rw[hm,if_pos (by rfl)];constructor
   · exact ajd (H:=H0.out (A.length+1)) (y:={x with used:=false}) (z:=m) b0
   · have b0':H0.blks=(A++ [{x with used:=false}])++m::B1:=by rw[b0];simp
     have:=agY b0';rw[List.length_append,List.length_singleton]at this;show(H0.out (A.length+1)).lists=_;rw[this,l0];rfl
 obtain⟨b1,l1⟩:=h1;have e:H.give A.length=(H0.giveB A.length).giveC A.length:=by rw[<-hH0];rfl
 rw[e];obtain⟨G,hG⟩:=nmE (H0.giveB A.length);rw[hG]at b1 l1 ⊢;unfold Hp.giveC
 cases p with
 | none=>
  have hA:A1=A:=by rw[<-hA];simp
  have hp:aiL G.blks A.length=false:=by
   rcases List.eq_nil_or_concat A with e | ⟨r,y,e⟩
   · rw[b1,e];rfl
   · rw[List.concat_eq_append]at e;have hu:=hN.pu rfl y r (by rw[hA];exact e);rw[b1,e,List.append_assoc,List.length_append];exact(akp r y _ B1).trans (by rw[hu];rfl)
  rw[hp,if_neg (by simp)];have hw:aeb none x n=⟨x.off,x.size+(n.map Bk.size).getD 0,false⟩:=by unfold aeb;simp
  rw[hw];refine⟨by rw[hA];exact b1,?_⟩;rw[as6 b1,l1];rfl
 | some q=>
  have hq:=hN.pf q rfl;have hA':A=A1++ [q]:=by rw[<-hA];rfl
  have b1':G.blks=A1++q::⟨x.off,x.size+(n.map Bk.size).getD 0,false⟩::B1:=by rw[b1,hA'];simp
  have hlen:A.length=A1.length+1:=by rw[hA'];simp
  rw[hlen,Nat.add_sub_cancel,b1',akp,hq,if_pos (by rfl)];have hw:aeb (some q) x n={q with size:=q.size+(x.size+(n.map Bk.size).getD 0)}:=by
   unfold aeb;show Bk.mk q.off (q.size+x.size+(n.map Bk.size).getD 0) false=Bk.mk q.off (q.size+(x.size+(n.map Bk.size).getD 0)) q.used;rw[hq,Nat.add_assoc]
  have b2:((G.out A1.length).join A1.length).blks=A1++aeb (some q) x n::B1:=by
   rw[hw];exact ajd (H:=G.out A1.length) b1'
  refine⟨b2,?_⟩;rw[as6 b2];show ptL (G.out A1.length).lists _=_;rw[agY b1',l1];rfl
def Pay (z:Bk) (i:Nat):Prop:=z.off+8<=i/\i+8<z.off+z.size
theorem Kept.pay{P:List Bk}{bs out:List UInt8}(h:Kept P bs out) (h1:∀y∈P,184<=y.off/\32<=y.size) (ha:∀x∈P,∀y∈P,x=y\/x.off+x.size<=y.off\/y.off+y.size<=x.off){z:Bk}(hz:z∈P) (hu:z.used=true){i:Nat}(hi:Pay z i):out[i]?=bs[i]?:=by
 have hz1:=h1 z hz;obtain⟨p1,p2⟩:=hi;refine h i (by omega) fun y hy hyu=> ?_;have hy1:=h1 y hy;rcases ha z hz y hy with rfl | hd | hd
 · rw[hu]at hyu;cases hyu
 · omega
 · omega
theorem adg{y:Bk}(h:aaG (y.size:Int)=true):aaq (y.size:Int)=(afU y:Int)/\afU y<22:=by
 obtain⟨c,h1,h2⟩:=abz h;unfold afU;rw[h1];exact⟨rfl,h2⟩
theorem alN{L:Nat->List Nat}{y:Bk}{c o:Nat}:o∈tkL L y c ↔ o∈L c/\(c=afU y->o≠y.off):=by
 unfold tkL ahn;by_cases h:c=afU y
 · subst h;rw[if_pos rfl,List.mem_filter];simp
 · rw[if_neg h];simp[h]
theorem adB{L:Nat->List Nat}{p:Option Bk}{c o:Nat}:o∈tkO L p c ↔ o∈L c/\∀y,p=some y->c=afU y->o≠y.off:=by
 cases p with
 | none=>simp[tkO]
 | some y=>simp[tkO,alN]
theorem atT{L:Nat->List Nat}{y:Bk}{c o:Nat}:o∈ptL L y c ↔ (c=afU y/\o=y.off)\/o∈L c:=by
 unfold ptL ahn;by_cases h:c=afU y
 · subst h;rw[if_pos rfl,List.mem_cons];simp
 · rw[if_neg h];simp[h]
theorem aaL (u:Bool) (x:Bk) (r:List Bk):afW u (x::r)=((u || x.used)&&afW x.used r):=rfl
def ap7 (bs:List UInt8):Option Bk->Option (List UInt8)
 | none=>some bs
 | some y=>aeB bs (y.off:Int)
section
variable {bs:List UInt8} {H:Hp}
theorem Md.congr{H':Hp}(h:Md bs H) (e1:H'.blks=H.blks) (e2:H'.lists=H.lists) (e3:H'.cap=H.cap):Md bs H':=⟨by rw[e1];exact h.tl,by rw[e1,e2];exact h.ls,h.hi,by rw[e3];exact h.len⟩
theorem Md.facts (h:Md bs H):∀y∈H.blks,184<=y.off/\32<=y.size:=fun y hy=>by
 have:=h.ls.st.facts hy;omega
theorem Md.takeO (h:Md bs H) (n:Option Bk) (hn:∀y,n=some y->y∈H.blks/\y.off∈H.lists (afU y)):∃out,ap7 bs n=some out/\Md out {H with lists:=tkO H.lists n}/\out.length=bs.length/\Kept H.blks bs out:=by
 cases n with
 | none=>exact⟨bs,rfl,h,rfl,Kept.refl _ _⟩
 | some y=>
  obtain⟨hy,hm⟩:=hn y rfl;have hf:=h.ls.st.facts hy;obtain⟨_,hc22⟩:=adg hf.2.2.2.2.2;obtain⟨out,h1,h2,h3,h4⟩:=h.ls.take hy hc22 hm;have e:(fun q:Nat=>decide (q≠y.off))=(fun o=>o !=y.off):=by funext q;simp[bne];rfl
  rw[e]at h2;have h5:=ah9 h.ls.len h1;have h6:=h.hi;exact⟨out,h1,⟨by rw[h3];exact h.tl,h2,by omega,by rw[h3];exact h.len⟩,h3,h4⟩
theorem Md.put (h:Md bs H){y:Bk}(hy:y∈H.blks) (hu:y.used=false) (hm:y.off∉H.lists (afU y)):∃out,ahH bs (y.off:Int)=some out/\Md out {H with lists:=ptL H.lists y}/\out.length=bs.length/\Kept H.blks bs out:=by
 have hf:=h.ls.st.facts hy;obtain⟨hc,hc22⟩:=adg hf.2.2.2.2.2;obtain⟨out,h1,h2,h3,h4⟩:=h.ls.put hy hu hc hc22 hm;have h5:=(agv h.ls.len h1).2;have h6:=h.hi;exact⟨out,h1,⟨by rw[h3];exact h.tl,h2,by omega,by rw[h3];exact h.len⟩,h3,h4⟩
def frO:Option Bk->Option Bk
 | none=>none
 | some y=>if y.used=true then none else some y
theorem asc (bs:List UInt8):aa8 bs (bs.length:Int)=none:=by
 cases h:aa8 bs (bs.length:Int)with
 | none=>rfl
 | some x=>
  obtain⟨h1,_,_,h2,h3,_⟩:=aay h;have:=(aab _).1 h3;omega
theorem anW (bs:List UInt8):abK bs 184=none:=by
 unfold abK;split
 · rfl
 · split
   · rfl
   · split
     · rfl
     · rename_i s u _ x hg;obtain⟨h1,h2,_,_,h3,_⟩:=aay hg;have:=(aab _).1 h3;rw[if_neg (by omega)]
theorem Md.behind (h:Md bs H){A1 B1:List Bk}{p n:Option Bk}{x:Bk}(hb:H.blks=(A1++p.toList)++x::(n.toList++B1)) (hN:alK A1 p n B1):frO (aa8 bs ((x.off:Int)+(x.size:Int)))=n:=by
 have ht:=h.tl;rw[hb,aaF]at ht;obtain⟨_,h1,_,h3⟩:=ht;have e:(x.off:Int)+(x.size:Int)=((184+abd (A1++p.toList)+x.size:Nat):Int):=by omega
 rw[e];obtain⟨q,hq⟩:=nmE (184+abd (A1++p.toList)+x.size);rw[hq]at h3 ⊢
 cases n with
 | some m=>
  obtain⟨a,_,_⟩:=h3;rw[<-a,h.ls.st.at_ m (by rw[hb];simp)];show(if m.used=true then none else some m)=some m;rw[hN.nf m rfl,if_neg (by simp)]
 | none=>
  cases B1 with
  | nil=>
   have e:q=bs.length:=h3;rw[e,asc];rfl
  | cons y r=>
   obtain⟨a,_,_⟩:=h3;rw[<-a,h.ls.st.at_ y (by rw[hb];simp)];show(if y.used=true then none else some y)=none;rw[hN.nu rfl y r rfl,if_pos rfl]
theorem Md.ends (h:Md bs H){A B:List Bk}(hb:H.blks=A++B){o:Nat}(ho:o=184+abd A):(A= []/\abK bs (o:Int)=none)\/∃r y,A=r++ [y]/\abK bs (o:Int)=some y:=by
 rcases List.eq_nil_or_concat A with e | ⟨r,y,e⟩
 · left;subst e;subst ho;exact⟨rfl,anW bs⟩
 · right;rw[List.concat_eq_append]at e;refine⟨r,y,e,?_⟩;have ht:=h.tl;rw[hb,e,List.append_assoc,aaF]at ht;obtain⟨_,h1,_,_⟩:=ht;have hy:=aoS (h.ls.st.at_ y (by rw[hb,e];simp));have e2:(o:Int)=(y.off:Int)+(y.size:Int):=by
    rw[ho,e,aeY];show((184+(abd r+(y.size+0)):Nat):Int)=_;omega
   rw[e2];exact hy
theorem Md.ahead (h:Md bs H){A1 B1:List Bk}{p n:Option Bk}{x:Bk}(hb:H.blks=(A1++p.toList)++x::(n.toList++B1)) (hN:alK A1 p n B1):frO (abK bs (x.off:Int))=p:=by
 have ht:=h.tl;rw[hb,aaF]at ht;obtain⟨_,h1,_,_⟩:=ht;rcases h.ends hb h1 with⟨e,e2⟩ | ⟨r,y,e,e2⟩
 · rw[e2]
   cases p with
   | none=>rfl
   | some q=>simp at e
 · rw[e2]
   cases p with
   | none=>
    show(if y.used=true then none else some y)=none;rw[hN.pu rfl y r (by simpa using e),if_pos rfl]
   | some q=>
    have h1:q=y:=by
     have:=congrArg List.getLast? e;simpa using this
    have hq:=hN.pf q rfl;rw[h1]at hq ⊢;unfold frO;dsimp only;rw[hq,if_neg (by simp)]
theorem Rt.gives (h:Rt bs H) (hc:H.cap<=16384){A1 B1:List Bk}{p n:Option Bk}{x:Bk}(hb:H.blks=(A1++p.toList)++x::(n.toList++B1)) (hN:alK A1 p n B1) (hu:x.used=true):
 ∃b1 b2 out,ap7 bs n=some b1/\ap7 b1 p=some b2/\aek b2 ((aeb p x n).off:Int) ((aeb p x n).size:Int) false=some (aaY b2 (aeb p x n))/\ahH (aaY b2 (aeb p x n)) ((aeb p x n).off:Int)=some out/\
  b1.length=bs.length/\b2.length=bs.length/\(aaY b2 (aeb p x n)).length=bs.length/\out.length=bs.length/\Rt out (H.give (A1++p.toList).length)/\∀z∈H.blks,z.used=true->z≠x->∀i,Pay z i->out[i]?=bs[i]?:=by
 obtain⟨gb,gl⟩:=alM hb hN;have gc:(H.give (A1++p.toList).length).cap=H.cap:=af2;obtain⟨w,hw⟩:=nmE (aeb p x n);have hwu:w.used=false:=by rw[<-hw];rfl
 rw[hw]at gb gl ⊢;have hM:=h.md hc;have hF:=h.complete;have hadj:afW true H.blks=true:=by rw[<-abf];exact h.nfree.2.1
 have hsm:=hM.ls.small;have ht:=hM.tl;rw[hb,aaF,aaF,aeY]at ht;obtain⟨⟨t1,t2⟩,t3,t4,t5⟩:=ht;obtain⟨o1,ho1⟩:=nmE (184+abd A1);obtain⟨e,he⟩:=nmE bs.length;rw[he]at t5;have hp:(p=none/\w.off=o1/\x.off=o1/\w.size=x.size+(n.map Bk.size).getD 0)\/∃q,p=some q/\q.off=o1/\aaG (q.size:Int)=true/\x.off=o1+q.size/\w.off=o1/\w.size=q.size+x.size+(n.map Bk.size).getD 0:=by
  cases p with
  | none=>
   left;have e1:x.off=o1:=by rw[t3,<-ho1];simp[abd]
   refine⟨rfl,?_,e1,?_⟩
   · rw[<-hw];exact e1
   · rw[<-hw];show 0+x.size+_=_;omega
  | some q=>
   right;obtain⟨a,b,_⟩:=t2;refine⟨q,rfl,by rw[a,ho1],b,?_,?_,?_⟩
   · rw[t3,<-ho1];simp[abd];omega
   · rw[<-hw];show q.off=_;rw[a,ho1]
   · rw[<-hw];rfl
 have hxo:184+(abd A1+abd p.toList)=x.off:=t3.symm;have t1':aby 184 A1 o1:=by rw[<-ho1];exact t1
 rw[hxo]at t5;rw[aaF]at t5;obtain⟨t6,t7⟩:=t5;have hn:(n=none/\(n.map Bk.size).getD 0=0/\abd n.toList=0)\/∃m,n=some m/\m.off=x.off+x.size/\aaG (m.size:Int)=true/\(n.map Bk.size).getD 0=m.size/\abd n.toList=m.size:=by
  cases n with
  | none=>exact .inl ⟨rfl,rfl,rfl⟩
  | some m=>
   obtain⟨a,b,_⟩:=t6;exact .inr ⟨m,rfl,a,b,rfl,by simp[abd]⟩
 obtain⟨mA1,mA⟩:=aak A1 _ _ t1';obtain⟨mB1,mB⟩:=aak B1 _ _ t7;have sx:=(aab _).1 t4;have hwe:w.off+w.size=x.off+x.size+abd n.toList/\w.off=o1/\o1<=x.off/\w.size%16=0/\32<=w.size:=by
  rcases hp with⟨_,p1,p2,p3⟩ | ⟨q,_,p1,p4,p2,p5,p3⟩
  · rcases hn with⟨_,n1,n2⟩ | ⟨m,_,n0,n3,n1,n2⟩
    · omega
    · have:=(aab _).1 n3;omega
  · have:=(aab _).1 p4;rcases hn with⟨_,n1,n2⟩ | ⟨m,_,n0,n3,n1,n2⟩
    · omega
    · have:=(aab _).1 n3;omega
 obtain⟨w1,w2,w3,w4,w5⟩:=hwe;have ho1e:o1%16=8/\184<=o1:=by
  refine⟨?_,by omega⟩;have hxm:=((aak _ _ _ hM.tl).2 x (by rw[hb];simp)).2.2.2;rcases hp with⟨_,p1,p2,p3⟩ | ⟨q,_,p1,p4,p2,p5,p3⟩
  · omega
  · have:=(aab _).1 p4;omega
 have hws:aaG (w.size:Int)=true:=(aab _).2 (by omega);have inA:∀y∈A1,y.off+y.size<=w.off:=fun y hy=>by have:=mA y hy;omega
 have inB:∀y∈B1,w.off+w.size<=y.off:=fun y hy=>by have:=mB y hy;omega
 have hn0:∀y,n=some y->y∈H.blks/\y.off∈H.lists (afU y):=fun y hy=>by
  have hm:y∈H.blks:=by rw[hb,hy];simp
  obtain⟨c1,c2⟩:=adg (hM.ls.st.facts hm).2.2.2.2.2;exact⟨hm,hF _ c2 _ (abe hm (hN.nf y hy) c1)⟩
 obtain⟨b1,e1,M1,l1,k1⟩:=hM.takeO n hn0;have hp0:∀y,p=some y->y∈H.blks/\y.off∈tkO H.lists n (afU y):=fun y hy=>by
  have hm:y∈H.blks:=by rw[hb,hy];simp
  obtain⟨c1,c2⟩:=adg (hM.ls.st.facts hm).2.2.2.2.2;refine⟨hm,adB.2 ⟨hF _ c2 _ (abe hm (hN.pf y hy) c1),fun z hz _=> ?_⟩⟩;rcases hp with⟨p0,_⟩ | ⟨q,p0,p1,p4,p2,_⟩
  · rw[p0]at hy;cases hy
  · rw[p0]at hy;injection hy with hy;subst hy;rcases hn with⟨n0,_⟩ | ⟨m,n0,n1,_⟩
    · rw[n0]at hz;cases hz
    · rw[n0]at hz;injection hz with hz;subst hz;omega
 obtain⟨b2,e2,M2,l2,k2⟩:=M1.takeO p hp0;have k2:Kept H.blks b1 b2:=k2;have M2L:Lists b2 H.blks (tkO (tkO H.lists n) p):=M2.ls;have hwl:w.off+w.size<=b2.length:=by
  rcases B1 with _ | ⟨y,r⟩
  · have:x.off+x.size+abd n.toList=e:=t7;omega
  · have:=mB1;omega
 have hL:∀c,c<22->∀o∈tkO (tkO H.lists n) p c,∃y∈A1++w::B1,y∈H.blks/\y.off=o/\(y.off+y.size<=w.off\/w.off+w.size<=y.off):=fun c hc o ho=>by
  rw[adB,adB]at ho;obtain⟨⟨ho,hno⟩,hpo⟩:=ho;obtain⟨y,hy,ey,hyu,hyc⟩:=hM.ls.mem c hc o ho;obtain⟨c1,_⟩:=adg (hM.ls.st.facts hy).2.2.2.2.2;have hcc:c=afU y:=by omega
  have hy':=hy;rw[hb]at hy;rcases List.mem_append.1 hy with hy | hy
  · rcases List.mem_append.1 hy with hy | hy
    · exact⟨y,by simp[hy],hy',ey, .inl (inA y hy)⟩
    · exact absurd ey.symm (hpo y (by simpa using hy) hcc)
  · rcases List.mem_cons.1 hy with rfl | hy
    · rw[hu]at hyu;cases hyu
    · rcases List.mem_append.1 hy with hy | hy
      · exact absurd ey.symm (hno y (by simpa using hy) hcc)
      · exact⟨y,by simp[hy],hy',ey, .inr (inB y hy)⟩
 have hQ:∀y∈A1++w::B1,y=w\/(y∈H.blks/\(y.off+y.size<=w.off\/w.off+w.size<=y.off)):=fun y hy=>by
  rcases List.mem_append.1 hy with hy | hy
  · exact .inr ⟨by rw[hb];simp[hy], .inl (inA y hy)⟩
  · rcases List.mem_cons.1 hy with rfl | hy
    · exact .inl rfl
    · exact .inr ⟨by rw[hb];simp[hy], .inr (inB y hy)⟩
 have w184:184<=w.off:=by omega
 have w16:w.off%16=8:=by omega
 have LS:=M2L.set w184 w16 hwl hws hQ hL;have l3:=aba hws hwl;have M3:Md (aaY b2 w) {H with blks:=A1++w::B1,lists:=tkO (tkO H.lists n) p}:=by
  refine⟨?_,LS,?_,by rw[l3,l2,l1];exact hM.len⟩
  · show aby 184 (A1++w::B1) _;rw[l3,l2,l1,aaF,ho1,he];refine⟨t1',w2,hws,?_⟩;rw[show o1+w.size=x.off+x.size+abd n.toList by omega];exact t7
  · rw[aaU hws hwl _ (by omega)];exact M2.hi
 have hwm:w.off∉tkO (tkO H.lists n) p (afU w):=fun hm=>by
  obtain⟨_,c2⟩:=adg hws;obtain⟨y,_,hyP,ey,hd⟩:=hL _ c2 _ hm;have:=hM.facts y hyP;omega
 obtain⟨out,e4,M4,l4,k4⟩:=M3.put (y:=w) (by simp) hwu hwm;refine⟨b1,b2,out,e1,e2,?_,e4,l1,by rw[l2,l1],by rw[l3,l2,l1],by rw[l4,l3,l2,l1],?_,fun z hz hzu hzx i hi=> ?_⟩
 · have:=aeL b2 w w184 w16 hwl hws;rw[hwu]at this;exact this
 ·
  refine Md.rt (M4.congr gb gl gc) (fun c hc o ho=> ?_) ?_
  · rw[gb]at ho;rw[gl,atT];obtain⟨y,hy,ey,hyu,hyc⟩:=abA ho;rcases hQ y hy with rfl | ⟨hyP,hd⟩
    · left;obtain⟨c1,_⟩:=adg hws;exact⟨by omega,ey.symm⟩
    · right;rw[adB,adB];refine⟨⟨by rw[<-ey];exact hF c hc _ (abe hyP hyu hyc),fun z hz _=> ?_⟩,fun z hz _=> ?_⟩
      · have hz0:z.off=x.off+x.size/\z.off+z.size<=w.off+w.size:=by
         rcases hn with⟨n0,_⟩ | ⟨m,n0,n1,_,_,n4⟩
         · rw[n0]at hz;cases hz
         · rw[n0]at hz;injection hz with hz;subst hz;omega
        have:=hM.facts y hyP;have:=hM.facts z (hn0 z hz).1;omega
      · have hz0:z.off=o1/\z.off+z.size<=w.off+w.size:=by
         rcases hp with⟨p0,_⟩ | ⟨q,p0,p1,p4,p2,_⟩
         · rw[p0]at hz;cases hz
         · rw[p0]at hz;injection hz with hz;subst hz;omega
        have:=hM.facts y hyP;have:=hM.facts z (hp0 z hz).1;omega
  · rw[gb,abf,abG];rw[hb,abG,abG,aaL]at hadj;rw[aaL];simp only[Bool.and_eq_true,Bool.or_eq_true]at hadj ⊢;obtain⟨⟨a1,a2⟩,_,a3⟩:=hadj;rw[hwu];refine⟨a1, .inl ?_,?_⟩
    · cases p with
      | none=>
       rcases List.eq_nil_or_concat A1 with e | ⟨r,y,e⟩
       · rw[e];rfl
       · rw[List.concat_eq_append]at e;rw[e,agW];exact hN.pu rfl y r e
      | some q=>
       have hq:=hN.pf q rfl;have a2:afW (ako true A1) [q]=true:=a2;rw[aaL,hq,Bool.or_false,Bool.and_eq_true]at a2;exact a2.1
    · rw[hu]at a3
      cases n with
      | none=>
       cases B1 with
       | nil=>rfl
       | cons y r=>
        have hy:=hN.nu rfl y r rfl;have a3:afW true (y::r)=true:=a3;rw[aaL,hy,Bool.and_eq_true]at a3;rw[aaL,hy,Bool.and_eq_true];exact⟨rfl,a3.2⟩
      | some m=>
       have hm:=hN.nf m rfl;have a3:afW true (m::B1)=true:=a3;rw[aaL,hm,Bool.and_eq_true]at a3;exact a3.2
 ·
  have hz2:z∈A1\/z∈B1:=by
   rw[hb]at hz;rcases List.mem_append.1 hz with hz | hz
   · rcases List.mem_append.1 hz with hz | hz
     · exact .inl hz
     · have:=hN.pf z (by simpa using hz);rw[hzu]at this;cases this
   · rcases List.mem_cons.1 hz with hz | hz
     · exact absurd hz hzx
     · rcases List.mem_append.1 hz with hz | hz
       · have:=hN.nf z (by simpa using hz);rw[hzu]at this;cases this
       · exact .inr hz
  have hzf:=hM.facts z hz;have ap:=hM.ls.st.apart;have zw:z.off+z.size<=w.off\/w.off+w.size<=z.off:=by
   rcases hz2 with h2 | h2
   · exact .inl (inA z h2)
   · exact .inr (inB z h2)
  have zQ:z∈A1++w::B1:=by rcases hz2 with h2 | h2<;>simp[h2]
  have s4:=k4.pay M3.facts M3.ls.st.apart (z:=z) zQ hzu hi;obtain⟨i1,i2⟩:=hi;have s3:=acJ hws hwl i (by omega);rw[s4,s3,k2.pay hM.facts ap hz hzu ⟨i1,i2⟩,k1.pay hM.facts ap hz hzu ⟨i1,i2⟩]
end
end Go.Proofs.YtncadccbepjekaaGreatDoor
