/- Texts of mine, joined. -/
import Derived.Test.YtncadccbepjekaaGreatDoorP18
import Derived.Test.YtncadccbepjekaaGreatDoorP23
import Derived.Test.YtncadccbepjekaaGreatDoorP24
set_option maxRecDepth 100000
set_option maxHeartbeats 4000000
namespace Go.Proofs.YtncadccbepjekaaGreatDoor
open Go.RowKit
theorem avF:awq:=by
 intro w g base cap c A bs k x h hb hl hk hx;have hk1:¬(k:Int)<0:=by omega
 have hk2:¬22<=(k:Int):=by omega
 by_cases h0:bs.length<184
 · obtain rfl:none=x:=by rw[<-hx];unfold afH;rw[if_pos h0]
   have HL:=hE0 (abO h);clear hx h;go_enter Tryz.func102,Tryz.ntmps102
   go_wp2_with fail
   with_reducible refine HL.out.mono ?_
   rintro e w1 ⟨rfl,rfl⟩;go_wp2
   go_ret2
   exact⟨none,0,rfl,World.ownsRow_nil _ _ _ _,Below.refl _ _⟩
 · obtain⟨f,hf⟩:=nmE (aaf bs (8+8*k));obtain⟨b,hbt⟩:=nmE (acC (aaf bs 0) k);have hfl:f<18446744073709551616:=by rw[<-hf];exact aan _ _
   have hx':(if b≠decide (f≠0) then none else aeR bs k 1024 0 f)=x:=by rw[<-hx];unfold afH;rw[if_neg h0,hf,hbt]
   have HL:=hE0 (abO h);have HFA:=hE0 (aaI w k hk);have HNF:=hE0 (aai h hb hl (8+8*(k:Int)) (8+8*k) (by omega) (by omega) f hf);have HBT:=hE0 (alJ h hb hl (by omega) k hk b hbt);have HAR:=hE0 h;have HBASE:=hE0 hb;obtain⟨d,hd⟩:=nmE (decide (f≠0));have hd2:((f:Int) !=0)=d:=by
    rw[<-hd,Bool.eq_iff_iff,bne_iff_ne,decide_eq_true_eq];omega
   rw[hd]at hx';clear hf hbt hx h hb;by_cases hbd:b=d
   · subst hbd;rw[if_neg (by simp)]at hx';obtain⟨i0,hi,hz0,hz1,hz2⟩:=info_parts atv;have HX:=hE0 hx';obtain⟨B0,hB0⟩:=nmE w.heap.size;have HB0:=hE0 hB0;have hbb:(b !=b)=false:=by simp
     clear hx' hB0 hd;go_enter Tryz.func102,Tryz.ntmps102
     go_wp2_with fail
     with_reducible refine HL.out.mono ?_
     rintro e w1 ⟨rfl,rfl⟩;go_wp2_with fail
     with_reducible refine HFA.out.mono ?_
     rintro e w1 ⟨rfl,rfl⟩;go_wp2_with fail
     with_reducible refine HNF.out.mono ?_
     rintro e w1 ⟨rfl,rfl⟩;go_wp2_with fail
     with_reducible refine HBT.out.mono ?_
     rintro e w1 ⟨rfl,rfl⟩;clear HL HFA HNF HBT;go_wp2
     clear hd2;go_loopw [6,7,8] (fun q o t wr=>∃(p last n:Nat) (l:List Nat),q= .int .u64 (p:Int)/\t= .int .u64 (last:Int)/\p<18446744073709551616/\last<18446744073709551616/\n+l.length=1024/\x=(aeR bs k n last p).map (l++ ·)/\wr.ownsRow B0 3 1 o l.length (l.map iV)/\Below B0 w wr) (fun _ o _ _=>match o with | .slice _ n _=>1024-n | _=>0)
     case atStart=>exact⟨f,0,1024,[],rfl,rfl,hfl,by omega,rfl,by rw[HX.out];simp,World.ownsRow_nil _ _ _ _,Below.refl _ _⟩
     case round=>
      obtain⟨p,last,n,l,rfl,rfl,hp,hlast,hn,hxl,hown,hbw⟩:=hrel;obtain⟨A7,c7,rfl⟩:=adZ hown;have hBw:B0<=wr.heap.size:=by have:=hbw.size;have:=HB0.out;omega
      by_cases hp0:p=0
      · subst hp0;obtain rfl:x=some l:=by rw[hxl];cases n<;>simp[aeR]
        have HB:=hE0 hbw;have HO:=hE0 hown;clear hxl hown hbw HX HAR HBASE;go_wp2
        go_ret2
        exact⟨A7,c7,rfl,by rw[HB0.out];exact HO.out,by rw[HB0.out];exact HB.out⟩
      · have hq0:((p:Int) !=0)=true:=by rw[bne_iff_ne];omega
        have har:=HAR.out.below (by rw[HB0.out];exact hbw);by_cases hn0:n=0
        · subst hn0;obtain rfl:x=none:=by rw[hxl];simp[aeR,hp0]
          have e1:((l.length:Int)==1024)=true:=by rw[beq_iff_eq];omega
          have HB:=hE0 hbw;clear hxl hown hbw HX HAR HBASE har;go_wp2
          go_ret2
          exact⟨none,0,rfl,World.ownsRow_nil _ _ _ _,by rw[HB0.out];exact HB.out⟩
        · obtain⟨n,rfl⟩:∃n',n=n'+1:=⟨n-1,by omega⟩;have e1:((l.length:Int)==1024)=false:=by rw[beq_eq_false_iff_ne];omega
          have hstep:x=(if aap bs p (k:Int)=true/\aaf bs (p+16)=last then (aeR bs k n p (aaf bs (p+8))).map (p:: ·) else none).map (l++ ·):=by
           rw[hxl];conv=>lhs;unfold aeR
           rw[if_neg hp0]
          cases hm:abr bs k p 16 last with
          | false=>
           rw[if_neg (by
            rintro⟨h1,h2⟩;unfold abr at hm;rw[h1,h2]at hm;simp at hm)]at hstep
           obtain rfl:x=none:=hstep;have HM:=hE0 (abG har HBASE.out hl k p 16 last hk hp (by omega) false hm);have HB:=hE0 hbw;clear hxl hown hbw HX HAR HBASE har hm;go_wp2_with fail
           refine HM.out.mono ?_;rintro e w2 ⟨rfl,hb2⟩;have HB2:=hE0 (HB.out.trans (hb2.mono hBw));clear hb2;go_wp2
           go_ret2
           exact⟨none,0,rfl,World.ownsRow_nil _ _ _ _,by rw[HB0.out];exact HB2.out⟩
          | true=>
           obtain⟨hm1,hm2⟩:aap bs p (k:Int)=true/\aaf bs (p+16)=last:=by
            unfold abr at hm;rw[Bool.and_eq_true,beq_iff_eq]at hm;exact hm
           have hpf:=aaO hm1;obtain⟨nx,hnx⟩:=nmE (aaf bs (p+8));have hnl:nx<18446744073709551616:=by rw[<-hnx];exact aan _ _
           rw[if_pos ⟨hm1,hm2⟩,hnx]at hstep;have hstep':x=(aeR bs k n p nx).map ((l++ [p])++ ·):=by
            rw[hstep,Option.map_map];congr 1;funext r;simp
           have hp16:p<=16384:=by omega
           have hww:w.heap.size<=wr.heap.size:=by have:=HB0.out;omega
           have HN:=hE0 (fun W (hB:Below w.heap.size w W)=>aai (HAR.out.below hB) HBASE.out hl ((p:Int)+8) (p+8) (by omega) (by omega) nx hnx);have HM:=hE0 (abG har HBASE.out hl k p 16 last hk hp (by omega) true hm);have HB:=hE0 hbw;have HS:=hE0 hstep';have HOWN:=hE0 hown;have HALT:Hid (∀k,(Value.slice A7 l.length c7).ownBlock=some k->B0<=k/\k<wr.heap.size):=hown.lt;clear hxl hstep hstep' hown hbw HX hm hm1 hm2 hnx har HAR HBASE;go_wp2_with fail
           refine HM.out.mono ?_;rintro e w2 ⟨rfl,hb2⟩;have H2:=hE0 hb2;have own4:=aaw (aaw HOWN.out hb2) ((Below.refl w2.heap.size w2).alloc (Nat.le_refl _) (.cells #[.int .i64 (p:Int)] 3));have n4:(w2.alloc (.cells #[.int .i64 (p:Int)] 3)).heap[w2.heap.size]?=some (.cells #[.int .i64 (p:Int)] 3 (0,0)):=heap_alloc_new w2 _;have HNEW:Hid (∀j u,[Value.int .i64 (p:Int)][j]?=some u->(w2.alloc (.cells #[.int .i64 (p:Int)] 3)).cell? ((⟨w2.heap.size,0,none⟩:Addr).add j)=some u):=fun j u hu=>by
            have e:(⟨w2.heap.size,0,none⟩:Addr).add j=⟨w2.heap.size,j,none⟩:=by unfold Addr.add;split<;>simp_all
            rw[e,cell_of_row _ _ j _ _ (0,0) n4];simpa using hu
           have HONE:Hid (∀u∈ [Value.int .i64 (p:Int)],u.oneCell'=true):=fun u hu=>by
            simp at hu;subst hu;rfl
           have hB4:B0<=(w2.alloc (.cells #[.int .i64 (p:Int)] 3)).heap.size:=by simp;have:=hb2.size;omega
           have HB4:Hid (Below w2.heap.size w2 (w2.alloc (.cells #[.int .i64 (p:Int)] 3))):=(Below.refl w2.heap.size w2).alloc (Nat.le_refl _) _;have OWN4:=hE0 own4;have hsz2:=hb2.size;clear own4 n4 hb2 HOWN HM;go_wp2_with (first
            | (at_builtin;go_must (refine wpList_append_own _ rfl _ _ 23 rfl B0 3 i0 _ 1 8 Tryz.underlying23 hi hz0 hz1 hz2 rfl (by decide) _ l.length (l.map iV) rfl OWN4.out ⟨w2.heap.size,0,none⟩ 1 1 [.int .i64 (p:Int)] rfl rfl HNEW.out HONE.out (by unfold maxLen;omega) (by omega) hB4 ?_);intro x5 w5 own5 gr5 at5
               have gr5':(w2.alloc (.cells #[.int .i64 (p:Int)] 3)).grownBy w5 (Value.slice A7 l.length c7).ownBlock:=gr5;have HB5:Hid (Below B0 wr w5):=((H2.out.mono hBw).trans (HB4.out.mono (by omega))).grown gr5' hB4 (fun k hk=>(HALT.out k hk).1);have HW5:Hid (Below w.heap.size w w5):=(show Below w.heap.size w w5 by rw[HB0.out];exact HB.out.trans HB5.out);have OWN5:Hid (w5.ownsRow B0 3 1 x5 (l.length+1) ((l++ [p]).map iV)):=(show World.ownsRow _ _ _ _ _ _ _ by rw[List.map_append];exact own5);clear own5 gr5 gr5' at5)
            | fail)
           refine(HN.out w5 HW5.out).mono ?_;rintro e w6 ⟨rfl,rfl⟩;have HBE:=hE0 (HB.out.trans HB5.out);clear HN H2 HB4 OWN4 HNEW HONE;go_wp2
           go_roundw
           case rel=>exact⟨nx,p,n,l++ [p],rfl,rfl,hnl,hp,by rw[List.length_append,List.length_singleton];omega,HS.out,by rw[List.length_append,List.length_singleton];exact OWN5.out,HBE.out⟩
           case measure=>
            obtain⟨A8,c8,rfl⟩:=adZ OWN5.out;simp;omega
   · rw[if_pos hbd]at hx';obtain rfl:none=x:=hx';have hcs:(b=true/\d=false)\/(b=false/\d=true):=by cases b<;>cases d<;>simp_all
     clear hd hbd HAR HBASE;rcases hcs with⟨rfl,rfl⟩ | ⟨rfl,rfl⟩;all_goals
      go_enter Tryz.func102,Tryz.ntmps102
      go_wp2_with fail
      with_reducible refine HL.out.mono ?_
      rintro e w1 ⟨rfl,rfl⟩;go_wp2_with fail
      with_reducible refine HFA.out.mono ?_
      rintro e w1 ⟨rfl,rfl⟩;go_wp2_with fail
      with_reducible refine HNF.out.mono ?_
      rintro e w1 ⟨rfl,rfl⟩;go_wp2_with fail
      with_reducible refine HBT.out.mono ?_
      rintro e w1 ⟨rfl,rfl⟩;clear HL HFA HNF HBT;go_wp2
      go_ret2
      exact⟨none,0,rfl,World.ownsRow_nil _ _ _ _,Below.refl _ _⟩
theorem avi{l:List Bk}{all:List Nat}{j o:Nat}(ho:all[j]?=some o) (h:(acD l o&& !(all.take j).contains o)=false):all.all (okO l all)=false:=by
 rw[List.all_eq_false];refine⟨o,List.mem_of_getElem? ho,?_⟩;unfold okO
 cases hf:acD l o
 · simp
 · rw[hf,Bool.true_and,Bool.not_eq_false',List.contains_iff_mem]at h;obtain⟨hj,e⟩:=List.getElem?_eq_some_iff.1 ho;have h1:0<(all.take j).count o:=List.count_pos_iff.2 h;have h2:0<(all.drop j).count o:=List.count_pos_iff.2 (by rw[List.drop_eq_getElem_cons hj,e];exact List.mem_cons_self);have h3:all.count o=(all.take j).count o+(all.drop j).count o:=by
    rw[<-List.count_append,List.take_append_drop]
   have:(all.count o==1)=false:=by rw[beq_eq_false_iff_ne];omega
   rw[this];simp
theorem auc{l:List Bk}{all:List Nat}(hn:all.Nodup) (h:∀o∈all,acD l o=true):all.all (okO l all)=true:=by
 rw[List.all_eq_true];intro o ho;unfold okO;have h1:0<all.count o:=List.count_pos_iff.2 ho;have h2:=List.nodup_iff_count.1 hn o;rw[h o ho,show all.count o=1 by omega];rfl
theorem ajf{all:List Nat}{j o:Nat}(ho:all[j]?=some o):all.take (j+1)=all.take j++ [o]:=by
 rw[List.take_add_one,ho];rfl
theorem aqm{all:List Nat}{j o:Nat}(ho:all[j]?=some o) (hn:(all.take j).Nodup) (h:(all.take j).contains o=false):(all.take (j+1)).Nodup:=by
 rw[ajf ho,List.nodup_append];refine⟨hn,by simp,fun a ha b hb e=> ?_⟩;obtain rfl:b=o:=by simpa using hb
 subst e;rw[List.contains_iff_mem.2 ha]at h
 cases h
theorem ajg{bs:List UInt8}{l:List Bk}(hg:∀x∈l,aa8 bs (x.off:Int)=some x){o k:Nat}(h:aap bs o (k:Int)=true):aca l o k=acD l o:=by
 unfold aca acD;rw[Bool.eq_iff_iff,List.any_eq_true,List.any_eq_true];unfold aap at h;refine exists_congr fun x=>and_congr_right fun hx=> ?_;have h1:=hg x hx;by_cases e:x.off=o
 · rw[<-e,h1]at h;dsimp only at h;rw[Bool.and_eq_true,Bool.and_eq_true]at h;rw[h.2.1,h.2.2];simp
 · have:(x.off==o)=false:=by rw[beq_eq_false_iff_ne];exact e
   rw[this];simp
theorem BkRd.later{w w':World}{B B':Nat}{A:Option Addr}{l:List Bk}(h:BkRd w B A l) (hb:Below B w w') (hB:B<=B'):BkRd w' B' A l:=fun h0=>by
 obtain⟨b,o,e,hbb,hc⟩:=h h0;refine⟨b,o,e,by omega,fun j x hx=> ?_⟩;obtain⟨p0,p1,p2⟩:=hc j x hx;exact⟨aa0 hb p0 hbb,aa0 hb p1 hbb,aa0 hb p2 hbb⟩
theorem aqn{S:Nat->Prop}{w w':World}(h:Tch S w w'){b j:Nat}{v:Value}(hc:w.cell? ⟨b,j,none⟩=some v) (hb:b<w.heap.size) (hn:¬S b):w'.cell? ⟨b,j,none⟩=some v:=
 (World.cell?_of_block (w:=w) (a:=⟨b,j,none⟩) (h.block b hb hn)).trans hc
def alV (f:Nat->Nat->Bool) (d:Nat) (m:List Nat):Nat->Nat->Bool:=fun o k=>f o k&& !(k==d&&m.contains o)
theorem an5 (w0 w:World) (g base cap c:Nat) (A:Option Addr) (bs:List UInt8) (h:Ar w0 195 g base cap A c bs) (hb:base<=4611686018427387904) (hl:bs.length<=16384) (hw:Below w0.heap.size w0 w)
 (B n z:Nat) (f:Nat->Nat->Bool) (hps:PSet w B n f z) (hB:w0.heap.size<=B) (l:List Bk) (hf:∀k:Nat,k<22->∀o,aap bs o (k:Int)=true->f o k=acD l o) (y:Bool) (hy:af1 bs l 22 0 (z:Int)=y):
 Calls Tryz.prog 115 #[.pointer (some ⟨g,0,none⟩), .map (some B)] w fun e w'=>e= .returned (.bool y)/\Below w0.heap.size w0 w':=by
 have HAR:=hE0 h;have HBASE:=hE0 hb;have HW:=hE0 hw;have HPS:=hE0 hps;have HF:=hE0 hf;have HY:=hE0 hy;clear h hb hw hps hf hy;go_enter Tryz.func115,Tryz.ntmps115
 go_wp2
 go_loopw [11] (fun t wr=>∃(d k z:Nat) (f:Nat->Nat->Bool),t= .int .i64 (d:Int)/\d+k=22/\y=af1 bs l k d (z:Int)/\PSet wr B n f z/\(∀k':Nat,d<=k'->k'<22->∀o,aap bs o (k':Int)=true->f o k'=acD l o)/\Below w0.heap.size w0 wr) (fun t _=>22-(intOf t).toNat)
 case atStart=>exact⟨0,22,z,f,rfl,rfl,HY.out.symm,HPS.out,fun k' _ h=>HF.out k' h,HW.out⟩
 case round=>
  clear HPS HF HY HW;obtain⟨d,k,z,f,rfl,hdk,hyk,hps,hfm,hbe⟩:=hrel;generalize wr=wq at*;by_cases hd22:d<22
  · obtain⟨k,rfl⟩:∃k',k=k'+1:=⟨k-1,by omega⟩;have har:Ar wq 195 g base cap A c bs:=HAR.out.below hbe;have hBq:=hps.lt
    cases ha:afH bs d with
    | none=>
     obtain rfl:y=false:=by rw[hyk];simp[af1,ha]
     have hA:=avF wq g base cap c A bs d _ har HBASE.out hl hd22 ha;dsimp only[ae6,Option.isSome,Option.getD,aav]at hA;have HA:=hE0 hA;have HB:=hE0 hbe;clear hA hbe hyk har ha HAR hps hfm;go_wp2_with fail
     with_reducible refine HA.out.mono ?_
     rintro e w2 ⟨A',c',rfl,_,hb3⟩;have HB2:=hE0 (HB.out.trans (hb3.mono (by omega)));clear hb3;go_wp2
     go_ret
     exact⟨rfl,HB2.out⟩
    | some all=>
     have hA:=avF wq g base cap c A bs d _ har HBASE.out hl hd22 ha;dsimp only[ae6,Option.isSome,Option.getD,aav]at hA;have hyk':y=(all.all (okO l all)&&af1 bs l k (d+1) ((z:Int)-all.length)):=by
      rw[hyk];conv=>lhs;unfold af1
      rw[ha]<;>rfl
     have hmem:∀o∈all,aap bs o (d:Int)=true/\o<=20000:=fun o ho=>⟨acM ha o ho,(aeE (acM ha o ho)).1⟩;have hal:=aru ha;have HA:=hE0 hA;have HB:=hE0 hbe;have HYK:=hE0 hyk';have HMEM:=hE0 hmem;have HPS:=hE0 hps;have HFM:=hE0 hfm;clear hA hbe hyk hyk' har ha hps hfm hmem;go_wp2_with fail
     with_reducible refine HA.out.mono ?_
     rintro e w2 ⟨A2,c2,rfl,ho2,hb3⟩;have HO2:=hE0 ho2;have HB2:=hE0 (HB.out.trans (hb3.mono (by omega)));have HPS2:=hE0 (HPS.out.below hb3 hBq);have hs2:=hb3.size;clear hb3 ho2 HA HB HPS;go_wp2
     go_loopw [24] (fun t wi=>∃j z':Nat,t= .int .i64 (j:Int)/\j<=all.length/\z'+j=z/\(all.take j).Nodup/\(∀o∈all.take j,acD l o=true)/\PSet wi B n (alV f d (all.take j)) z'/\Tch (fun q=>q=B) w2 wi) (fun t _=>all.length-(intOf t).toNat)
     case atStart=>exact⟨0,z,rfl,Nat.zero_le _,by omega,by simp,by simp,HPS2.out.same (fun o k _ _=>by simp[alV]),Tch.refl _ _⟩
     case round=>
      clear HPS2;obtain⟨j,z',rfl,hj,hz,hnd,hfd,hps,htc⟩:=hrel;by_cases hlt:j<all.length
      · obtain⟨o,ho⟩:∃o,all[j]?=some o:=⟨all[j],List.getElem?_eq_getElem hlt⟩;obtain⟨hmo,ho2⟩:=HMEM.out o (List.mem_of_getElem? ho);obtain⟨b2,o2,rfl,hbb,hcl⟩:=arP HO2.out rfl (by simp[auH];omega);have hbB:wq.heap.size<=b2:=(HO2.out.lt b2 rfl).1;have p0:=hcl j (o:Int) (by simp[auH,ho]);have r0:=aqn htc p0 hbb (by omega);have hff:=HFM.out d (Nat.le_refl _) hd22 o hmo;obtain⟨bb,hbbv⟩:=nmE ((acD l o&& !(all.take j).contains o));have hlook:alV f d (all.take j) o d=bb:=by
         unfold alV;rw[hff,<-hbbv];simp
        have hBi:=hps.lt;obtain⟨w4,hw4⟩:=nmE (wr.alloc (.cells #[.int .i64 (o:Int), .int .i64 (d:Int)] 251));have hb4:=abE hw4;have n4:=anE hw4;have d0:=cell_of_row w4 wr.heap.size 0 _ _ (0,0) n4;have d1:=cell_of_row w4 wr.heap.size 1 _ _ (0,0) n4;simp only[List.getElem?_toArray,List.getElem?_cons_zero,List.getElem?_cons_succ]at d0 d1;have HW4:=hE0 hw4;have HP4:=hE0 (hps.below hb4 hBi);have HT4:=hE0 (htc.trans (S':=fun q=>q=B) (Tch.of_below hb4) (fun _ _ h=>h));have HLK:=hE0 hlook;have HBBV:=hE0 hbbv;have HND:=hE0 hnd;have HFD:=hE0 hfd;have HO:=hE0 ho;clear ho hmo hcl p0 hff hlook hbbv hps htc hb4 n4 hw4 hnd hfd HAR HO2 HMEM HFM
        cases bb with
        | false=>
         obtain rfl:y=false:=by rw[HYK.out,avi HO.out HBBV.out];rfl
         have HE:=hE0 (HB2.out.trans (HT4.out.below (B:=w0.heap.size) (fun q hq=>by omega) (by omega)));clear HB2 HT4 HYK;go_wp2_with (first | (rw[HW4.out]) | (at_lookup;refine ahR rfl _ _ rfl rfl HP4.out o d (by omega) (by omega) rfl false HLK.out ?_) | fail)
         go_ret
         exact⟨rfl,HE.out⟩
        | true=>
         go_wp2_with (first | (rw[HW4.out]) | (at_lookup;refine ahR rfl _ _ rfl rfl HP4.out o d (by omega) (by omega) rfl true HLK.out ?_) | (at_delete;refine apa rfl _ _ rfl rfl HP4.out o d (by omega) (by omega) rfl HLK.out ?_;intro w5 z5 hz5 hp5 ht5;have HP5:=hE0 hp5;have HT5:=hE0 (HT4.out.trans ht5 (fun _ _ h=>h));have HZ5:=hE0 hz5;clear hp5 ht5 hz5) | fail)
         go_roundw
         case rel=>
          have hno:(all.take j).contains o=false:=by
           have:=HBBV.out;rw[Bool.and_eq_true,Bool.not_eq_true']at this;exact this.2
          have hyes:acD l o=true:=by
           have:=HBBV.out;rw[Bool.and_eq_true]at this;exact this.1
          refine⟨j+1,z5,by go_num,by omega,by have:=HZ5.out;omega,aqm HO.out HND.out hno,fun q hq=> ?_,?_,HT5.out⟩
          · rw[ajf HO.out,List.mem_append]at hq;rcases hq with hq | hq
            · exact HFD.out q hq
            · obtain rfl:q=o:=by simpa using hq
              exact hyes
          · refine HP5.out.same fun q k' _ _=> ?_;unfold alV;rw[ajf HO.out,Bool.and_assoc];congr 1;rw[Bool.eq_iff_iff];simp;by_cases e1:k'=d<;>by_cases e2:q=o<;>simp[e1,e2]
         case measure=>simp only[intOf];omega
      · have ejl:j=all.length:=by omega
        have et:all.take j=all:=List.take_of_length_le (by omega);rw[et]at hnd hfd hps;have hyn:y=af1 bs l k (d+1) (z':Int):=by
         rw[HYK.out,auc hnd hfd,Bool.true_and];congr 1;omega
        have HYN:=hE0 hyn;have HP:=hE0 hps;have HE:=hE0 (HB2.out.trans (htc.below (B:=w0.heap.size) (fun q hq=>by omega) (by omega)));clear hyn hps htc hnd hfd et ejl HYK HB2 HO2;go_wp2
        go_roundw
        case rel=>
         refine⟨d+1,k,z',alV f d all,by go_num,by omega,HYN.out,HP.out,fun k' h1 h2 q hq=> ?_,HE.out⟩;have:(k'==d)=false:=by rw[beq_eq_false_iff_ne];omega
         unfold alV;rw[this,Bool.false_and,Bool.not_false,Bool.and_true];exact HFM.out k' (by omega) h2 q hq
        case measure=>simp only[intOf];omega
  · obtain⟨rfl,rfl⟩:d=22/\k=0:=by omega
    have hyz:y=((z:Int)==0):=hyk;have HYZ:=hE0 hyz;have HPS:=hE0 hps;have HB:=hE0 hbe;clear hyz hyk hps hbe hfm HAR;go_wp2_with (first | (at_len;refine apb rfl _ rfl rfl HPS.out ?_) | fail)
    go_ret
    exact⟨asZ HYZ.out.symm,HB.out⟩
theorem as8:ava:=by
 intro w g base cap c A bs x h hb hl hx
 cases hw:abI bs with
 | none=>
  obtain rfl:false=x:=by rw[<-hx];unfold ace;rw[hw]
  have hW:=alN w g base cap c A bs _ h hb hl hw;dsimp only[acZ,Option.isSome,Option.getD,aav]at hW;dsimp only[aav];have HW:=hE0 hW;clear hW hw hx h hb;go_enter Tryz.func55,Tryz.ntmps55
  go_wp2_with fail
  with_reducible refine HW.out.mono ?_
  rintro e w2 ⟨A',c',rfl,_,hb2⟩;have HB2:=hE0 hb2;clear hb2;go_wp2
  go_ret
  exact⟨rfl,HB2.out⟩
 | some l=>
  obtain⟨h184,ht,hg⟩:=aaj hw;have hm:=aak l _ _ ht;obtain⟨y1,hy1⟩:∃y,aev l=y:=⟨_,rfl⟩;obtain⟨y2,hy2⟩:∃y,decide (aaf bs 0<4194304)=y:=⟨_,rfl⟩;obtain⟨y3,hy3⟩:∃y,af1 bs l 22 0 (abl l)=y:=⟨_,rfl⟩;have e0:aos bs 0=aaf bs 0:=by unfold aos word?;rw[if_pos (by omega)];rfl
  have hx':(y2&&(y1&&y3))=x:=by
   rw[<-hx];unfold ace;rw[hw];dsimp only;rw[e0,hy1,hy2,hy3]
  have hll:=ajL hw;have hW:=alN w g base cap c A bs _ h hb hl hw;dsimp only[acZ,Option.isSome,Option.getD,aav]at hW;have HW:=hE0 hW;have HAR:=hE0 h;have HBASE:=hE0 hb;have HG:Hid (∀x∈l,aaG (x.size:Int)=true/\x.off<=100000):=fun x hx=>⟨(hm.2 x hx).2.2.1,by have:=(hm.2 x hx).2.1;omega⟩;have HPM:Hid (∀k:Nat,k<22->∀o,aap bs o (k:Int)=true->aca l o k=acD l o):=fun k _ o ho=>ajg hg ho;have HR:=hE0 (ah8 l _ _ ht);have HY1:=hE0 hy1;have HY2:=hE0 hy2;have HY3:=hE0 hy3;clear hW hw hx h hb ht hg hm hy1 hy2 hy3 e0;go_enter Tryz.func55,Tryz.ntmps55
  go_wp2_with fail
  with_reducible refine HW.out.mono ?_
  rintro e w2 ⟨A2,c2,rfl,ho2,hb2⟩;have hcl:l.length<=c2/\c2<=9223372036854775807:=by
   rcases ho2.2 with⟨h',h0⟩ | ⟨_,_,_,h',_,_,h1,h2,_⟩
   · injection h' with _ _ e;rw[h0,e];omega
   · injection h' with _ _ e;unfold maxLen at h2;omega
  have hr2:=BkRd.of_own ho2;have HR2:=hE0 hr2;have HB2:=hE0 hb2;have HADJ:=hE0 (arW w2 A2 c2 l hr2 hcl y1 HY1.out);have hs2:=hb2.size;clear ho2 hr2 hb2 HW;go_wp2_with fail
  with_reducible refine HADJ.out.mono ?_
  rintro e w3 ⟨rfl,hb3⟩;have hr3:=HR2.out.later hb3 hb3.size;have HB3:=hE0 (HB2.out.trans (hb3.mono hs2));have hs3:=hb3.size;clear hb3 HR2 HB2 HADJ
  cases y1 with
  | false=>
   obtain rfl:false=x:=by rw[<-hx'];simp
   clear HAR HG HPM hr3 hx';dsimp only[aav];go_wp2
   go_ret
   exact⟨rfl,HB3.out⟩
  | true=>
   have HBT:=hE0 (apH (HAR.out.below HB3.out) HBASE.out hl h184 y2 HY2.out);have HPL:=hE0 (alC w3 A2 c2 l hr3 (by omega) HR.out HG.out);clear hr3;go_wp2_with fail
   with_reducible refine HBT.out.mono ?_
   rintro e w4 ⟨rfl,rfl⟩
   cases y2 with
   | false=>
    obtain rfl:false=x:=by rw[<-hx'];simp
    clear HAR HG HPM hx' HBT HPL;dsimp only[aav];go_wp2
    go_ret
    exact⟨rfl,HB3.out⟩
   | true=>
    obtain rfl:y3=x:=by rw[<-hx'];simp
    go_wp2_with fail
    with_reducible refine HPL.out.mono ?_
    rintro e w4 ⟨rfl,hps4,hb4⟩;have HLS:=hE0 (an5 w w4 g base cap c A bs HAR.out HBASE.out hl (HB3.out.trans (hb4.mono (by omega))) w3.heap.size l.length (abl l) (aca l) hps4 (by omega) l HPM.out y3 HY3.out);clear HAR HG HPM hx' HBT HPL hps4 hb4;go_wp2_with fail
    with_reducible refine HLS.out.mono ?_
    rintro e w5 ⟨rfl,hb5⟩;have HB5:=hE0 hb5;clear hb5 HLS
    cases y3 with
    | false=>
     dsimp only[aav];go_wp2
     go_ret
     exact⟨rfl,HB5.out⟩
    | true=>
     dsimp only[aav];go_wp2
     go_ret
     exact⟨rfl,HB5.out⟩
theorem aud (w:World) (g base cap c:Nat) (A:Option Addr) (bs:List UInt8) (l:List Bk) (har:Ar w 195 g base cap A c bs) (hbase:base<=4611686018427387904) (hl:bs.length<=16384) (hck:ace bs=true) (hwk:abI bs=some l):
 Calls Tryz.prog 58 #[.pointer (some ⟨g,0,none⟩)] w fun e w'=>∃A1 A2 c1 c2,e= .returned (.tuple #[.agg #[.int .i64 (bs.length:Int), .slice A1 l.length c1, .slice A2 (ofD bs l).length c2], .nilIface])/\RkRd w' w'.heap.size A1 (l.map toR)/\DtRd w' w'.heap.size A2 (ofD bs l)/\Below w.heap.size w w':=by
 obtain⟨hin,hll32,hmem⟩:=arX hwk hl;obtain⟨F,hF⟩:=nmE (ofD bs l);rw[hF];obtain⟨w1,hw1⟩:=nmE (w.alloc (.cells #[.int .i64 0, .slice none 0 0, .slice none 0 0] 107));have hb1:=abE hw1;have n1:=anE hw1;have HAR1:=hE0 (har.below hb1);have HC:=hE0 (as8 w1 g base cap c A bs true HAR1.out hbase hl hck);dsimp only[aav]at HC;have HWK:=hE0 (fun W (h:Ar W 195 g base cap A c bs)=>alN W g base cap c A bs (some l) h hbase hl hwk);have HW1:=hE0 hw1;have HB1:=hE0 hb1;have HN1:=hE0 n1;have HMEM:=hE0 hmem;have HIN:=hE0 hin;have HFF:=hE0 hF;obtain⟨n,hn⟩:=nmE bs.length;rw[hn]at hl hll32;rw[hn];have HNN:=hE0 hn;obtain⟨m,hm⟩:=nmE l.length;rw[hm]at hll32 ⊢;have HMM:=hE0 hm;have HLL:Hid ((l.map toR).length=m):=(show _=_ by rw[List.length_map];exact hm);clear har hck hw1 hb1 n1 hwk hmem hin hF hn hm;go_enter Tryz.func58,Tryz.ntmps58
 go_wp2_with (first | (rw[HW1.out]) | fail)
 refine HC.out.mono ?_;rintro e w2 ⟨rfl,hb2⟩;have har2:=HAR1.out.below hb2;have hlen:=abO har2;rw[HNN.out]at hlen;have HLEN:=hE0 hlen;have HAR2:=hE0 har2;have HN2:=hE0 ((hb2.block _ (aaa HN1.out)).trans HN1.out);have HB2:=hE0 (HB1.out.trans (hb2.mono HB1.out.size));obtain⟨w3,hw3⟩:=nmE (w2.alloc (.cells #[.int .i64 (n:Int), .slice none 0 0, .slice none 0 0] 107));have hb3:=abE hw3;have n3:=anE hw3;have hwk3:=HWK.out w3 (har2.below hb3);unfold acZ at hwk3;dsimp only[aav,Option.isSome,Option.getD]at hwk3;have HWK3:=hE0 hwk3;have HW3:=hE0 hw3;have HB3:=hE0 hb3;have HN3:=hE0 n3;clear hb2 har2 hlen hw3 hb3 n3 hwk3 HWK HC HAR1;go_wp2_with fail
 refine HLEN.out.mono ?_;rintro e wq ⟨rfl,rfl⟩;go_wp2_with (first | (rw[HW3.out]) | fail)
 refine HWK3.out.mono ?_;rintro e w4 ⟨A1,c1,rfl,own4,hb4⟩;rw[HMM.out];have n4:=(hb4.block _ (aaa HN3.out)).trans HN3.out;have hl4:=aaa n4;obtain⟨f0,f1,f2⟩:=acQ n4;obtain⟨z0,z1,z2⟩:=aam n4;obtain⟨w5,hw5⟩:=nmE (w4.setCell ⟨w2.heap.size,1,none⟩ (.slice A1 m c1));have hg5:w4.grownBy w5 (some w2.heap.size):=by rw[<-hw5];exact acu w4 w2.heap.size 1 _
 have n5:w5.heap[w2.heap.size]?=some (.cells #[.int .i64 (n:Int), .slice A1 m c1, .slice none 0 0] 107 (0,0)):=by rw[<-hw5];exact heap_setCell_same w4 w2.heap.size 1 _ _ _ n4
 have hb5:Below w2.heap.size w2 w5:=by rw[<-hw5];exact(HB3.out.trans (hb4.mono HB3.out.size)).setCell (p:=⟨w2.heap.size,1,none⟩) (Nat.le_refl _) _
 have own5:w5.ownsRow w2.heap.size 112 3 (.slice A1 (l.map toR).length c1) (l.map toR).length (ae4 (l.map toR)):=by
  rw[HLL.out,<-apI];rw[HMM.out]at own4;exact adx (acR own4 hg5 fun k hk hrk=>by injection hrk with hrk;subst hrk;exact acB own4 hk n4 (by decide)) HB3.out.size
 have HIM5:Hid (ImP w2.heap.size w2.heap.size (n:Int) A1 c1 (l.map toR) none 0 [] [] w5):=⟨by rw[HLL.out];exact n5,own5,World.ownsRow_nil _ _ _ _,fun i y h=>by simp at h,Nat.le_refl _,HIN.out⟩;have HB5:=hE0 hb5;have hRW:=own5;obtain⟨d0,d1,d2⟩:=aam n5;have hl5:=aaa n5;have HW5:=hE0 hw5;clear own4 hb4 n4 hw5 hg5 n5 hb5 own5 hRW;go_wp2_with (first | (rw[HW5.out]) | fail)
 clear f0 f1 f2 z0 z1 z2 d0 d1 d2 hl4 hl5;obtain⟨j0,ji,jz0,jz1,jz2⟩:=info_parts apC;go_loopw [26] (fun t W=>∃(j:Nat) (A2:Option Addr) (c2:Nat) (d:List (List UInt8)) (xs:List Value),t= .int .i64 (j:Int)/\j<=m/\ImP w2.heap.size w2.heap.size (n:Int) A1 c1 (l.map toR) A2 c2 d xs W/\d++ofD bs (l.drop j)=F/\d.length<=j/\Below w2.heap.size w2 W) (fun t _=>m-(intOf t).toNat)
 case atStart=>exact⟨0,none,0,[],[],rfl,Nat.zero_le _,HIM5.out,HFF.out,Nat.le_refl _,HB5.out⟩
 case round=>
  obtain⟨j,A2,c2,d,xs,rfl,hj,him,hdf,hdl,hb⟩:=hrel;have ho:=him.obj;rw[HLL.out]at ho;obtain⟨d0,d1,d2⟩:=aam ho;have hlm:=aaa ho;by_cases hlt:j<m
  · obtain⟨x,hx⟩:∃x,l[j]?=some x:=⟨l[j]'(by rw[HMM.out];exact hlt),List.getElem?_eq_getElem _⟩;obtain⟨m1,m2,m3⟩:=HMEM.out x (List.mem_of_getElem? hx);have m4:=(aab _).1 m3;rw[HNN.out]at m2;obtain⟨b2,o,rfl,hbb,hcl⟩:=him.rkrd (by rw[HLL.out];omega);obtain⟨r0,r1,r2,_,_⟩:=hcl j (toR x) (by rw[List.getElem?_map,hx];rfl);rw[aeG hx]at hdf;unfold ofD at hdf;obtain⟨xo,xz,xu⟩:=x;dsimp only[toR]at r0 r1 r2 hdf m1 m2 m3 m4;obtain⟨w4',hw4⟩:∃w4,wr.alloc (.cells #[.int .i64 (xo:Int), .int .i64 (xz:Int), .bool xu] 112)=w4:=⟨_,rfl⟩;have hb04:Below wr.heap.size wr w4':=by rw[<-hw4];exact(Below.refl _ _).alloc (Nat.le_refl _) _
    have n4:=anE hw4;have HIM4:=hE0 (him.stay hb04);have HB4:=hE0 (hb.trans (hb04.mono hb.size));have HW4:=hE0 hw4;have HN4:=hE0 n4;obtain⟨e0,e1,e2⟩:=aam n4;have hl4:=aaa n4;have HDF:=hE0 hdf;clear hx hcl hb04 hw4 n4 hdf him hb ho
    cases xu with
    | false=>
     have HF2:Hid (d++ofD bs (l.drop (j+1))=F):=(show _=_ by simpa using HDF.out);go_wp2_with (first | (rw[HW4.out]) | fail)
     go_roundw
     case rel=>exact⟨j+1,A2,c2,d,xs,by go_num,by omega,HIM4.out,HF2.out,by omega,HB4.out⟩
     case measure=>simp only[intOf];omega
    | true=>
     obtain⟨q,hq⟩:∃q,xz=q+16:=⟨xz-16,by omega⟩;have har4:=HAR2.out.below HB4.out;obtain⟨y,hy⟩:=nmE ((bs.drop (xo+8)).take q);have hyl:y.length=q:=by rw[<-hy,List.length_take,List.length_drop,HNN.out];omega
     have hyb:y.length<=100000:=by omega
     have HF2:Hid ((d++ [y])++ofD bs (l.drop (j+1))=F):=(show _=_ by
      have:=HDF.out;rw[if_pos rfl,show xz-16=q from by omega,hy]at this;rw[List.append_assoc];exact this)
     obtain⟨wd,hwd⟩:=nmE w4'.drew;have hbd:Below w4'.heap.size w4' wd:=by rw[<-hwd];exact(Below.refl _ _).drew
     have hard:=har4.below hbd;have HBASE:=hE0 (acj hard);have HHELD:=hE0 (ael wd (xo:Int) (xz:Int) true m3);rw[show(xz:Int)-16=(q:Int) from by omega]at HHELD;obtain⟨ad,had⟩:=nmE (base+xo+8);have HLOAD:=hE0 (fun W (h:Ar W 195 g base cap A c bs)=>aoM h (by rw[HNN.out];omega) ad q (xo+8) (by omega) (by omega) (by omega) (by rw[HNN.out];omega));rw[hy]at HLOAD;have HARD:=hE0 hard;have hbd4:=HB4.out.trans (hbd.mono HB4.out.size);have HBD:=hE0 hbd4;have HIMD:=hE0 (HIM4.out.stay hbd);have hnd:=(hbd.block _ (aaa HN4.out)).trans HN4.out;obtain⟨g0,g1,g2⟩:=aam hnd;have lgd:=aaa hnd;have HWD:=hE0 hwd;have HYL:=hE0 hyl;obtain⟨bx,hbx⟩:=nmE (base+xo);have i3:(base:Int)+(xo:Int)=(bx:Int):=by omega
     have i1:(bx:Int)+8=(ad:Int):=by omega
     have i2:ad<18446744073709551616:=by omega
     have hqb:q<=20000:=by omega
     have i4:bx<18446744073709551616:=by omega
     clear hbd har4 hard hbd4 hnd hwd hy hyl had hq hbx;go_wp2_with (first | (rw[HW4.out]) | fail)
     refine aao wd.heap.size [([0,1,3,4,5,8],2),([6,7],9),([10],11)] [12,13,14,15,16] [] (by kernel_rfl) (by kernel_rfl) (by kernel_rfl) (fun _ _ _ _ _ h=>h) ?_;rw[HWD.out];have q0:=tfE g0 lgd;have q1:=tfE g1 lgd;have q2:=tfE g2 lgd;refine tail_cons (l:= ?segA) ?hsegA ?_
     case hsegA=>simp only[pick,lE1,lE2,lE3];rfl
     repeat (go_big_quiet_step (fail))
     refine wpQuiet_nil ?_;clear q0 q1 q2;refine aar (vs:= #[.pointer (some ⟨g,0,none⟩)]) Tryz.call56 rfl rfl rfl (R:=fun r w'=>r= .int .u64 (base:Int)/\w'=wd) (HBASE.out.mono ?_) wd.heap.size (Nat.le_refl _) ?_
     · rintro e w' ⟨rfl,rfl⟩;exact⟨_,rfl,Below.refl _ _,rfl,rfl⟩
     rintro r w' _ ⟨rfl,rfl⟩;simp only[Act.put,lE4,lE5,lE6];refine tail_cons (l:= ?segB) ?hsegB ?_
     case hsegB=>simp only[pick,lE1,lE2,lE3];rfl
     repeat (go_big_quiet_step (fail))
     refine wpQuiet_nil ?_;refine afn (vs:= #[.agg #[.int .i64 (xo:Int), .int .i64 (xz:Int), .bool true]]) Tryz.call117 rfl rfl rfl (R:=fun r w''=>r= .int .i64 (q:Int)/\Below w'.heap.size w' w'') (HHELD.out.mono ?_) ?_
     · rintro e w'' ⟨rfl,hb⟩;exact⟨_,rfl,hb,rfl,hb⟩
     rintro r w5 _ ⟨rfl,hb5⟩;refine⟨w5.heap.size,hb5.size,?_⟩;simp only[Act.put,lE4,lE5,lE6];have HIM5:=hE0 (HIMD.out.stay hb5);have HB5:=hE0 (HBD.out.trans (hb5.mono HBD.out.size));have hlo:=HLOAD.out w5 (HARD.out.below hb5);unfold arr at hlo;rw[HYL.out]at hlo;clear hb5;refine tail_cons (l:= ?segC) ?hsegC ?_
     case hsegC=>simp only[pick,lE1,lE2,lE3];rfl
     repeat (go_big_quiet_step (fail))
     refine wpQuiet_nil ?_;refine afn (vs:= #[.pointer (some ⟨g,0,none⟩), .int .u64 (ad:Int), .int .u64 (q:Int)]) Tryz.call96 rfl rfl rfl (R:=fun r w''=>∃A' c',r= .tuple #[.slice A' q c', .nilIface]/\w''.ownsRow w5.heap.size 5 1 (.slice A' q c') q (y.map bv)/\Below w5.heap.size w5 w'') (hlo.mono ?_) ?_
     · rintro e w'' ⟨A',c',rfl,ho,hb⟩;exact⟨_,rfl,hb,A',c',rfl,ho,hb⟩
     rintro r w6 _ ⟨A6,k6,rfl,ho6,hb6⟩;refine⟨w6.heap.size,hb6.size,?_⟩;simp only[Act.put,lE4,lE5,lE6];have him6:=HIM5.out.stay hb6;have hB6:=HB5.out.trans (hb6.mono HB5.out.size);obtain⟨w7,hw7⟩:=nmE (w6.alloc (.cells #[.slice A6 q k6] 37));have hb7:=abE hw7;have n7:=anE hw7;have HIM7:=hE0 (him6.stay hb7);have HB7:=hE0 (hB6.trans (hb7.mono hB6.size));have ho7:=adx (ab8 ho6 hb7 (acT ho6)) (Nat.zero_le _);rw[<-HYL.out]at ho7;have Ho7:=hE0 ho7;have hB7s:w2.heap.size<=w7.heap.size:=HB7.out.size;have HRUN:=hE0 (fun V:World=>akc V A6 q k6);have HW7:=hE0 hw7;have HNEW:Hid (∀j u,[Value.slice A6 q k6][j]?=some u->w7.cell? ((⟨w6.heap.size,0,none⟩:Addr).add j)=some u):=fun j u hu=>by
      have e:(⟨w6.heap.size,0,none⟩:Addr).add j=⟨w6.heap.size,j,none⟩:=by unfold Addr.add;split<;>simp_all
      rw[e,cell_of_row w7 _ j _ _ (0,0) n7];simpa using hu
     have HONE:Hid (∀u∈ [Value.slice A6 q k6],u.oneCell'=true):=fun u hu=>by
      simp at hu;subst hu;rfl
     have hdb:d.length<=2000:=by omega
     have ho6':=him6.obj;rw[HLL.out]at ho6';obtain⟨v0,v1,v2⟩:=aam ho6';have hl6:=aaa ho6';clear hlo ho6 hb6 him6 hB6 hw7 hb7 n7 ho7 ho6' d0 d1 d2 hlm e0 e1 e2 hl4 g0 g1 g2 lgd;refine aaH (l:= ?lastA) (t:= []) ?hlastA rfl ?_
     case hlastA=>simp only[pick,lE1,lE2,lE3];rfl
     repeat (go_big_quiet_step (fail))
     refine wpQuiet_nil ?_;go_wp2_with (first
      | (rw[HRUN.out])
      | (rw[HW7.out])
      | (at_builtin;go_must (refine wpList_append_own _ rfl _ _ 57 rfl w2.heap.size 37 j0 _ 1 24 Tryz.underlying57 ji jz0 jz1 jz2 rfl (by decide) _ d.length xs rfl HIM7.out.rd ⟨w6.heap.size,0,none⟩ 1 1 [.slice A6 q k6] rfl rfl HNEW.out HONE.out (by unfold maxLen;omega) (by omega) hB7s ?_);intro x8 w8 own8 gr8 at8
         obtain⟨A2',c2',rfl,hg8,him8,hb8⟩:=HIM7.out.pushD (y:=y) hyb Ho7.out (by rw[HYL.out];exact own8) gr8 HB7.out (Nat.le_refl _) hB7s;have e8:=hg8.trans HIM7.out.obj;rw[HLL.out]at e8;obtain⟨c80,c81,c82⟩:=aam e8;obtain⟨t80,t81,t82⟩:=acQ e8;have hl8:=aaa e8;have HIM8:=hE0 him8;have HB8x:=hE0 hb8;clear own8 gr8 at8 hg8 him8 hb8 e8)
      | fail)
     go_roundw
     case rel=>exact⟨j+1,A2',c2',d++ [y],_,by go_num,by omega,HIM8.out,HF2.out,by rw[List.length_append,List.length_singleton];omega,HB8x.out⟩
     case measure=>simp only[intOf];omega
  · have hd0:l.drop j= []:=List.drop_eq_nil_of_le (by rw[HMM.out];omega);rw[hd0]at hdf;have hdF:d=F:=by rw[<-hdf];unfold ofD;rw[List.append_nil]
    subst hdF;have hN9:=(hb.block _ (aaa HN2.out)).trans HN2.out;have hB9:=HB2.out.trans (hb.mono HB2.out.size);have hl9:=aaa hN9;obtain⟨t0,t1,t2⟩:=acQ hN9;obtain⟨z0,z1,z2⟩:=aam hN9;obtain⟨dl,hdl2⟩:=nmE d.length;rw[hdl2]at ho;clear d0 d1 d2;obtain⟨d0,d1,d2⟩:=aam ho;have HM:=hE0 (ae9 hN9 (.int .i64 (n:Int)) (.slice A1 m c1) (.slice A2 dl c2));have HF:=hE0 (((hB9.setCell (p:=⟨w.heap.size,0,none⟩) (Nat.le_refl _) (.int .i64 (n:Int))).setCell (p:=⟨w.heap.size,1,none⟩) (Nat.le_refl _) (.slice A1 m c1)).setCell (p:=⟨w.heap.size,2,none⟩) (Nat.le_refl _) (.slice A2 dl c2));have HLAID:=hE0 (him.laid (aaa HN2.out) hN9 (.int .i64 (n:Int)) (.slice A1 m c1) (.slice A2 dl c2));have HDL:=hE0 hdl2;clear hN9 hB9 him hb ho hdl2 hdf hd0;go_wp2
    (try simp only[Exit.inBlock,Exit.then])
    refine aka (g:=w.heap.size) (x:= .nilIface) Tryz.results58 ?_ ?_ ?_ HM.out ?_
    · rfl
    · rfl
    · rfl
    · exact⟨A1,A2,c1,c2,by rw[HDL.out],HLAID.out.1,HLAID.out.2,HF.out⟩
end Go.Proofs.YtncadccbepjekaaGreatDoor
