/- Texts of mine, joined. -/
import Derived.Test.YtncadccbepjekaaGreatDoorP25
import Derived.Test.YtncadccbepjekaaGreatDoorP27
import Derived.Test.YtncadccbepjekaaGreatDoorP28
import Derived.Test.YtncadccbepjekaaGreatDoorP30
set_option maxRecDepth 100000
set_option maxHeartbeats 2000000
namespace Go.Proofs.YtncadccbepjekaaGreatDoor
open Go.RowKit
theorem findC:avO:=by
 intro w g base cap c A bs s h hb hl hs
 cases hz:aaG s
 · have hv:aj8 bs s= .tuple #[.int .i64 0,aav false 1]:=by unfold aj8;rw[if_neg (by rw[hz];simp)]
   have hc:aaq s= -1:=by simp[aaq,hz]
   rw[hv];have hC:=ajW w s hs;rw[hc]at hC;have HC:=hE0 hC;clear hz hv hc hC h hb;go_enter Tryz.func233,Tryz.ntmps233
   go_wp2_with fail
   with_reducible refine HC.out.mono ?_
   rintro e w1 ⟨rfl,hb1⟩;have HB:=hE0 hb1;clear hb1;go_wp2
   go_ret2
   exact⟨rfl,HB.out⟩
 · obtain⟨k0,hk0,hk22⟩:∃k0:Nat,aaq s=(k0:Int)/\k0<22:=by
    have h1:=acE s;have h2:¬aaq s<0:=by rw[ahC];simp[hz]
    exact⟨(aaq s).toNat,by omega,by omega⟩
   obtain⟨x,hx⟩:=nmE (ahp bs s (22-k0) k0);have hv:aj8 bs s= .tuple #[.int .i64 ((x.getD 0:Nat):Int),aav x.isSome 3]:=by
    unfold aj8 aoR;rw[if_pos hz,hk0,Int.toNat_natCast,hx]
   rw[hv];have hC:=ajW w s hs;rw[hk0]at hC;have HC:=hE0 hC;have HX:=hE0 hx;have HAR:=hE0 h;have HBASE:=hE0 hb;obtain⟨B0,hB0⟩:=nmE w.heap.size;have HB0:=hE0 hB0;clear hz hv hk0 hC h hx hB0 hb;go_enter Tryz.func233,Tryz.ntmps233
   go_wp2_with fail
   with_reducible refine HC.out.mono ?_
   rintro e w1 ⟨rfl,hb1⟩;have HB1:=hE0 hb1;clear hb1 HC;go_wp2
   go_loopw [7] (fun t wr=>∃d k:Nat,t= .int .i64 (d:Int)/\d+k=22/\x=ahp bs s k d/\Below B0 w wr) (fun t _=>22-(intOf t).toNat)
   case atStart=>exact⟨k0,22-k0,rfl,by omega,HX.out.symm,by rw[<-HB0.out];exact HB1.out⟩
   case round=>
    obtain⟨d,k,rfl,hdk,hxf,hb2⟩:=hrel;have hBw:B0<=wr.heap.size:=by have:=hb2.size;have:=HB0.out;omega
    by_cases hd22:d<22
    · obtain⟨k,rfl⟩:∃k',k=k'+1:=⟨k-1,by omega⟩;have har:Ar wr 195 g base cap A c bs:=HAR.out.below (by rw[HB0.out];exact hb2)
      cases ha:afH bs d with
      | none=>
       obtain rfl:x=none:=by rw[hxf];simp[ahp,ha]
       have hA:=avF wr g base cap c A bs d _ har HBASE.out hl hd22 ha;dsimp only[ae6,Option.isSome,Option.getD,aav]at hA;have HA:=hE0 hA;have HB:=hE0 hb2;clear hA hb2 hxf har HX ha HAR;go_wp2_with fail
       with_reducible refine HA.out.mono ?_
       rintro e w2 ⟨A',c',rfl,_,hb3⟩;have HB2:=hE0 (HB.out.trans (hb3.mono hBw));clear hb3;go_wp2
       go_ret2
       exact⟨rfl,by rw[HB0.out];exact HB2.out⟩
      | some l=>
       have hA:=avF wr g base cap c A bs d _ har HBASE.out hl hd22 ha;dsimp only[ae6,Option.isSome,Option.getD,aav]at hA;have hxf':x=(match l.find? (fun o=>decide (s<=(szB bs o:Int)))with
        | some o=>some o
        | none=>ahp bs s k (d+1)):=by
        rw[hxf];conv=>lhs;unfold ahp
        rw[ha]<;>rfl
       have hmem:∀o∈l,184<=o/\o<=20000/\∃x,aa8 bs (o:Int)=some x:=fun o ho=>by
        have hm:=acM ha o ho;obtain⟨h1,x,h2⟩:=aeE hm;have:=(aaO hm);exact⟨by omega,h1,x,h2⟩
       have HF:=hE0 (fun(W:World) (hB:Below wr.heap.size wr W) (A2:Option Addr) (c2 B1:Nat) (ho:W.ownsRow B1 3 1 (.slice A2 l.length c2) l.length (l.map iV))=>an3 (har.below hB) HBASE.out hl A2 c2 B1 l ho (fun o ho=>(hmem o ho).2) s);have HA:=hE0 hA;have HB:=hE0 hb2;have HXF:=hE0 hxf';have HMEM:=hE0 hmem;clear hA hb2 hxf hxf' har HX ha hmem HAR
       cases hfd:l.find? (fun o=>decide (s<=(szB bs o:Int)))with
       | some o=>
        obtain rfl:x=some o:=by rw[HXF.out,hfd]
        obtain⟨o184,o20,_⟩:=HMEM.out o (List.mem_of_find?_eq_some hfd);have ho0:((o:Int) !=0)=true:=by rw[bne_iff_ne];omega
        have HF2:=hE0 (fun W hB A2 c2 B1 ho=>HF.out W hB A2 c2 B1 ho o (by rw[hfd];rfl));clear HF HXF hfd HMEM;go_wp2_with fail
        with_reducible refine HA.out.mono ?_
        rintro e w2 ⟨A2,c2,rfl,ho2,hb3⟩;have HFF:=hE0 (HF2.out w2 hb3 A2 c2 _ ho2);have HB2:=hE0 (HB.out.trans (hb3.mono hBw));have hs2:=hb3.size;clear hb3 ho2 HA HF2;go_wp2_with fail
        with_reducible refine HFF.out.mono ?_
        rintro e w3 ⟨rfl,hb4⟩;have HB3:=hE0 (HB2.out.trans (hb4.mono (by omega)));clear hb4 HFF;go_wp2
        go_ret2
        exact⟨rfl,by rw[HB0.out];exact HB3.out⟩
       | none=>
        have hx2:x=ahp bs s k (d+1):=by rw[HXF.out,hfd]
        have HF2:=hE0 (fun W hB A2 c2 B1 ho=>HF.out W hB A2 c2 B1 ho 0 (by rw[hfd];rfl));have HX2:=hE0 hx2;clear HF HXF hfd HMEM hx2;go_wp2_with fail
        with_reducible refine HA.out.mono ?_
        rintro e w2 ⟨A2,c2,rfl,ho2,hb3⟩;have HFF:Hid (Calls Tryz.prog 269 #[.pointer (some ⟨g,0,none⟩), .slice A2 l.length c2, .int .i64 s] w2 fun e w'=>e= .returned (.int .i64 0)/\Below w2.heap.size w2 w'):=HF2.out w2 hb3 A2 c2 _ ho2;have HB2:=hE0 (HB.out.trans (hb3.mono hBw));have hs2:=hb3.size;clear hb3 ho2 HA HF2;go_wp2_with fail
        with_reducible refine HFF.out.mono ?_
        rintro e w3 ⟨rfl,hb4⟩;have HB3:=hE0 (HB2.out.trans (hb4.mono (by omega)));clear hb4 HFF;go_wp2
        go_roundw
        case rel=>exact⟨d+1,k,by go_num,by omega,HX2.out,HB3.out⟩
        case measure=>simp only[intOf];omega
    · obtain⟨rfl,rfl⟩:d=22/\k=0:=by omega
      obtain rfl:x=some 0:=by rw[hxf];rfl
      have HB:=hE0 hb2;clear hxf hb2 HX;go_wp2
      go_ret2
      exact⟨rfl,by rw[HB0.out];exact HB.out⟩
def andThen (r:Nat × Dst) (f:Dst->Nat × Dst):Nat × Dst:=if r.1=0 then f r.2 else r
def adL (p:Nat) (b rec:List UInt8) (s:Dst):Nat × Dst:=
 andThen (andThen (andThen (andThen (andThen (dwr s p (List.replicate 512 0)) dfl) (fun s=>aib s (p+1) b)) dfl) (fun s=>dwr s p rec)) dfl
def asr (x y:Sk) (half:Nat) (b:List UInt8) (s:Dst):Nat × Dst:=
 if 512*(half-1)<b.length\/4611686018427387904<=max x.G y.G then (7,s) else
 adL ((if ag2 x y=0 then 1 else 0)*half) b (abQ (max x.G y.G+1) b.length (abZ 0 b)) s
theorem aaC{r:Nat × Dst}{f:Dst->Nat × Dst}(h:r.1=0):andThen r f=f r.2:=if_pos h
theorem abo{r:Nat × Dst}{f:Dst->Nat × Dst}(h:r.1≠0):andThen r f=r:=if_neg h
theorem ass (l:Int) (j:Nat):ab1 l j<=l:=by unfold ab1;split<;>omega
theorem avn (s:Dst):(dfl s).2.wt.length<=s.wt.length/\(dfl s).2.left<=s.left:=by
 unfold dfl;split
 · exact⟨Nat.le_refl _,Int.le_refl _⟩
 · exact⟨Nat.zero_le _,Int.le_refl _⟩
theorem auh (s:Dst) (p:Nat) (b:List UInt8):(aib s p b).2.wt.length<=s.wt.length+need b.length/\(aib s p b).2.left<=s.left:=by
 unfold aib;refine⟨?_,ass _ _⟩;dsimp only;rw[List.length_append,agP];have:wk (need b.length) s.left s.off<=need b.length:=by unfold wk;split;omega;split;omega;omega
 omega
section
variable {N:Nat} {S:Nat->Prop} {w w1 w2:World} {g:Nat} {s:Dst}
end
def akY (s:Dst):Prop:=s.off=false/\s.left<0
section
variable {s:Dst}
theorem agi (h:akY s) (p:Nat) (d:List UInt8):(dwr s p d).1=0/\akY (dwr s p d).2:=by
 unfold dwr;rw[if_neg (by rintro(e | e);· rw[h.1]at e;cases e
                          · have:=h.2;omega)]
 exact⟨rfl,h.1,by show ab1 _ _<0;unfold ab1;rw[if_pos h.2];exact h.2⟩
theorem afi (h:akY s):(dfl s).1=0/\akY (dfl s).2/\(dfl s).2.wt= []:=by
 unfold dfl;rw[if_neg (by rw[h.1];decide)];exact⟨rfl,h,rfl⟩
theorem akC (h:akY s) (p:Nat) (b:List UInt8):(aib s p b).1=0/\akY (aib s p b).2:=by
 have e:wk (need b.length) s.left s.off=need b.length:=by unfold wk;rw[if_neg (by rw[h.1];decide),if_pos h.2]
 unfold aib;rw[e];refine⟨if_neg (Nat.lt_irrefl _),?_,?_⟩
 · show(s.off || decide (need b.length<need b.length))=false;rw[h.1];simp
 · show ab1 _ _<0;unfold ab1;rw[if_pos h.2];exact h.2
theorem an9 (h:akY s) (p:Nat) (b rec:List UInt8):(adL p b rec s).1=0/\akY (adL p b rec s).2/\(adL p b rec s).2.wt= []:=by
 obtain⟨a1,h1⟩:=agi h p (List.replicate 512 0);obtain⟨a2,h2,_⟩:=afi h1;obtain⟨a3,h3⟩:=akC h2 (p+1) b;obtain⟨a4,h4,_⟩:=afi h3;obtain⟨a5,h5⟩:=agi h4 p rec;unfold adL;rw[aaC a1,aaC a2,aaC a3,aaC a4,aaC a5];exact afi h5
theorem am2 (p:Nat) (d:List UInt8) (hd:d.length=512):aib s p d=dwr s p d:=by
 have hn:need d.length=1:=by rw[hd];rfl
 have hp:agF d 0=d:=by
  unfold agF;rw[hd,Nat.zero_mul,List.drop_zero,List.take_of_length_le (by omega)];simp
 obtain⟨bs,wt,left,off⟩:=s;unfold aib dwr;rw[hn];dsimp only;by_cases hb:off=true\/left=0
 · have e:wk 1 left off=0:=by
    unfold wk;split
    · rfl
    · rcases hb with h | h
      · rename_i h2;exact absurd h h2
      · subst h;rfl
   rw[if_pos hb,e,if_pos (by omega),ah7];simp[agO]
 · have e:wk 1 left off=1:=by
    unfold wk;rw[if_neg (fun h=>hb (.inl h))];split
    · rfl
    · have:left≠0:=fun h=>hb (.inr h);omega
   have ho:off=false:=by cases off;rfl;exact absurd (.inl rfl) hb
   subst ho;rw[if_neg hb,e,if_neg (by omega)];simp[agO,hp,List.range_succ]
end
theorem am3 (b:List UInt8) (half:Nat) (a:Nat->List UInt8):(amW b half a).ok=true->aew ((amW b half a).n:Int) (amW b half a).l (amW b half a).d=true:=by
 unfold amW;split
 · exact fun h=>by cases h
 split
 · exact fun h=>by cases h
 unfold asn;split
 · rename_i h;intro _;have hg:afc (a (slN b))=(0,(afc (a (slN b))).2.1,(afc (a (slN b))).2.2.1,(afc (a (slN b))).2.2.2):=by rw[<-h.1]
   exact(aqh hg).put.2
 · exact fun h=>by cases h
theorem aui (x y:Sk):(ag2 x y=0->x.ok=true)/\(ag2 x y=1->y.ok=true):=by
 unfold ag2;constructor
 · split
   · rename_i h;exact fun _=>h.1
   · split
     · intro h;cases h
     · intro h;cases h
 · split
   · intro h;cases h
   · split
     · rename_i h;exact fun _=>h
     · intro h;cases h
theorem ajl (p:Nat) (d:List UInt8) (hd:d.length=512):agO p d 1= [(p,d)]:=by
 have hp:agF d 0=d:=by
  unfold agF;rw[hd,Nat.zero_mul,List.drop_zero,List.take_of_length_le (by omega)];simp
 simp[agO,hp,List.range_succ]
theorem akD (n p:Nat) (b:List UInt8) (j:Nat) (h:(p+j)*512<=n):apd n (agO p b j):=by
 intro x hx;unfold agO at hx;obtain⟨i,hi,rfl⟩:=List.mem_map.1 hx;have:=List.mem_range.1 hi;exact⟨by dsimp only;omega,aeK _ _⟩
section
variable {s:Dst}
theorem am4 (h:akY s) (p:Nat) (d:List UInt8):(dwr s p d).2.wt=s.wt++ [(p,d)]/\(dwr s p d).2.bs=s.bs:=by
 unfold dwr;rw[if_neg (by rintro(e | e);· rw[h.1]at e;cases e
                          · have:=h.2;omega)]
 exact⟨rfl,rfl⟩
theorem aqz (h:akY s):(dfl s).2.bs=aeH s.bs s.wt:=by
 unfold dfl;rw[if_neg (by rw[h.1];decide)]
theorem aqA (h:akY s) (p:Nat) (b:List UInt8):(aib s p b).2.wt=s.wt++agO p b (need b.length)/\(aib s p b).2.bs=s.bs:=by
 have e:wk (need b.length) s.left s.off=need b.length:=by unfold wk;rw[if_neg (by rw[h.1];decide),if_pos h.2]
 unfold aib;rw[e];exact⟨rfl,rfl⟩
theorem ast (h:akY s) (hw:s.wt= []) (p:Nat) (b rec:List UInt8):(adL p b rec s).2.bs=aeH (aeH (aeH s.bs [(p,List.replicate 512 0)]) (agO (p+1) b (need b.length))) [(p,rec)]:=by
 obtain⟨a1,h1⟩:=agi h p (List.replicate 512 0);obtain⟨a2,h2,e2⟩:=afi h1;obtain⟨a3,h3⟩:=akC h2 (p+1) b;obtain⟨a4,h4,e4⟩:=afi h3;obtain⟨a5,h5⟩:=agi h4 p rec;unfold adL;rw[aaC a1,aaC a2,aaC a3,aaC a4,aaC a5,aqz h5,(am4 h4 _ _).1,(am4 h4 _ _).2,e4,aqz h3,(aqA h2 _ _).1,(aqA h2 _ _).2,e2,aqz h1,(am4 h _ _).1,(am4 h _ _).2,hw];rfl
theorem aik (h:akY s) (hw:s.wt= []) (p:Nat) (b rec:List UInt8) (hrec:rec.length=512) (hp:(p+1+need b.length)*512<=s.bs.length) (i:Nat):
 abB (adL p b rec s).2.bs [] i=if i=p then rec else if p+1<=i/\i<p+1+need b.length then agF b (i-(p+1)) else abB s.bs [] i:=by
 have e1:∀d:List UInt8,d.length=512->apd s.bs.length [(p,d)]:=fun d hd=>by rw[<-ajl p d hd];exact akD _ _ _ _ (by omega)
 have hz:(List.replicate 512 (0:UInt8)).length=512:=List.length_replicate;have l1:=abX _ _ (e1 _ hz);have e2:apd s.bs.length (agO (p+1) b (need b.length)):=akD _ _ _ _ hp;have l2:=abX (agO (p+1) b (need b.length)) (aeH s.bs [(p,List.replicate 512 0)]) (by rw[l1];exact e2);rw[ast h hw,aeP _ _ _ (by rw[l2,l1];exact e1 _ hrec),<-ajl p rec hrec,adh,aeP _ _ _ (by rw[l1];exact e2),adh,aeP _ _ _ (e1 _ hz),<-ajl p _ hz,adh];by_cases hi:i=p
 · subst hi;rw[if_pos (by omega),if_pos rfl];unfold agF;rw[hrec,Nat.sub_self,Nat.zero_mul,List.drop_zero,List.take_of_length_le (by omega)];simp
 · rw[if_neg (by omega),if_neg hi];split
   · rfl
   · rw[if_neg (by omega)]
theorem aoa (h:akY s) (hw:s.wt= []) (half k G:Nat) (n:Nat) (l:List Rk) (d:List (List UInt8)) (hm:aew (n:Int) l d=true) (b:List UInt8) (hb:aaZ n l d=b) (hfit:b.length<=512*(half-1)) (h1:1<=half) (hl:(k*half+half)*512<=s.bs.length) (hG:1<=G/\G<=4611686018427387904) (h64:half<=64):
 adC (adL (k*half) b (abQ G b.length (abZ 0 b)) s).2.bs [] half k=⟨G,b.length,abZ 0 b,true,n,l,d⟩:=by
 have hok:akX G b.length=true:=by unfold akX;simp only[Bool.and_eq_true,decide_eq_true_eq];omega
 obtain⟨p1,p2,p3,p4⟩:=aqq hok (aeh 0 b);obtain⟨-,f1,f2,f3⟩:=ajh p1;obtain⟨p,hp⟩:=nmE (k*half);rw[hp]at hl ⊢;have hn:need b.length<=half-1:=by unfold need;omega
 have hlast:=aik h hw p b (abQ G b.length (abZ 0 b)) (aea _ _ _) (by omega);unfold adC amW;rw[hp,hlast p,if_pos rfl,if_neg (by rw[p1];decide),<-f1,<-f2,<-f3,p2,p3,p4,if_neg (by omega)];have hr:adw (adL p b (abQ G b.length (abZ 0 b)) s).2.bs [] (p+1) (need b.length)=afh b (need b.length):=by
  rw[<-an7 s.bs (p+1) b (need b.length)];refine ag5 _ _ fun i hi=> ?_;rw[hlast,if_neg (by omega),if_pos (by omega),adh,if_pos (by omega)]
 dsimp only;rw[hr,al1 b _ rfl];have hg:=(alQ hm).got;rw[hb]at hg;rw[hg];unfold asn;rw[if_pos ⟨rfl,rfl⟩]
theorem al2 (h:akY s) (hw:s.wt= []) (half k j:Nat) (b rec:List UInt8) (hrec:rec.length=512) (hkj:j*half+half<=k*half\/k*half+half<=j*half) (h1:1<=half) (hfit:b.length<=512*(half-1)) (hl:(k*half+half)*512<=s.bs.length):
 adC (adL (k*half) b rec s).2.bs [] half j=adC s.bs [] half j:=by
 have hn:need b.length<=half-1:=by unfold need;omega
 have hlast:=aik h hw (k*half) b rec hrec (by omega);have e0:abB (adL (k*half) b rec s).2.bs [] (j*half)=abB s.bs [] (j*half):=by rw[hlast,if_neg (by omega),if_neg (by omega)]
 unfold adC;rw[e0];unfold amW;split
 · rfl
 split
 · rfl
 · rename_i hq;dsimp only;have hq':need (slN (abB s.bs [] (j*half)))<=half-1:=by unfold need;omega
   rw[ag5 (bs:=(adL (k*half) b rec s).2.bs) (bs':=s.bs) (l:= []) (l':= []) (j*half+1) (need (slN (abB s.bs [] (j*half)))) fun i hi=>(by rw[hlast,if_neg (by omega),if_neg (by omega)])]
end
theorem al3 (n i:Nat) (hi:i*512+512<=n):abB (List.replicate n 0) [] i=List.replicate 512 0:=by
 show((List.replicate n (0:UInt8)).drop (i*512)).take 512=_;rw[List.drop_replicate,List.take_replicate];congr 1;omega
theorem ag6 (n half k:Nat) (hk:k*half*512+512<=n):adC (List.replicate n 0) [] half k=arb:=by
 unfold adC amW;rw[al3 _ _ hk,if_pos alX]
section
variable {N:Nat} {S:Nat->Prop} {w w':World} {g:Nat} {s:Dst}
theorem DS.made{h c:Nat}{bs:List UInt8}(k:Dk (ad1 (fun _=>False) w w') w' g h c none 0 bs [] (-1) false) (hl:bs.length=512*N):DS N (ad1 (fun _=>False) w w') w' g ⟨bs,[],-1,false⟩:=
 ⟨h,c,none,0,[],k,rfl,hl,fun j hj=>by rcases hj with h | h;exact h.elim;exact h.2⟩
end
end Go.Proofs.YtncadccbepjekaaGreatDoor
