/- Texts of mine, joined. -/
import Derived.Deep.CutRange
import Derived.Deep.Grids
import Derived.Deep.Fields
import Derived.Test.YthnfclimjmmckaaGreatDoorM6
set_option maxRecDepth 100000
set_option maxHeartbeats 8000000
namespace Go.Proofs.YthnfclimjmmckaaGreatDoor
open Go.RowKit
theorem aod (w:World) (A:Option Addr) (n c B:Nat) (b:List UInt8) (hr:Rd w B A n b) (hB:B<=w.heap.size) (hnc:n<=c) (hc:c<=9223372036854775807) (hn:n<=900000):
 Calls Tryz.prog 182 #[.slice A n c] w fun e w'=>GotN w (acO b) e w':=by
 have hbl:b.length=n:=hr.1;by_cases h28:n<28
 · have e0:acO b=(3,0,[],[]):=by
    have:acE b=3:=by unfold acE;rw[if_pos (by omega)]
    unfold acO;rw[if_pos (by rw[this];simp),this]
   rw[e0];exact(amx w A n c h28).mono fun e w' h=>GotN.err h.1 h.2
 · by_cases hm:b.take 8=imMarkB
   · have hm2:((adh (b.take 8)).toList !=(adh imMarkB).toList)=false:=by rw[hm];exact adf _
     cases hs:aaS b 0 24 with
     | false=>
      have e0:acO b=(9,0,[],[]):=by
       have:acE b=9:=by unfold acE;rw[if_neg (by omega),if_neg (by simpa using hm),if_pos hs]
       unfold acO;rw[if_pos (by rw[this];simp),this]
      rw[e0];refine(ajr w A n c B b hr hB hnc hc hn (by omega) false hm2 false hs (.inr rfl)).mono fun e w' h=>GotN.err ?_ h.2;rw[h.1];rfl
     | true=>
      have ho:HeadOk b n (abH b) (abU b):=⟨hbl,by omega,hm,hs,rfl,rfl⟩;by_cases hb:184<=abH b/\abH b<=16384/\abH b%16=8/\abU b<=1024/\32+8*abU b<=n
      · obtain⟨k0,k1,k2,k3,k4⟩:=hb
        cases ht:aaS b 28 (28+8*abU b)with
        | false=>
         rw[ho.tags ⟨k0,k1,k2,k3,k4⟩ ht];exact(aoa w A n c B b hr hB hnc hc hn (by omega) hm hs _ _ rfl rfl k0 k1 k2 k3 k4 ht).mono fun e w' h=>GotN.err h.1 h.2
        | true=>exact aoc w A n c B b hr hB hnc hc hn (by omega) hm hs _ _ rfl rfl k0 k1 k2 k3 k4 ht _ rfl
      · rw[ho.bad hb];by_cases k0:184<=abH b
        · by_cases k1:abH b<=16384
          · by_cases k2:abH b%16=8
            · by_cases k3:abU b<=1024
              · exact(arQ w A n c B b hr hB hnc hc hn (by omega) hm hs _ _ rfl rfl k0 k1 k2 k3 (by omega)).mono fun e w' h=>GotN.err h.1 h.2
              · exact(arP w A n c B b hr hB hnc hc hn (by omega) hm hs _ _ rfl rfl k0 k1 k2 (by omega)).mono fun e w' h=>GotN.err h.1 h.2
            · exact(arO w A n c B b hr hB hnc hc hn (by omega) hm hs _ _ rfl rfl k0 k1 k2).mono fun e w' h=>GotN.err h.1 h.2
          · exact(arN w A n c B b hr hB hnc hc hn (by omega) hm hs _ _ rfl rfl (by omega)).mono fun e w' h=>GotN.err h.1 h.2
        · exact(arM w A n c B b hr hB hnc hc hn (by omega) hm hs _ _ rfl rfl (by omega)).mono fun e w' h=>GotN.err h.1 h.2
   · have hm2:((adh (b.take 8)).toList !=(adh imMarkB).toList)=true:=apX hm;have e0:acO b=(3,0,[],[]):=by
      have:acE b=3:=by unfold acE;rw[if_neg (by omega),if_pos hm]
      unfold acO;rw[if_pos (by rw[this];simp),this]
     rw[e0];refine(ajr w A n c B b hr hB hnc hc hn (by omega) true hm2 (aaS b 0 24) rfl (.inl rfl)).mono fun e w' h=>GotN.err ?_ h.2;rw[h.1];rfl
structure Sk where
 G:Nat
 N:Nat
 S:Nat
 ok:Bool
 n:Nat
 l:List Rk
 d:List (List UInt8)
def alu:Sk:=⟨0,0,0,false,0,[],[]⟩
def apb (G N S s:Nat) (Γ:Nat × Nat × List Rk × List (List UInt8)):Sk:=
 if Γ.1=0/\s=S then ⟨G,N,S,true,Γ.2.1,Γ.2.2.1,Γ.2.2.2⟩ else ⟨G,N,S,false,0,[],[]⟩
def ajt (b:List UInt8) (half:Nat) (a:Nat->List UInt8):Sk:=
 if abP b=false then alu else
 if 512*(half-1)<slN b then ⟨slG b,slN b,slS b,false,0,[],[]⟩ else apb (slG b) (slN b) (slS b) (abn 0 (a (slN b))) (acO (a (slN b)))
def abw (bs:List UInt8) (wt:List (Nat × List UInt8)) (half k:Nat):Sk:=
 ajt (aa7 bs wt (k*half)) half (fun n=>(ac2 bs wt (k*half+1) (need n)).take n)
def skV (s:Sk) (A1:Option Addr) (c1:Nat) (A2:Option Addr) (c2:Nat):Value:= .agg #[.int .u64 (s.G:Int), .int .u64 (s.N:Int), .int .u32 (s.S:Int), .bool s.ok, .int .i64 (s.n:Int), .slice A1 s.l.length c1, .slice A2 s.d.length c2]
def Looked (s:Sk) (w:World) (e:Ending) (w':World):Prop:=
 ∃A1 c1 A2 c2,e= .returned (.tuple #[skV s A1 c1 A2 c2, .int .i64 0])/\RkRd w' w'.heap.size A1 s.l/\DtRd w' w'.heap.size A2 s.d/\(∀a,A2=some a->w.heap.size<=a.block)/\Below w.heap.size w w'
theorem Looked.plain{w w':World}(G N S:Nat){e:Ending}(he:e= .returned (.tuple #[.agg #[.int .u64 (G:Int), .int .u64 (N:Int), .int .u32 (S:Int), .bool false, .int .i64 0, .slice none 0 0, .slice none 0 0], .int .i64 0])) (hb:Below w.heap.size w w'):Looked ⟨G,N,S,false,0,[],[]⟩ w e w':=
 ⟨none,0,none,0,he,fun h=>absurd h (by simp),fun h=>absurd h (by simp),fun _ h=>(by cases h),hb⟩
theorem ahB{fn:Func}{R:Ending->World->Prop}{a:Act}{w:World}{p u:Tmp}{g:Nat}{x y0 y1 y2 y3 y4 y5 y6:Value}(hres:fn.results= #[.cell p 127, .tmp u]) (hp:a.tmps.getD p undef= .pointer (some ⟨g,0,none⟩)) (hx:a.tmps.getD u undef=x) (hd:a.defers= [])
 (hg:w.heap[g]?=some (.cells #[y0,y1,y2,y3,y4,y5,y6] 127 (0,0))) (hR:R (.returned (.tuple #[.agg #[y0,y1,y2,y3,y4,y5,y6],x])) w):bodyPost Tryz.prog fn R .ret a w:=by
 obtain⟨⟨c0,c1,c2,c3,c4,c5,c6⟩,_⟩:=acH hg;refine bodyPost_ret (v:= .tuple #[.agg #[y0,y1,y2,y3,y4,y5,y6],x]) ?_ hd hR;rw[results_cell_tmp hres,hp,hx];simp[go_sem,c0,c1,c2,c3,c4,c5,c6]
theorem alv{b:List UInt8}(h:abP b=true):slG b<=4611686018427387904/\slN b<=65536:=by
 unfold abP at h;rw[Bool.and_eq_true]at h;have h1:=of_decide_eq_true h.1;have h2:=of_decide_eq_true h.2;unfold aji at h2;by_cases hk:ahu (slG b) (slN b)=true
 · unfold ahu at hk;simp only[Bool.and_eq_true,decide_eq_true_eq]at hk;exact⟨hk.2.1,hk.2.2⟩
 · rw[if_neg hk]at h2;rw[<-h2]at h1
   cases h1
theorem RkRd.offS{w w':World}{B g:Nat}{A:Option Addr}{l:List Rk}{t:TypeId}{fr:Nat × Nat}{a b c e:Int}{f:Bool}{A1 A2:Option Addr}{n1 k1 n2 k2:Nat}(h:RkRd w B A l) (hg:w.heap[g]?=some (.cells #[.int .u64 a, .int .u64 b, .int .u32 c, .bool f, .int .i64 e, .slice A1 n1 k1, .slice A2 n2 k2] t fr)) (hk:∀k,k≠g->w'.heap[k]?=w.heap[k]?):RkRd w' B A l:=fun hn=>by
 obtain⟨b,o,e,hB,hc⟩:=h hn;have hbg:b≠g:=by
  intro e2;subst e2;obtain⟨x,hx⟩:∃x,l[0]?=some x:=⟨l[0]'hn,List.getElem?_eq_getElem _⟩;obtain⟨h0,h1,_⟩:=hc 0 x hx;rw[cell_of_row _ _ _ _ _ _ hg]at h0 h1;rcases o with _ | _ | _ | _ | _ | _ | _ | o<;>simp at h0 h1
 refine⟨b,o,e,hB,fun j x hx=> ?_⟩;obtain⟨h0,h1,h2,h3⟩:=hc j x hx;have hh:=hk b hbg;refine⟨?_,?_,?_,h3⟩
 · rw[<-h0];simp[World.cell?,hh]
 · rw[<-h1];simp[World.cell?,hh]
 · rw[<-h2];simp[World.cell?,hh]
theorem Rd.offS{w w':World}{B g n:Nat}{A:Option Addr}{l:List UInt8}{t:TypeId}{fr:Nat × Nat}{a b c e:Int}{f:Bool}{A1 A2:Option Addr}{n1 k1 n2 k2:Nat}(h:Rd w B A n l) (hg:w.heap[g]?=some (.cells #[.int .u64 a, .int .u64 b, .int .u32 c, .bool f, .int .i64 e, .slice A1 n1 k1, .slice A2 n2 k2] t fr)) (hk:∀k,k≠g->w'.heap[k]?=w.heap[k]?):Rd w' B A n l:=by
 refine⟨h.1,fun hn=> ?_⟩;obtain⟨b,o,e,hB,hc⟩:=h.2 hn;have hbg:b≠g:=by
  intro e2;subst e2;obtain⟨x,hx⟩:∃x,l[0]?=some x:=⟨l[0]'(by rw[h.1];exact hn),List.getElem?_eq_getElem _⟩;have h0:=hc 0 x hx;rw[cell_of_row _ _ _ _ _ _ hg]at h0;rcases o with _ | _ | _ | _ | _ | _ | _ | o<;>simp at h0
 refine⟨b,o,e,hB,fun j x hx=> ?_⟩;have hh:=hk b hbg;rw[<-hc j x hx];simp[World.cell?,hh]
theorem DtRd.offS{w w':World}{B g:Nat}{A:Option Addr}{l:List (List UInt8)}{t:TypeId}{fr:Nat × Nat}{a b c e:Int}{f:Bool}{A1 A2:Option Addr}{n1 k1 n2 k2:Nat}(h:DtRd w B A l) (hA:∀a,A=some a->a.block≠g) (hg:w.heap[g]?=some (.cells #[.int .u64 a, .int .u64 b, .int .u32 c, .bool f, .int .i64 e, .slice A1 n1 k1, .slice A2 n2 k2] t fr)) (hk:∀k,k≠g->w'.heap[k]?=w.heap[k]?):DtRd w' B A l:=fun hn=>by
 obtain⟨b,o,e,hB,hc⟩:=h hn;refine⟨b,o,e,hB,fun j x hx=> ?_⟩;obtain⟨A',k,h1,h2,h3⟩:=hc j x hx;have hh:=hk b (hA _ e);exact⟨A',k,by rw[<-h1];simp[World.cell?,hh],h2.offS hg hk,h3⟩
section
variable {S:Nat->Prop} {w:World} {g:Nat} {L:Option Addr} {cl:Nat} {W:Option Addr} {cw:Nat} {ls ws:List Wr} {left:Int} {off:Bool}
theorem ap0 (k:Rq S w g L cl W cw ls ws left true) (i:Nat) (hi:i<=1) (N half:Nat) (hN:ls.length=N) (hh:N/2=half) (h1:1<=half) (hN2:N<=128):
 Calls Tryz.prog 121 #[.pointer (some ⟨g,0,none⟩), .int .i64 (i:Int)] w fun e w'=>e= .returned (.tuple #[skV alu none 0 none 0, .int .i64 6])/\Below w.heap.size w w':=by
 obtain⟨w1,ha1,n1,b1⟩:=adS w 127 (.int .u64 0) (.int .u64 0) (.int .u32 0) (.bool false) (.int .i64 0) (.slice none 0 0) (.slice none 0 0);have k1:=k.below b1.out;have c0:=k1.c0;rw[hN]at c0;have hlg:=k1.lt;have hhi:(N:Int)/2=(half:Int):=by omega
 obtain⟨p,hp⟩:=nmE (i*half);have hp2:p+half<=N:=by
  rcases Nat.le_one_iff_eq_zero_or_eq_one.1 hi with rfl | rfl<;>omega
 have hpi:(i:Int)*(half:Int)=(p:Int):=by rw[<-hp];exact(Int.natCast_mul i half).symm
 have HRD:=hE0 (an6 k1 p (by omega));obtain⟨wz,hz,nz,bz,⟨y0,y1,y2,y3,y4,y5,y6⟩,⟨f0,f1,f2,f3,f4,f5,f6⟩,hlz⟩:=ajX n1 (.int .u64 0) (.int .u64 0) (.int .u32 0) (.bool false) (.int .i64 0) (.slice none 0 0) (.slice none 0 0);clear k k1 hp hi;go_enter Tryz.func121,Tryz.ntmps121
 go_wp2_with (first | (rw[ha1.out]) | fail)
 refine HRD.out.mono ?_;rintro e w2 ⟨rfl,rfl⟩;go_wp2_with (first | (rw[hz.out]) | fail)
 (try simp only[Exit.inBlock,Exit.then])
 refine ahB (g:=w.heap.size) (x:= .int .i64 6) Tryz.results121 ?_ ?_ ?_ nz.out ?_
 · rfl
 · rfl
 · rfl
 · exact⟨rfl,bz.out _ _ (Nat.le_refl _) b1.out⟩
theorem arR (k:Rq S w g L cl W cw ls ws left false) (h5:All5 ls) (i:Nat) (hi:i<=1) (N half:Nat) (hN:ls.length=N) (hh:N/2=half) (h1:1<=half) (hN2:N<=128) (sk:Sk) (hsk:abw (aaW ls) (ws.map Wr.two) half i=sk) (hr:abP (aa7 (aaW ls) (ws.map Wr.two) (i*half))=false):
 Calls Tryz.prog 121 #[.pointer (some ⟨g,0,none⟩), .int .i64 (i:Int)] w fun e w'=>Looked sk w e w':=by
 obtain⟨w1,ha1,n1,b1⟩:=adS w 127 (.int .u64 0) (.int .u64 0) (.int .u32 0) (.bool false) (.int .i64 0) (.slice none 0 0) (.slice none 0 0);have k1:=k.below b1.out;have c0:=k1.c0;rw[hN]at c0;have hlg:=k1.lt;have hhi:(N:Int)/2=(half:Int):=by omega
 obtain⟨p,hp⟩:=nmE (i*half);have hp2:p+half<=N:=by
  rcases Nat.le_one_iff_eq_zero_or_eq_one.1 hi with rfl | rfl<;>omega
 have hpi:(i:Int)*(half:Int)=(p:Int):=by rw[<-hp];exact(Int.natCast_mul i half).symm
 obtain⟨y,hy⟩:∃y,ls[p]?=some y:=⟨ls[p]'(by omega),List.getElem?_eq_getElem _⟩;have hrd:=af4 k1 p y hy;obtain⟨b,hb⟩:=nmE ((aeC p y ws).d);have hbl:aa7 (aaW ls) (ws.map Wr.two) p=b:=by rw[aex ls p y h5 hy ws.length ws rfl,hb]
 rw[hb]at hrd;have HRD:=hE0 hrd;unfold abw at hsk;rw[hp,hbl]at hsk;have hb5:b.length=512:=by
  rw[<-hb];rcases ae6 p ws y with h | h
  · rw[h];exact h5 y (List.mem_of_getElem? hy)
  · exact(k.wf _ h).2.1
 rw[hp,hbl]at hr;unfold ajt at hsk;rw[if_pos hr]at hsk;subst hsk;clear k k1 hp hi h5 hy hb hbl;go_enter Tryz.func121,Tryz.ntmps121
 go_wp2_with (first | (rw[ha1.out]) | fail)
 refine HRD.out.mono ?_;rintro e w2 ⟨A2,c2,rfl,o2,b2⟩;rw[hb5]at o2;rw[hb5];have hc2:=aeE o2;unfold maxLen at hc2;have HB2:=hE0 (b1.out.trans (b2.mono b1.out.size));have HR:=hE0 (aeG w2 A2 512 c2 b (aak o2) hc2.1 (by omega) (by omega));have n2:=hE0 ((b2.block _ (aaa n1.out)).trans n1.out);clear o2 b2 HRD hc2;go_wp2_with fail
 refine HR.out.mono ?_;rintro e w3 ⟨rfl,hb3⟩;rw[<-acD b _ hr,<-acD b _ hr,<-acD b _ hr,hr];have HB3:=hE0 (HB2.out.trans (hb3.mono HB2.out.size));have n3:=hE0 ((hb3.block _ (aaa n2.out)).trans n2.out);obtain⟨w4,ha4,m4,b4⟩:=ac0 w3 125 (.int .u64 0) (.int .u64 0) (.int .u32 0);obtain⟨w5,hp5,m5,b5,⟨z0,z1,z2⟩,⟨e0,e1,e2⟩,hle⟩:=afj m4 (.int .u64 0) (.int .u64 0) (.int .u32 0);have hb5':=b5.out w3.heap.size w3 (Nat.le_refl _) b4.out;have HB5:=hE0 (HB3.out.trans (hb5'.mono HB3.out.size));have n5:=hE0 ((hb5'.block _ (aaa n3.out)).trans n3.out);clear hb3 hb5' HR;obtain⟨wz,hz,nz,bz,⟨y0,y1,y2,y3,y4,y5,y6⟩,⟨f0,f1,f2,f3,f4,f5,f6⟩,hlz⟩:=ajX n5 (.int .u64 0) (.int .u64 0) (.int .u32 0) (.bool false) (.int .i64 0) (.slice none 0 0) (.slice none 0 0);go_wp2_with (first | (rw[ha4.out]) | (rw[hp5.out]) | (rw[hz.out]) | fail)
 (try simp only[Exit.inBlock,Exit.then])
 refine ahB (g:=w.heap.size) (x:= .int .i64 0) Tryz.results121 ?_ ?_ ?_ nz.out ?_
 · rfl
 · rfl
 · rfl
 · exact Looked.plain 0 0 0 rfl (bz.out _ _ (Nat.le_refl _) HB5.out)
theorem ap1 (k:Rq S w g L cl W cw ls ws left false) (h5:All5 ls) (i:Nat) (hi:i<=1) (N half:Nat) (hN:ls.length=N) (hh:N/2=half) (h1:1<=half) (hN2:N<=128) (sk:Sk) (hsk:abw (aaW ls) (ws.map Wr.two) half i=sk) (hr:abP (aa7 (aaW ls) (ws.map Wr.two) (i*half))=true) (hf:512*(half-1)<slN (aa7 (aaW ls) (ws.map Wr.two) (i*half))):
 Calls Tryz.prog 121 #[.pointer (some ⟨g,0,none⟩), .int .i64 (i:Int)] w fun e w'=>Looked sk w e w':=by
 obtain⟨w1,ha1,n1,b1⟩:=adS w 127 (.int .u64 0) (.int .u64 0) (.int .u32 0) (.bool false) (.int .i64 0) (.slice none 0 0) (.slice none 0 0);have k1:=k.below b1.out;have c0:=k1.c0;rw[hN]at c0;have hlg:=k1.lt;have hhi:(N:Int)/2=(half:Int):=by omega
 obtain⟨p,hp⟩:=nmE (i*half);have hp2:p+half<=N:=by
  rcases Nat.le_one_iff_eq_zero_or_eq_one.1 hi with rfl | rfl<;>omega
 have hpi:(i:Int)*(half:Int)=(p:Int):=by rw[<-hp];exact(Int.natCast_mul i half).symm
 obtain⟨y,hy⟩:∃y,ls[p]?=some y:=⟨ls[p]'(by omega),List.getElem?_eq_getElem _⟩;have hrd:=af4 k1 p y hy;obtain⟨b,hb⟩:=nmE ((aeC p y ws).d);have hbl:aa7 (aaW ls) (ws.map Wr.two) p=b:=by rw[aex ls p y h5 hy ws.length ws rfl,hb]
 rw[hb]at hrd;have HRD:=hE0 hrd;unfold abw at hsk;rw[hp,hbl]at hsk;have hb5:b.length=512:=by
  rw[<-hb];rcases ae6 p ws y with h | h
  · rw[h];exact h5 y (List.mem_of_getElem? hy)
  · exact(k.wf _ h).2.1
 rw[hp,hbl]at hr hf;obtain⟨hGl,hNl⟩:=alv hr;unfold ajt at hsk;rw[if_neg (by rw[hr];decide)]at hsk;obtain⟨G,hG⟩:=nmE (slG b);obtain⟨Q,hQ⟩:=nmE (slN b);obtain⟨M,hM⟩:=nmE (slS b);obtain⟨-,e1,e2,e3⟩:=ae3 hr;rw[hG]at hGl hsk;rw[hQ]at hNl hsk hf;rw[hM]at hsk;have E1:Hid (aeO b (slG b)=G/\aeO b (slN b)=Q/\aeO b (slS b)=M/\abP b=true):=⟨by rw[e1,hG],by rw[e2,hQ],by rw[e3,hM],hr⟩;clear e1 e2 e3 hG hQ hM hr;rw[if_pos hf]at hsk;subst hsk;have gf:decide (512*((half:Int)-1)<(Q:Int))=true:=decide_eq_true (by omega);clear k k1 hp hi h5 hy hb hbl;go_enter Tryz.func121,Tryz.ntmps121
 go_wp2_with (first | (rw[ha1.out]) | fail)
 refine HRD.out.mono ?_;rintro e w2 ⟨A2,c2,rfl,o2,b2⟩;rw[hb5]at o2;rw[hb5];have hc2:=aeE o2;unfold maxLen at hc2;have HB2:=hE0 (b1.out.trans (b2.mono b1.out.size));have HR:=hE0 (aeG w2 A2 512 c2 b (aak o2) hc2.1 (by omega) (by omega));have n2:=hE0 ((b2.block _ (aaa n1.out)).trans n1.out);clear o2 b2 HRD hc2;go_wp2_with fail
 refine HR.out.mono ?_;rintro e w3 ⟨rfl,hb3⟩;rw[E1.out.1,E1.out.2.1,E1.out.2.2.1,E1.out.2.2.2];have HB3:=hE0 (HB2.out.trans (hb3.mono HB2.out.size));have n3:=hE0 ((hb3.block _ (aaa n2.out)).trans n2.out);obtain⟨w4,ha4,m4,b4⟩:=ac0 w3 125 (.int .u64 0) (.int .u64 0) (.int .u32 0);obtain⟨w5,hp5,m5,b5,⟨z0,z1,z2⟩,⟨e0,e1,e2⟩,hle⟩:=afj m4 (.int .u64 (G:Int)) (.int .u64 (Q:Int)) (.int .u32 (M:Int));have hb5':=b5.out w3.heap.size w3 (Nat.le_refl _) b4.out;have HB5:=hE0 (HB3.out.trans (hb5'.mono HB3.out.size));have n5:=hE0 ((hb5'.block _ (aaa n3.out)).trans n3.out);clear hb3 hb5' HR;obtain⟨w6,ha6,m6,b6⟩:=adS w5 127 (.int .u64 0) (.int .u64 0) (.int .u32 0) (.bool false) (.int .i64 0) (.slice none 0 0) (.slice none 0 0);obtain⟨w7,hp7,m7,b7,⟨y0,y1,y2,y3,y4,y5,y6⟩,⟨f0,f1,f2,f3,f4,f5,f6⟩,hlz⟩:=ajX m6 (.int .u64 (G:Int)) (.int .u64 (Q:Int)) (.int .u32 (M:Int)) (.bool false) (.int .i64 0) (.slice none 0 0) (.slice none 0 0);have hb57:=b7.out w5.heap.size w5 (Nat.le_refl _) b6.out;have HB7:=hE0 (HB5.out.trans (hb57.mono HB5.out.size));have n7:=hE0 ((hb57.block _ (aaa n5.out)).trans n5.out);have r7:=hE0 ((hb57.block _ (aaa m5.out)).trans m5.out);obtain⟨⟨r0,r1,r2⟩,_,hlr⟩:=abO m5.out;obtain⟨⟨t0,t1,t2⟩,_,hlt⟩:=abO r7.out;obtain⟨⟨v0,v1,v2,v3,v4,v5,v6⟩,_,hlv⟩:=acH m7.out;obtain⟨wz,hz,nz,bz,⟨u0,u1,u2,u3,u4,u5,u6⟩,⟨g0,g1,g2,g3,g4,g5,g6⟩,hlu⟩:=ajX n7 (.int .u64 (G:Int)) (.int .u64 (Q:Int)) (.int .u32 (M:Int)) (.bool false) (.int .i64 0) (.slice none 0 0) (.slice none 0 0);go_wp2_with (first | (rw[ha4.out]) | (rw[hp5.out]) | (rw[ha6.out]) | (rw[hp7.out]) | (rw[hz.out]) | fail)
 (try simp only[Exit.inBlock,Exit.then])
 refine ahB (g:=w.heap.size) (x:= .int .i64 0) Tryz.results121 ?_ ?_ ?_ nz.out ?_
 · rfl
 · rfl
 · rfl
 · exact Looked.plain G Q M rfl (bz.out _ _ (Nat.le_refl _) HB7.out)
theorem arS (k:Rq S w g L cl W cw ls ws left false) (h5:All5 ls) (i:Nat) (hi:i<=1) (N half:Nat) (hN:ls.length=N) (hh:N/2=half) (h1:1<=half) (hN2:N<=128) (sk:Sk) (hsk:abw (aaW ls) (ws.map Wr.two) half i=sk) (hr:abP (aa7 (aaW ls) (ws.map Wr.two) (i*half))=true) (hf:¬512*(half-1)<slN (aa7 (aaW ls) (ws.map Wr.two) (i*half))):
 Calls Tryz.prog 121 #[.pointer (some ⟨g,0,none⟩), .int .i64 (i:Int)] w fun e w'=>Looked sk w e w':=by
 obtain⟨w1,ha1,n1,b1⟩:=adS w 127 (.int .u64 0) (.int .u64 0) (.int .u32 0) (.bool false) (.int .i64 0) (.slice none 0 0) (.slice none 0 0);have k1:=k.below b1.out;have c0:=k1.c0;rw[hN]at c0;have hlg:=k1.lt;have hhi:(N:Int)/2=(half:Int):=by omega
 obtain⟨p,hp⟩:=nmE (i*half);have hp2:p+half<=N:=by
  rcases Nat.le_one_iff_eq_zero_or_eq_one.1 hi with rfl | rfl<;>omega
 have hpi:(i:Int)*(half:Int)=(p:Int):=by rw[<-hp];exact(Int.natCast_mul i half).symm
 obtain⟨y,hy⟩:∃y,ls[p]?=some y:=⟨ls[p]'(by omega),List.getElem?_eq_getElem _⟩;have hrd:=af4 k1 p y hy;obtain⟨b,hb⟩:=nmE ((aeC p y ws).d);have hbl:aa7 (aaW ls) (ws.map Wr.two) p=b:=by rw[aex ls p y h5 hy ws.length ws rfl,hb]
 rw[hb]at hrd;have HRD:=hE0 hrd;unfold abw at hsk;rw[hp,hbl]at hsk;have hb5:b.length=512:=by
  rw[<-hb];rcases ae6 p ws y with h | h
  · rw[h];exact h5 y (List.mem_of_getElem? hy)
  · exact(k.wf _ h).2.1
 rw[hp,hbl]at hr hf;obtain⟨hGl,hNl⟩:=alv hr;unfold ajt at hsk;rw[if_neg (by rw[hr];decide)]at hsk;obtain⟨G,hG⟩:=nmE (slG b);obtain⟨Q,hQ⟩:=nmE (slN b);obtain⟨M,hM⟩:=nmE (slS b);obtain⟨-,e1,e2,e3⟩:=ae3 hr;rw[hG]at hGl hsk;rw[hQ]at hNl hsk hf;rw[hM]at hsk;have E1:Hid (aeO b (slG b)=G/\aeO b (slN b)=Q/\aeO b (slS b)=M/\abP b=true):=⟨by rw[e1,hG],by rw[e2,hQ],by rw[e3,hM],hr⟩;clear e1 e2 e3 hG hQ hM hr;rw[if_neg hf]at hsk;have gf:decide (512*((half:Int)-1)<(Q:Int))=false:=decide_eq_false (by omega);obtain⟨K,hK⟩:=nmE (need Q);have hfit:p+1+K<=ls.length:=by unfold need at hK;omega
 have hfits:am4 (aaW ls).length (ws.map Wr.two):=fun x hx=>by
  obtain⟨z,hz,rfl⟩:=List.mem_map.1 hx;have h2:=(k.wf z hz);rw[abG ls h5];exact⟨by unfold Wr.two;dsimp only;omega,h2.2.1⟩
 dsimp only at hsk;rw[hK]at hsk;obtain⟨o,ho⟩:=nmE ((ac2 (aaW ls) (ws.map Wr.two) (p+1) K).take Q);have hol:o.length=Q:=by
  rw[<-ho,List.length_take,aed _ _ _ hfits _ (by rw[abG ls h5];omega)];unfold need at hK;omega
 have HIN:=hE0 (fun V (hV:Below w.heap.size w V)=>arH (k.below hV) h5 (by omega) (p+1) Q K hK hfit (fun e=>by cases e) o ho hol);rw[ho]at hsk;obtain⟨Γ,hΓ⟩:=nmE (acO o);rw[hΓ]at hsk;unfold apb at hsk;obtain⟨sm,hsm⟩:=nmE (abn 0 o);rw[hsm]at hsk;have HSM:=hE0 hsm;have HΓ:=hE0 hΓ;have HOL:=hE0 hol;have hQi:Hid (((p:Int)+1)=((p+1:Nat):Int)):=(show _=_ from rfl);clear k k1 hp hi h5 hy hb hbl hfits ho hK hfit hΓ hol hsm;go_enter Tryz.func121,Tryz.ntmps121
 go_wp2_with (first | (rw[ha1.out]) | fail)
 refine HRD.out.mono ?_;rintro e w2 ⟨A2,c2,rfl,o2,b2⟩;rw[hb5]at o2;rw[hb5];have hc2:=aeE o2;unfold maxLen at hc2;have HB2:=hE0 (b1.out.trans (b2.mono b1.out.size));have HR:=hE0 (aeG w2 A2 512 c2 b (aak o2) hc2.1 (by omega) (by omega));have n2:=hE0 ((b2.block _ (aaa n1.out)).trans n1.out);clear o2 b2 HRD hc2;go_wp2_with fail
 refine HR.out.mono ?_;rintro e w3 ⟨rfl,hb3⟩;rw[E1.out.1,E1.out.2.1,E1.out.2.2.1,E1.out.2.2.2];have HB3:=hE0 (HB2.out.trans (hb3.mono HB2.out.size));have n3:=hE0 ((hb3.block _ (aaa n2.out)).trans n2.out);obtain⟨w4,ha4,m4,b4⟩:=ac0 w3 125 (.int .u64 0) (.int .u64 0) (.int .u32 0);obtain⟨w5,hp5,m5,b5,⟨z0,z1,z2⟩,⟨e0,e1,e2⟩,hle⟩:=afj m4 (.int .u64 (G:Int)) (.int .u64 (Q:Int)) (.int .u32 (M:Int));have hb5':=b5.out w3.heap.size w3 (Nat.le_refl _) b4.out;have HB5:=hE0 (HB3.out.trans (hb5'.mono HB3.out.size));have n5:=hE0 ((hb5'.block _ (aaa n3.out)).trans n3.out);clear hb3 hb5' HR;obtain⟨w6,ha6,m6,b6⟩:=adS w5 127 (.int .u64 0) (.int .u64 0) (.int .u32 0) (.bool false) (.int .i64 0) (.slice none 0 0) (.slice none 0 0);obtain⟨w7,hp7,m7,b7,⟨y0,y1,y2,y3,y4,y5,y6⟩,⟨f0,f1,f2,f3,f4,f5,f6⟩,hlz⟩:=ajX m6 (.int .u64 (G:Int)) (.int .u64 (Q:Int)) (.int .u32 (M:Int)) (.bool false) (.int .i64 0) (.slice none 0 0) (.slice none 0 0);have hb57:=b7.out w5.heap.size w5 (Nat.le_refl _) b6.out;have HB7:=hE0 (HB5.out.trans (hb57.mono HB5.out.size));have n7:=hE0 ((hb57.block _ (aaa n5.out)).trans n5.out);have r7:=hE0 ((hb57.block _ (aaa m5.out)).trans m5.out);obtain⟨⟨r0,r1,r2⟩,_,hlr⟩:=abO m5.out;obtain⟨⟨t0,t1,t2⟩,_,hlt⟩:=abO r7.out;go_wp2_with (first | (rw[ha4.out]) | (rw[hp5.out]) | (rw[ha6.out]) | (rw[hp7.out]) | fail)
 clear z0 z1 z2 e0 e1 e2 hle y0 y1 y2 y3 y4 y5 y6 f0 f1 f2 f3 f4 f5 f6 hlz r0 r1 r2 hlr t0 t1 t2 hlt c0 gf hrd;have hin:=HIN.out w7 HB7.out;rw[hQi.out];refine hin.mono ?_;rintro e w8 ⟨A8,c8,rfl,o8,b8⟩;rw[HOL.out]at o8;rw[HOL.out];have hc8:=aeE o8;unfold maxLen at hc8;have HB8:=hE0 (HB7.out.trans (b8.mono HB7.out.size));have HR8:=hE0 (aak o8);have hget:=aod w8 A8 Q c8 w8.heap.size o (aak o8) (Nat.le_refl _) hc8.1 (by omega) (by omega);rw[HΓ.out]at hget;have HGET:=hE0 hget;have n8:=hE0 ((b8.block _ (aaa n7.out)).trans n7.out);have m8:=hE0 ((b8.block _ (aaa m7.out)).trans m7.out);have r8:=hE0 ((b8.block _ (aaa r7.out)).trans r7.out);clear hin o8 b8 hget hc8 HIN;go_wp2_with fail
 refine HGET.out.mono ?_;rintro e w9 ⟨A9,B9,a9,c9,rfl,hr9,hd9,hA9,b9⟩;obtain⟨kd,im,il,id⟩:=Γ;dsimp only at hr9 hd9 hsk;dsimp only;have HIM:=hE0 (And.intro hr9 hd9);have HA9:Hid (∀a,B9=some a->a.block≠w5.heap.size):=(show ∀a,_->_ from fun a e=>by have:=hA9 a e;have:=aaa m8.out;omega);have HA9c:Hid (∀a,B9=some a->w.heap.size<=a.block):=(show ∀a,_->_ from fun a e=>Nat.le_trans HB8.out.size (hA9 a e));have HA9b:Hid (∀a,B9=some a->a.block≠w.heap.size):=(show ∀a,_->_ from fun a e=>by have:=hA9 a e;have:=aaa n8.out;omega);obtain⟨i1,hi1⟩:=nmE il.length;obtain⟨i2,hi2⟩:=nmE id.length;rw[hi1,hi2];have HI1:=hE0 hi1;have HI2:=hE0 hi2;obtain⟨wa,ha10,m10,b10⟩:=ac0 w9 59 (.int .i64 0) (.slice none 0 0) (.slice none 0 0);obtain⟨wb,hp11,m11,b11,⟨z0,z1,z2⟩,⟨e0,e1,e2⟩,hle⟩:=afj m10 (.int .i64 (im:Int)) (.slice A9 i1 a9) (.slice B9 i2 c9);have hb911:=b11.out w9.heap.size w9 (Nat.le_refl _) b10.out;have hb811:=b9.trans (hb911.mono b9.size);have HB11:=hE0 (HB8.out.trans (hb811.mono HB8.out.size));have n11:=hE0 ((hb811.block _ (aaa n8.out)).trans n8.out);have q11:=hE0 ((hb811.block _ (aaa m8.out)).trans m8.out);have r11:=hE0 ((hb811.block _ (aaa r8.out)).trans r8.out);have HR11:=hE0 ((HR8.out.below hb811).more hb811.size);have HIM11:Hid (RkRd wb wb.heap.size A9 il/\DtRd wb wb.heap.size B9 id):=⟨(HIM.out.1.below hb911).more hb911.size,(HIM.out.2.below hb911).more hb911.size⟩;have hbw:Hid (w5.heap.size<w9.heap.size):=(show _<_ from Nat.lt_of_lt_of_le (aaa m8.out) b9.size);clear hr9 hd9 hA9 b9 hb911 hb811 hi1 hi2 HGET HIM;by_cases hk0:kd=0
 · subst hk0;have gk:(((0:Nat):Int)==0)=true:=rfl;obtain⟨y,gs⟩:=nmE (((sm:Int)==(M:Int)));have hys:y=true ↔ sm=M:=by rw[<-gs,beq_iff_eq];omega
   have HYS:=hE0 hys;have HSK:=hE0 hsk;clear hys hsk;go_wp2_with (first | (rw[ha10.out]) | (rw[hp11.out]) | fail)
   clear z0 z1 z2 e0 e1 e2 hle;obtain⟨wd,hwd⟩:=nmE wb.drew;have hbd:=adE hwd;have n12:=hE0 ((hbd.block _ (aaa n11.out)).trans n11.out);have q12:=hE0 ((hbd.block _ (aaa q11.out)).trans q11.out);have r12:=hE0 ((hbd.block _ (aaa r11.out)).trans r11.out);have m12:=hE0 ((hbd.block _ (aaa m11.out)).trans m11.out);have HB12:=hE0 (HB11.out.trans (hbd.mono HB11.out.size));have HIM12:Hid (RkRd wd wd.heap.size A9 il/\DtRd wd wd.heap.size B9 id):=⟨(HIM11.out.1.below hbd).more hbd.size,(HIM11.out.2.below hbd).more hbd.size⟩;have hsum:=aen A8 Q c8 wd.heap.size o wd ((HR11.out.below hbd).more hbd.size) (by omega);rw[HSM.out]at hsum;have HSUM:=hE0 hsum;refine aad wd.heap.size [([0,1,2,3,5,6],4)] [7,8] [] (by kernel_rfl) (by kernel_rfl) (by kernel_rfl) (fun _ _ _ _ _ h=>h) ?_;rw[hwd];clear hwd hbd hsum;obtain⟨⟨t0,t1,t2⟩,_,hlt⟩:=abO r12.out;have q2:=tfE t2 hlt;refine tail_cons (l:= ?segA) ?hsegA ?_
   case hsegA=>simp only[pick,lE1,lE2,lE3];rfl
   repeat (go_big_quiet_step (fail))
   refine wpQuiet_nil ?_;clear q2 t0 t1 t2 hlt;refine aas (vs:= #[.slice A8 Q c8]) Tryz.call65 rfl rfl rfl (R:=fun r w'=>r= .int .u32 (sm:Int)/\wd=w') (HSUM.out.mono ?_) ?_
   · rintro e w' ⟨rfl,rfl⟩;exact⟨_,rfl,Below.refl _ _,rfl,rfl⟩
   rintro r w' _ ⟨rfl,rfl⟩;refine⟨wd.heap.size,Nat.le_refl _,?_⟩;simp only[Act.put,lE4,lE5,lE6];refine aam (l:= ?lastB) (t:= []) ?hlastB rfl ?_
   case hlastB=>simp only[pick,lE1,lE2,lE3];rfl
   repeat (go_big_quiet_step (fail))
   refine wpQuiet_nil ?_;obtain⟨⟨v0,v1,v2,v3,v4,v5,v6⟩,⟨x0,x1,x2,x3,x4,x5,x6⟩,hlv⟩:=acH q12.out
   cases y with
   | false=>
    have hsk:=HSK.out;rw[if_neg (fun h=>by have:=HYS.out.2 h.2;cases this)]at hsk;subst hsk;obtain⟨wz,hz,nz,bz,⟨u0,u1,u2,u3,u4,u5,u6⟩,⟨g0,g1,g2,g3,g4,g5,g6⟩,hlu⟩:=ajX n12 (.int .u64 (G:Int)) (.int .u64 (Q:Int)) (.int .u32 (M:Int)) (.bool false) (.int .i64 0) (.slice none 0 0) (.slice none 0 0);go_wp2_with (first | (rw[hz.out]) | fail)
    (try simp only[Exit.inBlock,Exit.then])
    refine ahB (g:=w.heap.size) (x:= .int .i64 0) Tryz.results121 ?_ ?_ ?_ nz.out ?_
    · rfl
    · rfl
    · rfl
    · exact Looked.plain G Q M rfl (bz.out _ _ (Nat.le_refl _) HB12.out)
   | true=>
    have hsk:=HSK.out;rw[if_pos ⟨trivial,HYS.out.1 rfl⟩]at hsk;subst hsk;obtain⟨xa,hxa⟩:=nmE (wd.setCell ⟨w5.heap.size,3,none⟩ (.bool true));have ra:(_:Option Obj)=some (.cells #[.int .u64 (G:Int), .int .u64 (Q:Int), .int .u32 (M:Int), .bool true, .int .i64 0, .slice none 0 0, .slice none 0 0] 127 (0,0)):=heap_setCell_same wd w5.heap.size 3 _ _ (.bool true) q12.out;rw[hxa]at ra;have ma:xa.heap[w9.heap.size]?=some (.cells #[.int .i64 (im:Int), .slice A9 i1 a9, .slice B9 i2 c9] 59 (0,0)):=by rw[<-hxa,heap_setCell_other _ _ _ _ (show w9.heap.size≠w5.heap.size from Nat.ne_of_gt hbw.out)];exact m12.out
    obtain⟨⟨z0,z1,z2⟩,_,hlz⟩:=abO ma;obtain⟨_,⟨g0,g1,g2,g3,g4,g5,g6⟩,hla⟩:=acH ra;obtain⟨xb,hxb⟩:=nmE (((xa.setCell ⟨w5.heap.size,4,none⟩ (.int .i64 (im:Int))).setCell ⟨w5.heap.size,5,none⟩ (.slice A9 i1 a9)).setCell ⟨w5.heap.size,6,none⟩ (.slice B9 i2 c9));have rb1:(_:Option Obj)=some (.cells #[.int .u64 (G:Int), .int .u64 (Q:Int), .int .u32 (M:Int), .bool true, .int .i64 (im:Int), .slice none 0 0, .slice none 0 0] 127 (0,0)):=heap_setCell_same _ w5.heap.size 4 _ _ (.int .i64 (im:Int)) ra;have rb2:(_:Option Obj)=some (.cells #[.int .u64 (G:Int), .int .u64 (Q:Int), .int .u32 (M:Int), .bool true, .int .i64 (im:Int), .slice A9 i1 a9, .slice none 0 0] 127 (0,0)):=heap_setCell_same _ w5.heap.size 5 _ _ (.slice A9 i1 a9) rb1;have rb:(_:Option Obj)=some (.cells #[.int .u64 (G:Int), .int .u64 (Q:Int), .int .u32 (M:Int), .bool true, .int .i64 (im:Int), .slice A9 i1 a9, .slice B9 i2 c9] 127 (0,0)):=heap_setCell_same _ w5.heap.size 6 _ _ (.slice B9 i2 c9) rb2;rw[hxb]at rb;have hkb:∀k,k≠w5.heap.size->xb.heap[k]?=wd.heap[k]?:=fun k hk=>by
     rw[<-hxb,heap_setCell_other _ _ _ _ hk,heap_setCell_other _ _ _ _ hk,heap_setCell_other _ _ _ _ hk,<-hxa,heap_setCell_other _ _ _ _ hk]
    have hbb:Below w.heap.size w xb:=by
     have hle:w.heap.size<=w5.heap.size:=HB5.out.size;rw[<-hxb,<-hxa];exact(((HB12.out.setCell (p:=⟨w5.heap.size,3,none⟩) hle _).setCell (p:=⟨w5.heap.size,4,none⟩) hle _).setCell (p:=⟨w5.heap.size,5,none⟩) hle _).setCell (p:=⟨w5.heap.size,6,none⟩) hle _
    have hs:xb.heap.size=wd.heap.size:=by rw[<-hxb,<-hxa];simp[World.setCell]
    have nb:=hE0 ((hkb w.heap.size (Nat.ne_of_lt (aaa n5.out))).trans n12.out);obtain⟨⟨p0,p1,p2,p3,p4,p5,p6⟩,_,hlp⟩:=acH rb;obtain⟨wz,hz,nz,bz,⟨u0,u1,u2,u3,u4,u5,u6⟩,⟨o0,o1,o2,o3,o4,o5,o6⟩,hlu⟩:=ajX nb (.int .u64 (G:Int)) (.int .u64 (Q:Int)) (.int .u32 (M:Int)) (.bool true) (.int .i64 (im:Int)) (.slice A9 i1 a9) (.slice B9 i2 c9);have HFIN:Hid (RkRd wz wz.heap.size A9 il/\DtRd wz wz.heap.size B9 id):=by
     have hz2:wz.heap.size=wd.heap.size:=by rw[<-hz.out,<-hs];simp[World.setCell]
     have hk2:∀k,k≠w.heap.size->wz.heap[k]?=xb.heap[k]?:=fun k hk=>by
      rw[<-hz.out,heap_setCell_other _ _ _ _ hk,heap_setCell_other _ _ _ _ hk,heap_setCell_other _ _ _ _ hk,heap_setCell_other _ _ _ _ hk,heap_setCell_other _ _ _ _ hk,heap_setCell_other _ _ _ _ hk,heap_setCell_other _ _ _ _ hk]
     rw[hz2];exact⟨(HIM12.out.1.offS q12.out hkb).offS nb.out hk2,(HIM12.out.2.offS HA9.out q12.out hkb).offS (fun a e=>HA9b.out a e) nb.out hk2⟩
    have HBZ:=hE0 (bz.out _ _ (Nat.le_refl _) hbb);have HXA:=hE0 hxa;have HXB:=hE0 hxb;clear hxa hxb rb1 rb2 rb ra ma hkb hbb hs;go_wp2_with (first | (rw[HXA.out]) | (rw[HXB.out]) | (rw[hz.out]) | fail)
    (try simp only[Exit.inBlock,Exit.then])
    refine ahB (g:=w.heap.size) (x:= .int .i64 0) Tryz.results121 ?_ ?_ ?_ nz.out ?_
    · rfl
    · rfl
    · rfl
    · exact⟨A9,a9,B9,c9,by unfold skV;dsimp only;rw[HI1.out,HI2.out],HFIN.out.1,HFIN.out.2,HA9c.out,HBZ.out⟩
 · have gk:((kd:Int)==0)=false:=by rw[beq_eq_false_iff_ne];omega
   rw[if_neg (fun h=>hk0 h.1)]at hsk;subst hsk;go_wp2_with (first | (rw[ha10.out]) | (rw[hp11.out]) | fail)
   go_quiet (fail)
   obtain⟨wk,hwk⟩:=nmE (wb.drewN nq);have hbk:Below wb.heap.size wb wk:=by rw[<-hwk];exact ade _ _
   have n12:=hE0 ((hbk.block _ (aaa n11.out)).trans n11.out);obtain⟨⟨v0,v1,v2,v3,v4,v5,v6⟩,_,hlv⟩:=acH ((hbk.block _ (aaa q11.out)).trans q11.out);have HB12:=hE0 (HB11.out.trans (hbk.mono HB11.out.size));rw[hwk];clear hwk hbk;obtain⟨wz,hz,nz,bz,⟨u0,u1,u2,u3,u4,u5,u6⟩,⟨g0,g1,g2,g3,g4,g5,g6⟩,hlu⟩:=ajX n12 (.int .u64 (G:Int)) (.int .u64 (Q:Int)) (.int .u32 (M:Int)) (.bool false) (.int .i64 0) (.slice none 0 0) (.slice none 0 0);clear z0 z1 z2 e0 e1 e2 hle;go_wp2_with (first | (rw[hz.out]) | fail)
   (try simp only[Exit.inBlock,Exit.then])
   refine ahB (g:=w.heap.size) (x:= .int .i64 0) Tryz.results121 ?_ ?_ ?_ nz.out ?_
   · rfl
   · rfl
   · rfl
   · exact Looked.plain G Q M rfl (bz.out _ _ (Nat.le_refl _) HB12.out)
theorem alw (k:Rq S w g L cl W cw ls ws left false) (h5:All5 ls) (i:Nat) (hi:i<=1) (N half:Nat) (hN:ls.length=N) (hh:N/2=half) (h1:1<=half) (hN2:N<=128) (sk:Sk) (hsk:abw (aaW ls) (ws.map Wr.two) half i=sk):
 Calls Tryz.prog 121 #[.pointer (some ⟨g,0,none⟩), .int .i64 (i:Int)] w fun e w'=>Looked sk w e w':=by
 cases hr:abP (aa7 (aaW ls) (ws.map Wr.two) (i*half))with
 | false=>exact arR k h5 i hi N half hN hh h1 hN2 sk hsk hr
 | true=>
  by_cases hf:512*(half-1)<slN (aa7 (aaW ls) (ws.map Wr.two) (i*half))
  · exact ap1 k h5 i hi N half hN hh h1 hN2 sk hsk hr hf
  · exact arS k h5 i hi N half hN hh h1 hN2 sk hsk hr hf
end
def aeg (x y:Sk):Int:=if x.ok=true/\(y.ok=false\/y.G<=x.G) then 0 else if y.ok=true then 1 else-1
def aku (s:Sk) (A1:Option Addr) (c1:Nat) (A2:Option Addr) (c2:Nat):List Value:= [.int .u64 (s.G:Int), .int .u64 (s.N:Int), .int .u32 (s.S:Int), .bool s.ok, .int .i64 (s.n:Int), .slice A1 s.l.length c1, .slice A2 s.d.length c2]
def arT (x y:Sk) (w:World) (e:Ending) (w':World):Prop:=
 ∃r A1 c1 A2 c2 B1 k1 B2 k2,e= .returned (.tuple #[.int .i64 (aeg x y), .slice (some ⟨r,0,none⟩) 2 2, .int .i64 0])/\
  w'.heap[r]?=some (.cells (aku x A1 c1 A2 c2++aku y B1 k1 B2 k2).toArray 127 (0,0))/\w.heap.size<=r/\(∀a,A2=some a->w.heap.size<=a.block)/\(∀a,B2=some a->w.heap.size<=a.block)/\
  (RkRd w' w'.heap.size A1 x.l/\DtRd w' w'.heap.size A2 x.d)/\(RkRd w' w'.heap.size B1 y.l/\DtRd w' w'.heap.size B2 y.d)/\Below w.heap.size w w'
section
variable {S:Nat->Prop} {w:World} {g:Nat} {L:Option Addr} {cl:Nat} {W:Option Addr} {cw:Nat} {ls ws:List Wr} {left:Int} {off:Bool}
theorem asm (k:Rq S w g L cl W cw ls ws left true) (N half:Nat) (hN:ls.length=N) (hh:N/2=half) (h1:1<=half) (hN2:N<=128):
 Calls Tryz.prog 62 #[.pointer (some ⟨g,0,none⟩)] w fun e w'=>e= .returned (.tuple #[.int .i64 (-1), .slice none 0 0, .int .i64 6])/\Below w.heap.size w w':=by
 have HL:=hE0 (ap0 k 0 (by omega) N half hN hh h1 hN2);clear k;unfold skV alu at HL;go_enter Tryz.func62,Tryz.ntmps62
 go_wp2_with fail
 refine HL.out.mono ?_;rintro e w1 ⟨rfl,hb1⟩;obtain⟨w2,ha2,n2,b2⟩:=adS w1 127 (.int .u64 0) (.int .u64 0) (.int .u32 0) (.bool false) (.int .i64 0) (.slice none 0 0) (.slice none 0 0);obtain⟨w3,hp3,n3,b3,⟨y0,y1,y2,y3,y4,y5,y6⟩,⟨f0,f1,f2,f3,f4,f5,f6⟩,hlz⟩:=ajX n2 (.int .u64 0) (.int .u64 0) (.int .u32 0) (.bool false) (.int .i64 0) (.slice none 0 0) (.slice none 0 0);have HF:=hE0 (hb1.trans ((b3.out _ _ (Nat.le_refl _) b2.out).mono hb1.size));clear hb1 HL;dsimp only[List.length_nil];go_wp2_with (first | (rw[ha2.out]) | (rw[hp3.out]) | fail)
 go_ret3
 exact⟨rfl,HF.out⟩
theorem ahC (k:Rq S w g L cl W cw ls ws left false) (h5:All5 ls) (N half:Nat) (hN:ls.length=N) (hh:N/2=half) (h1:1<=half) (hN2:N<=128) (x y:Sk) (hx:abw (aaW ls) (ws.map Wr.two) half 0=x) (hy:abw (aaW ls) (ws.map Wr.two) half 1=y):
 Calls Tryz.prog 62 #[.pointer (some ⟨g,0,none⟩)] w fun e w'=>arT x y w e w':=by
 have HX:=hE0 (alw k h5 0 (by omega) N half hN hh h1 hN2 x hx);have HY:=hE0 (fun V (hV:Below w.heap.size w V)=>alw (k.below hV) h5 1 (by omega) N half hN hh h1 hN2 y hy);clear k hx hy h5 hN hh h1 hN2;go_enter Tryz.func62,Tryz.ntmps62
 go_wp2_with fail
 refine HX.out.mono ?_;rintro e w1 ⟨A1,c1,A2,c2,rfl,hr1,hd1,hA1,hb1⟩;obtain⟨xG,xN,xS,xo,xn,xl,xd⟩:=x;unfold skV;dsimp only at hr1 hd1;dsimp only;obtain⟨w2,ha2,n2,b2⟩:=adS w1 127 (.int .u64 0) (.int .u64 0) (.int .u32 0) (.bool false) (.int .i64 0) (.slice none 0 0) (.slice none 0 0);obtain⟨w3,hp3,n3,b3,⟨y0,y1,y2,y3,y4,y5,y6⟩,⟨f0,f1,f2,f3,f4,f5,f6⟩,hlz⟩:=ajX n2 (.int .u64 (xG:Int)) (.int .u64 (xN:Int)) (.int .u32 (xS:Int)) (.bool xo) (.int .i64 (xn:Int)) (.slice A1 xl.length c1) (.slice A2 xd.length c2);have hb13:=b3.out _ _ (Nat.le_refl _) b2.out;have HB3:=hE0 (hb1.trans (hb13.mono hb1.size));have HA1:Hid (∀a,A2=some a->w.heap.size<=a.block):=hA1;have HI3:Hid (RkRd w3 w3.heap.size A1 xl/\DtRd w3 w3.heap.size A2 xd):=⟨(hr1.below hb13).more hb13.size,(hd1.below hb13).more hb13.size⟩;clear hr1 hd1 hA1 hb1 hb13 HX;go_wp2_with (first | (rw[ha2.out]) | (rw[hp3.out]) | fail)
 clear y0 y1 y2 y3 y4 y5 y6 f0 f1 f2 f3 f4 f5 f6 hlz;refine(HY.out w3 HB3.out).mono ?_;rintro e w4 ⟨B1,k1,B2,k2,rfl,hr4,hd4,hA4,hb4⟩;obtain⟨yG,yN,yS,yo,yn,yl,yd⟩:=y;unfold skV;dsimp only at hr4 hd4;dsimp only;obtain⟨w5,ha5,n5,b5⟩:=adS w4 127 (.int .u64 0) (.int .u64 0) (.int .u32 0) (.bool false) (.int .i64 0) (.slice none 0 0) (.slice none 0 0);obtain⟨w6,hp6,n6,b6,⟨y0,y1,y2,y3,y4,y5,y6⟩,⟨f0,f1,f2,f3,f4,f5,f6⟩,hlz⟩:=ajX n5 (.int .u64 (yG:Int)) (.int .u64 (yN:Int)) (.int .u32 (yS:Int)) (.bool yo) (.int .i64 (yn:Int)) (.slice B1 yl.length k1) (.slice B2 yd.length k2);have hb46:=b6.out _ _ (Nat.le_refl _) b5.out;have hb36:=hb4.trans (hb46.mono hb4.size);have HB6:=hE0 (HB3.out.trans (hb36.mono HB3.out.size));have x6:=(hb36.block _ (aaa n3.out)).trans n3.out;obtain⟨w7,hw7⟩:=nmE (w6.alloc (.cells #[.int .u64 (xG:Int), .int .u64 (xN:Int), .int .u32 (xS:Int), .bool xo, .int .i64 (xn:Int), .slice A1 xl.length c1, .slice A2 xd.length c2, .int .u64 (yG:Int), .int .u64 (yN:Int), .int .u32 (yS:Int), .bool yo, .int .i64 (yn:Int), .slice B1 yl.length k1, .slice B2 yd.length k2] 127));have hb7:=abE hw7;have n7:=anE hw7;have hb67:=hb36.trans (hb7.mono hb36.size);have HFIN:Hid ((w7.heap[w6.heap.size]?=some (.cells #[.int .u64 (xG:Int), .int .u64 (xN:Int), .int .u32 (xS:Int), .bool xo, .int .i64 (xn:Int), .slice A1 xl.length c1, .slice A2 xd.length c2, .int .u64 (yG:Int), .int .u64 (yN:Int), .int .u32 (yS:Int), .bool yo, .int .i64 (yn:Int), .slice B1 yl.length k1, .slice B2 yd.length k2] 127 (0,0)))/\w.heap.size<=w6.heap.size/\(∀a,A2=some a->w.heap.size<=a.block)/\(∀a,B2=some a->w.heap.size<=a.block)/\(RkRd w7 w7.heap.size A1 xl/\DtRd w7 w7.heap.size A2 xd)/\(RkRd w7 w7.heap.size B1 yl/\DtRd w7 w7.heap.size B2 yd)/\Below w.heap.size w w7):=
  ⟨n7,HB6.out.size,HA1.out,(fun a e=>Nat.le_trans HB3.out.size (hA4 a e)),⟨(HI3.out.1.below hb67).more hb67.size,(HI3.out.2.below hb67).more hb67.size⟩,⟨(hr4.below (hb46.trans (hb7.mono hb46.size))).more (Nat.le_trans hb46.size hb7.size),(hd4.below (hb46.trans (hb7.mono hb46.size))).more (Nat.le_trans hb46.size hb7.size)⟩,HB6.out.trans (hb7.mono HB6.out.size)⟩
 obtain⟨⟨p0,p1,p2,p3,p4,p5,p6⟩,_,hlp⟩:=acH x6;obtain⟨⟨q0,q1,q2,q3,q4,q5,q6⟩,_,hlq⟩:=acH n6.out;obtain⟨⟨r0,r1,r2,r3,r4,r5,r6⟩,_,hlr⟩:=acH ((hb7.block _ hlp).trans x6);obtain⟨⟨s0,s1,s2,s3,s4,s5,s6⟩,_,hls⟩:=acH ((hb7.block _ hlq).trans n6.out);have HW7:=hE0 hw7;clear hr4 hd4 hA4 hb4 hb46 hb36 hb67 x6 n7 hb7 hw7 HY;have HNEW:∀v,aeg ⟨xG,xN,xS,xo,xn,xl,xd⟩ ⟨yG,yN,yS,yo,yn,yl,yd⟩=v->arT ⟨xG,xN,xS,xo,xn,xl,xd⟩ ⟨yG,yN,yS,yo,yn,yl,yd⟩ w (.returned (.tuple #[.int .i64 v, .slice (some ⟨w6.heap.size,0,none⟩) 2 2, .int .i64 0])) w7:=fun v hv=>by
  subst hv;obtain⟨h1,h2,h3,h4,h5,h6,h7⟩:=HFIN.out;exact⟨w6.heap.size,A1,c1,A2,c2,B1,k1,B2,k2,rfl,h1,h2,h3,h4,h5,h6,h7⟩
 have HNEW:=hE0 HNEW;by_cases hge:yG<=xG
 · have gg:decide ((yG:Int)<=(xG:Int))=true:=decide_eq_true (by omega)
   cases xo<;>cases yo;all_goals
    go_wp2_with (first | (rw[ha5.out]) | (rw[hp6.out]) | (rw[HW7.out]) | fail)
    go_ret3
    first | exact HNEW.out 0 (by simp[aeg,hge]) | exact HNEW.out 1 (by simp[aeg,hge]) | exact HNEW.out (-1) (by simp[aeg,hge])
 · have gg:decide ((yG:Int)<=(xG:Int))=false:=decide_eq_false (by omega)
   cases xo<;>cases yo;all_goals
    go_wp2_with (first | (rw[ha5.out]) | (rw[hp6.out]) | (rw[HW7.out]) | fail)
    go_ret3
    first | exact HNEW.out 0 (by simp[aeg,hge]) | exact HNEW.out 1 (by simp[aeg,hge]) | exact HNEW.out (-1) (by simp[aeg,hge])
def aco (x y:Sk) (base:Nat) (cap:Int):Nat × Nat × List Rk × List (List UInt8):=
 if aeg x y<0 then (8,0,[],[]) else
 if ¬(base%16=0/\base<=4611686018427387904/\1024<=cap/\cap<=16384) then (1,0,[],[]) else
 if aeg x y=0 then (if cap<(x.n:Int) then (10,0,[],[]) else (0,x.n,x.l,x.d)) else (if cap<(y.n:Int) then (10,0,[],[]) else (0,y.n,y.l,y.d))
theorem adw (x y:Sk):aeg x y= -1\/aeg x y=0\/aeg x y=1:=by
 unfold aeg;split
 · exact .inr (.inl rfl)
 · split
   · exact .inr (.inr rfl)
   · exact .inl rfl
theorem atK (base:Nat) (cap:Int):∃b:Bool,(∀W,Calls Tryz.prog 73 #[.int .u64 (base:Int), .int .i64 cap] W fun e w'=>e= .returned (.bool b)/\W=w')/\(b=true ↔ (base%16=0/\base<=4611686018427387904/\1024<=cap/\cap<=16384)):=by
 by_cases h:base%16=0/\base<=4611686018427387904/\1024<=cap/\cap<=16384
 · refine⟨true,fun W=> ?_,by simp[h]⟩;obtain⟨h1,h2,h3,h4⟩:=h;obtain⟨c,rfl⟩:∃c:Nat,cap=(c:Int):=⟨cap.toNat,by omega⟩;exact arr W base c h1 h2 (by omega) (by omega)
 · have h':base%16≠0\/4611686018427387904<base\/cap<1024\/16384<cap:=by omega
   exact⟨false,fun W=>asr W base cap h',by simp[h]⟩
theorem akv{w w':World}{g:Nat}{A1 A2:Option Addr}{l:List Rk}{d:List (List UInt8)}{t:TypeId}(h:RkRd w w.heap.size A1 l/\DtRd w w.heap.size A2 d) (hA:∀a,A2=some a->a.block≠g) (hg:w.heap[g]?=some (.cells #[.int .i64 0, .slice none 0 0, .slice none 0 0] t (0,0))) (hs:w'.heap.size=w.heap.size) (hk:∀k,k≠g->w'.heap[k]?=w.heap[k]?):RkRd w' w'.heap.size A1 l/\DtRd w' w'.heap.size A2 d:=by
 rw[hs];refine⟨h.1.off hg hk,fun hn=> ?_⟩;obtain⟨b,o,e,hB,hc⟩:=h.2 hn;refine⟨b,o,e,hB,fun j y hy=> ?_⟩;obtain⟨A',k,h1,h2,h3⟩:=hc j y hy;refine⟨A',k,by rw[<-h1];simp[World.cell?,hk b (hA _ e)],⟨h2.1,fun hn=> ?_⟩,h3⟩;obtain⟨b2,o2,e2,hB2,hc2⟩:=h2.2 hn;have hbg:b2≠g:=by
  intro e3;subst e3;obtain⟨u,hu⟩:∃u,y[0]?=some u:=⟨y[0]'hn,List.getElem?_eq_getElem _⟩;have h0:=hc2 0 u hu;rw[cell_of_row _ _ _ _ _ _ hg]at h0;rcases o2 with _ | _ | _ | o2<;>simp at h0
 exact⟨b2,o2,e2,hB2,fun j u hu=>by rw[<-hc2 j u hu];simp[World.cell?,hk b2 hbg]⟩
theorem adN{fn:Func}{R:Ending->World->Prop}{a:Act}{w:World}{p u:Tmp}{g:Nat}{x y0 y1 y2:Value}(hres:fn.results= #[.cell p 59, .tmp u]) (hp:a.tmps.getD p undef= .pointer (some ⟨g,0,none⟩)) (hx:a.tmps.getD u undef=x) (hd:a.defers= [])
 (hg:w.heap[g]?=some (.cells #[y0,y1,y2] 59 (0,0))) (hR:R (.returned (.tuple #[.agg #[y0,y1,y2],x])) w):bodyPost Tryz.prog fn R .ret a w:=by
 obtain⟨⟨c0,c1,c2⟩,_⟩:=abO hg;refine bodyPost_ret (v:= .tuple #[.agg #[y0,y1,y2],x]) ?_ hd hR;rw[results_cell_tmp hres,hp,hx];simp[go_sem,c0,c1,c2]
theorem aoe (k:Rq S w g L cl W cw ls ws left false) (h5:All5 ls) (N half:Nat) (hN:ls.length=N) (hh:N/2=half) (h1:1<=half) (hN2:N<=128) (x y:Sk) (hx:abw (aaW ls) (ws.map Wr.two) half 0=x) (hy:abw (aaW ls) (ws.map Wr.two) half 1=y) (base:Nat) (cap:Int) (_hc: -9223372036854775808<=cap/\cap<=9223372036854775807):
 Calls Tryz.prog 25 #[.pointer (some ⟨g,0,none⟩), .int .u64 (base:Int), .int .i64 cap] w fun e w'=>GotN w (aco x y base cap) e w':=by
 obtain⟨w1,ha1,n1,b1⟩:=ac0 w 59 (.int .i64 0) (.slice none 0 0) (.slice none 0 0);have HL:=hE0 (ahC (k.below b1.out) h5 N half hN hh h1 hN2 x y hx hy);clear k h5 hx hy hN hh h1 hN2;obtain⟨mb,hma,hmb⟩:=atK base cap;have HMA:=hE0 hma;have HMB:=hE0 hmb;clear hma hmb;go_enter Tryz.func25,Tryz.ntmps25
 go_wp2_with (first | (rw[ha1.out]) | fail)
 refine HL.out.mono ?_;rintro e w2 ⟨r,A1,c1,A2,c2,B1,k1,B2,k2,rfl,hrow,hr,hax,hay,hix,hiy,hb2⟩;have n2:=hE0 ((hb2.block _ (aaa n1.out)).trans n1.out);have HB:=hE0 (b1.out.trans (hb2.mono b1.out.size));have hrw:r≠w.heap.size:=by have:=aaa n1.out;omega
 obtain⟨xG,xN,xS,xo,xn,xl,xd⟩:=x;obtain⟨yG,yN,yS,yo,yn,yl,yd⟩:=y;unfold aku at hrow;dsimp only at hrow hix hiy;have hcell:∀i v,(#[.int .u64 (xG:Int), .int .u64 (xN:Int), .int .u32 (xS:Int), .bool xo, .int .i64 (xn:Int), .slice A1 xl.length c1, .slice A2 xd.length c2, .int .u64 (yG:Int), .int .u64 (yN:Int), .int .u32 (yS:Int), .bool yo, .int .i64 (yn:Int), .slice B1 yl.length k1, .slice B2 yd.length k2]:Array Value)[i]?=some v->w2.cell? ⟨r,i,none⟩=some v:=fun i v h=>by
  rw[cell_of_row w2 r i _ _ (0,0) hrow];exact h
 have hlr:=aaa hrow;have HAX:Hid (∀a,A2=some a->w1.heap.size<=a.block):=hax;have HAY:Hid (∀a,B2=some a->w1.heap.size<=a.block):=hay;have h01:Hid (w.heap.size<w1.heap.size):=(show _<_ from aaa n1.out);have HIX:=hE0 hix;have HIY:=hE0 hiy;have HCELL:=hE0 hcell;clear hb2 HL hix hiy hax hay hrow hcell;rcases adw ⟨xG,xN,xS,xo,xn,xl,xd⟩ ⟨yG,yN,yS,yo,yn,yl,yd⟩with hnew | hnew | hnew
 · skip
   have HG:Hid (aco ⟨xG,xN,xS,xo,xn,xl,xd⟩ ⟨yG,yN,yS,yo,yn,yl,yd⟩ base cap=(8,0,[],[])):=(show _=_ by unfold aco;rw[hnew,if_pos (by omega)]);rw[hnew];clear hnew;obtain⟨wz,hz,nz,bz,⟨u0,u1,u2⟩,⟨g0,g1,g2⟩,hlu⟩:=afj n2 (.int .i64 0) (.slice none 0 0) (.slice none 0 0);go_wp2_with (first | (rw[hz.out]) | fail)
   (try simp only[Exit.inBlock,Exit.then])
   refine adN (g:=w.heap.size) (x:= .int .i64 8) Tryz.results25 ?_ ?_ ?_ nz.out ?_
   · rfl
   · rfl
   · rfl
   · rw[HG.out];exact GotN.err rfl (bz.out _ _ (Nat.le_refl _) HB.out)
 · cases mb with
   | false=>
    have hm:¬(base%16=0/\base<=4611686018427387904/\1024<=cap/\cap<=16384):=fun h=>by have:=HMB.out.2 h;cases this
    have HG:Hid (aco ⟨xG,xN,xS,xo,xn,xl,xd⟩ ⟨yG,yN,yS,yo,yn,yl,yd⟩ base cap=(1,0,[],[])):=(show _=_ by unfold aco;rw[hnew,if_neg (by omega),if_pos hm]);rw[hnew];clear hnew;obtain⟨wz,hz,nz,bz,⟨u0,u1,u2⟩,⟨g0,g1,g2⟩,hlu⟩:=afj n2 (.int .i64 0) (.slice none 0 0) (.slice none 0 0);go_wp2_with fail
    refine(HMA.out w2).mono ?_;rintro e w3 ⟨rfl,rfl⟩;go_wp2_with (first | (rw[hz.out]) | fail)
    (try simp only[Exit.inBlock,Exit.then])
    refine adN (g:=w.heap.size) (x:= .int .i64 1) Tryz.results25 ?_ ?_ ?_ nz.out ?_
    · rfl
    · rfl
    · rfl
    · rw[HG.out];exact GotN.err rfl (bz.out _ _ (Nat.le_refl _) HB.out)
   | true=>
    have hm:¬ ¬(base%16=0/\base<=4611686018427387904/\1024<=cap/\cap<=16384):=fun h=>h (HMB.out.1 rfl);have q4:=HCELL.out 4 _ rfl;by_cases hcap:cap<(xn:Int)
    · have gc:decide (cap<(xn:Int))=true:=decide_eq_true hcap;have HG:Hid (aco ⟨xG,xN,xS,xo,xn,xl,xd⟩ ⟨yG,yN,yS,yo,yn,yl,yd⟩ base cap=(10,0,[],[])):=(show _=_ by unfold aco;rw[hnew,if_neg (by omega),if_neg hm,if_pos rfl,if_pos hcap]);rw[hnew];clear hnew;obtain⟨wz,hz,nz,bz,⟨u0,u1,u2⟩,⟨g0,g1,g2⟩,hlu⟩:=afj n2 (.int .i64 0) (.slice none 0 0) (.slice none 0 0);go_wp2_with fail
      refine(HMA.out w2).mono ?_;rintro e w3 ⟨rfl,rfl⟩;go_wp2_with (first | (rw[hz.out]) | fail)
      (try simp only[Exit.inBlock,Exit.then])
      refine adN (g:=w.heap.size) (x:= .int .i64 10) Tryz.results25 ?_ ?_ ?_ nz.out ?_
      · rfl
      · rfl
      · rfl
      · rw[HG.out];exact GotN.err rfl (bz.out _ _ (Nat.le_refl _) HB.out)
    · have gc:decide (cap<(xn:Int))=false:=decide_eq_false hcap;have HG:Hid (aco ⟨xG,xN,xS,xo,xn,xl,xd⟩ ⟨yG,yN,yS,yo,yn,yl,yd⟩ base cap=(0,xn,xl,xd)):=(show _=_ by unfold aco;rw[hnew,if_neg (by omega),if_neg hm,if_pos rfl,if_neg hcap]);rw[hnew];clear hnew;have q5:=HCELL.out 5 _ rfl;have q6:=HCELL.out 6 _ rfl;obtain⟨wz,hz,nz,bz,⟨u0,u1,u2⟩,⟨g0,g1,g2⟩,hlu⟩:=afj n2 (.int .i64 (xn:Int)) (.slice A1 xl.length c1) (.slice A2 xd.length c2);have HFIN:=hE0 (akv (w':=wz) HIX.out (fun a e=>by have:=HAX.out a e;have:=h01.out;omega) n2.out (by rw[<-hz.out];simp[World.setCell]) (fun k hk=>by rw[<-hz.out,heap_setCell_other _ _ _ _ hk,heap_setCell_other _ _ _ _ hk,heap_setCell_other _ _ _ _ hk]));have HAF:Hid (∀a,A2=some a->w.heap.size<=a.block):=(show ∀a,_->_ from fun a e=>by have:=HAX.out a e;have:=h01.out;omega);go_wp2_with fail
      refine(HMA.out w2).mono ?_;rintro e w3 ⟨rfl,rfl⟩;go_wp2_with (first | (rw[hz.out]) | fail)
      (try simp only[Exit.inBlock,Exit.then])
      refine adN (g:=w.heap.size) (x:= .int .i64 0) Tryz.results25 ?_ ?_ ?_ nz.out ?_
      · rfl
      · rfl
      · rfl
      · rw[HG.out];exact⟨A1,A2,c1,c2,rfl,HFIN.out.1,HFIN.out.2,HAF.out,bz.out _ _ (Nat.le_refl _) HB.out⟩
 · cases mb with
   | false=>
    have hm:¬(base%16=0/\base<=4611686018427387904/\1024<=cap/\cap<=16384):=fun h=>by have:=HMB.out.2 h;cases this
    have HG:Hid (aco ⟨xG,xN,xS,xo,xn,xl,xd⟩ ⟨yG,yN,yS,yo,yn,yl,yd⟩ base cap=(1,0,[],[])):=(show _=_ by unfold aco;rw[hnew,if_neg (by omega),if_pos hm]);rw[hnew];clear hnew;obtain⟨wz,hz,nz,bz,⟨u0,u1,u2⟩,⟨g0,g1,g2⟩,hlu⟩:=afj n2 (.int .i64 0) (.slice none 0 0) (.slice none 0 0);go_wp2_with fail
    refine(HMA.out w2).mono ?_;rintro e w3 ⟨rfl,rfl⟩;go_wp2_with (first | (rw[hz.out]) | fail)
    (try simp only[Exit.inBlock,Exit.then])
    refine adN (g:=w.heap.size) (x:= .int .i64 1) Tryz.results25 ?_ ?_ ?_ nz.out ?_
    · rfl
    · rfl
    · rfl
    · rw[HG.out];exact GotN.err rfl (bz.out _ _ (Nat.le_refl _) HB.out)
   | true=>
    have hm:¬ ¬(base%16=0/\base<=4611686018427387904/\1024<=cap/\cap<=16384):=fun h=>h (HMB.out.1 rfl);have q4:=HCELL.out 11 _ rfl;by_cases hcap:cap<(yn:Int)
    · have gc:decide (cap<(yn:Int))=true:=decide_eq_true hcap;have HG:Hid (aco ⟨xG,xN,xS,xo,xn,xl,xd⟩ ⟨yG,yN,yS,yo,yn,yl,yd⟩ base cap=(10,0,[],[])):=(show _=_ by unfold aco;rw[hnew,if_neg (by omega),if_neg hm,if_neg (by decide),if_pos hcap]);rw[hnew];clear hnew;obtain⟨wz,hz,nz,bz,⟨u0,u1,u2⟩,⟨g0,g1,g2⟩,hlu⟩:=afj n2 (.int .i64 0) (.slice none 0 0) (.slice none 0 0);go_wp2_with fail
      refine(HMA.out w2).mono ?_;rintro e w3 ⟨rfl,rfl⟩;go_wp2_with (first | (rw[hz.out]) | fail)
      (try simp only[Exit.inBlock,Exit.then])
      refine adN (g:=w.heap.size) (x:= .int .i64 10) Tryz.results25 ?_ ?_ ?_ nz.out ?_
      · rfl
      · rfl
      · rfl
      · rw[HG.out];exact GotN.err rfl (bz.out _ _ (Nat.le_refl _) HB.out)
    · have gc:decide (cap<(yn:Int))=false:=decide_eq_false hcap;have HG:Hid (aco ⟨xG,xN,xS,xo,xn,xl,xd⟩ ⟨yG,yN,yS,yo,yn,yl,yd⟩ base cap=(0,yn,yl,yd)):=(show _=_ by unfold aco;rw[hnew,if_neg (by omega),if_neg hm,if_neg (by decide),if_neg hcap]);rw[hnew];clear hnew;have q5:=HCELL.out 12 _ rfl;have q6:=HCELL.out 13 _ rfl;obtain⟨wz,hz,nz,bz,⟨u0,u1,u2⟩,⟨g0,g1,g2⟩,hlu⟩:=afj n2 (.int .i64 (yn:Int)) (.slice B1 yl.length k1) (.slice B2 yd.length k2);have HFIN:=hE0 (akv (w':=wz) HIY.out (fun a e=>by have:=HAY.out a e;have:=h01.out;omega) n2.out (by rw[<-hz.out];simp[World.setCell]) (fun k hk=>by rw[<-hz.out,heap_setCell_other _ _ _ _ hk,heap_setCell_other _ _ _ _ hk,heap_setCell_other _ _ _ _ hk]));have HAF:Hid (∀a,B2=some a->w.heap.size<=a.block):=(show ∀a,_->_ from fun a e=>by have:=HAY.out a e;have:=h01.out;omega);go_wp2_with fail
      refine(HMA.out w2).mono ?_;rintro e w3 ⟨rfl,rfl⟩;go_wp2_with (first | (rw[hz.out]) | fail)
      (try simp only[Exit.inBlock,Exit.then])
      refine adN (g:=w.heap.size) (x:= .int .i64 0) Tryz.results25 ?_ ?_ ?_ nz.out ?_
      · rfl
      · rfl
      · rfl
      · rw[HG.out];exact⟨B1,B2,k1,k2,rfl,HFIN.out.1,HFIN.out.2,HAF.out,bz.out _ _ (Nat.le_refl _) HB.out⟩
end
structure Dst where
 bs:List UInt8
 wt:List (Nat × List UInt8)
 left:Int
 off:Bool
def dwr (s:Dst) (p:Nat) (d:List UInt8):Nat × Dst:=if s.off=true\/s.left=0 then (6,{s with off:=true}) else (0,{s with wt:=s.wt++ [(p,d)],left:=aa9 s.left 1})
def dfl (s:Dst):Nat × Dst:=if s.off=true then (6,s) else (0,{s with bs:=aeB s.bs s.wt,wt:= []})
def agI (s:Dst) (p:Nat) (b:List UInt8):Nat × Dst:=
 (if wk (need b.length) s.left s.off<need b.length then 6 else 0,{s with wt:=s.wt++afx p b (wk (need b.length) s.left s.off),left:=aa9 s.left (wk (need b.length) s.left s.off),off:=s.off || decide (wk (need b.length) s.left s.off<need b.length)})
def RS (N:Nat) (S:Nat->Prop) (w:World) (g:Nat) (s:Dst):Prop:=
 ∃L cl W cw ls ws,Rq S w g L cl W cw ls ws s.left s.off/\aaW ls=s.bs/\ws.map Wr.two=s.wt/\ls.length=N/\∀j,S j->j<w.heap.size
section
variable {N:Nat} {S S':Nat->Prop} {w w1 w2:World} {g:Nat} {s:Dst}
theorem Rq.five{L:Option Addr}{cl:Nat}{W:Option Addr}{cw:Nat}{ls ws:List Wr}{left:Int}{off:Bool}(k:Rq S w g L cl W cw ls ws left off):All5 ls:=fun x hx=>(k.lf x hx).1
theorem RS.below (h:RS N S w g s) (hb:Below w.heap.size w w1):RS N S w1 g s:=by
 obtain⟨L,cl,W,cw,ls,ws,k,e1,e2,e3,hs⟩:=h;exact⟨L,cl,W,cw,ls,ws,k.below hb,e1,e2,e3,fun j hj=>Nat.lt_of_lt_of_le (hs j hj) hb.size⟩
theorem RS.tch{R:Nat->Prop}(h:RS N S w g s) (ht:Tch R w w1) (hd:∀j,S j->¬R j):RS N S w1 g s:=by
 obtain⟨L,cl,W,cw,ls,ws,k,e1,e2,e3,hs⟩:=h;exact⟨L,cl,W,cw,ls,ws,k.tch ht hd,e1,e2,e3,fun j hj=>Nat.lt_of_lt_of_le (hs j hj) ht.size⟩
theorem RS.regrow (h:RS N (abj (abj S w w1) w1 w2) w2 g s) (h1:w.heap.size<=w1.heap.size) (h2:w1.heap.size<=w2.heap.size):RS N (abj S w w2) w2 g s:=by
 obtain⟨L,cl,W,cw,ls,ws,k,e1,e2,e3,hs⟩:=h;have hg:∀j,abj (abj S w w1) w1 w2 j->abj S w w2 j:=fun j hj=>by
  rcases hj with(h | h) | h
  · exact .inl h
  · exact .inr ⟨h.1,by omega⟩
  · exact .inr ⟨by omega,h.2⟩
 exact⟨L,cl,W,cw,ls,ws,k.more fun j hj=>hg j (k.foot hj).1,e1,e2,e3,fun j hj=>by
  rcases hj with h | h
  · exact hs j (.inl (.inl h))
  · exact h.2⟩
theorem RS.out (h:RS N S w g s):∃L cl,w.cell? ⟨g,0,none⟩=some (.slice L N cl)/\g<w.heap.size:=by
 obtain⟨L,cl,W,cw,ls,ws,k,e1,e2,e3,hs⟩:=h;have:=k.c0;rw[e3]at this;exact⟨L,cl,this,k.lt⟩
def StpR (N:Nat) (S:Nat->Prop) (w:World) (g:Nat) (r:Nat × Dst) (e:Ending) (w':World):Prop:=e= .returned (.int .i64 (r.1:Int))/\RS N (abj S w w') w' g r.2/\Tch S w w'
theorem RS.grown (h:RS N S w1 g s) (_ht:Tch S w w1):RS N (abj S w w1) w1 g s:=by
 obtain⟨L,cl,W,cw,ls,ws,k,e1,e2,e3,hs⟩:=h;exact⟨L,cl,W,cw,ls,ws,k.more fun j hj=> .inl (k.foot hj).1,e1,e2,e3,fun j hj=>by
  rcases hj with h | h
  · exact hs j h
  · exact h.2⟩
theorem RS.write (h:RS N S w g s) (hw:s.wt.length<=100000) (hl:s.left<=9223372036854775807) (p:Nat) (hp:p<N) (A:Option Addr) (cA:Nat) (d:List UInt8) (hr:Rd w w.heap.size A 512 d) (hA:∀a,A=some a->a.block≠g):
 Calls Tryz.prog 66 #[.pointer (some ⟨g,0,none⟩), .int .i64 (p:Int), .slice A 512 cA] w fun e w'=>StpR N S w g (dwr s p d) e w':=by
 obtain⟨L,cl,W,cw,ls,ws,k,e1,e2,e3,hs⟩:=h;obtain⟨bs,wt,left,off⟩:=s;dsimp only at k e1 e2 hw hl;have hws:ws.length<=1000000:=by have:=congrArg List.length e2;simp at this;omega
 by_cases hb:off=true\/left=0
 · refine(ahz k hb p (by omega) A cA).mono ?_;rintro e w' ⟨rfl,k',ht⟩;unfold dwr;rw[if_pos hb];exact⟨rfl,RS.grown ⟨L,cl,W,cw,ls,ws,k',e1,e2,e3,fun j hj=>Nat.lt_of_lt_of_le (hs j hj) ht.size⟩ ht,ht⟩
 · have ho:off=false:=by cases off;rfl;exact absurd (.inl rfl) hb
   subst ho;refine(agD k hws (fun e=>hb (.inr e)) hl p (by omega) A cA d hr.1 hr hA).mono ?_;rintro e w' ⟨rfl,⟨W',cw',b,cb,k'⟩,ht⟩;unfold dwr;rw[if_neg hb];refine⟨rfl,⟨L,cl,W',cw',ls,_,k',e1,?_,e3,fun j hj=> ?_⟩,ht⟩
   · rw[List.map_append,e2];rfl
   · rcases hj with h | h
     · exact Nat.lt_of_lt_of_le (hs j h) ht.size
     · exact h.2
theorem RS.flush (h:RS N S w g s):
 Calls Tryz.prog 67 #[.pointer (some ⟨g,0,none⟩)] w fun e w'=>StpR N S w g (dfl s) e w':=by
 obtain⟨L,cl,W,cw,ls,ws,k,e1,e2,e3,hs⟩:=h;obtain⟨bs,wt,left,off⟩:=s;dsimp only at k e1 e2
 cases off with
 | true=>
  refine(amn k).mono ?_;rintro e w' ⟨rfl,rfl⟩;exact⟨rfl,RS.grown ⟨L,cl,W,cw,ls,ws,k,e1,e2,e3,hs⟩ (Tch.refl _ _),Tch.refl _ _⟩
 | false=>
  have hj:=agB ws ls k.five (fun x hx=>⟨(k.wf x hx).1,(k.wf x hx).2.1⟩);refine(an5 k).mono ?_;rintro e w' ⟨rfl,k',ht⟩;refine⟨rfl,RS.grown ⟨L,cl,none,0,_,[],k',?_,rfl,by rw[ae5];exact e3,fun j hj=>Nat.lt_of_lt_of_le (hs j hj) ht.size⟩ ht,ht⟩;rw[hj,e1,e2];rfl
theorem RS.outs (h:RS N S w g s) (hN2:N<=128) (hw:s.wt.length<=100000) (hl:s.left<=9223372036854775807) (p:Nat) (A:Option Addr) (cA:Nat) (b:List UInt8) (hr:Rd w w.heap.size A b.length b) (hA:A=none->cA=0) (hp:p+need b.length<=N):
 Calls Tryz.prog 68 #[.pointer (some ⟨g,0,none⟩), .int .i64 (p:Int), .slice A b.length cA] w fun e w'=>StpR N S w g (agI s p b) e w':=by
 obtain⟨L,cl,W,cw,ls,ws,k,e1,e2,e3,hs⟩:=h;obtain⟨bs,wt,left,off⟩:=s;dsimp only at k e1 e2 hw hl;have hws:ws.length<=100000:=by have:=congrArg List.length e2;simp at this;omega
 refine(apT k hs N e3 hN2 hws hl p A cA b hr hA _ rfl hp _ rfl).mono ?_;rintro e w' ⟨rfl,⟨W',cw',vs,k',hv⟩,ht⟩;unfold agI;refine⟨?_,⟨L,cl,W',cw',ls,vs,k',e1,?_,e3,fun j hj=> ?_⟩,ht⟩
 · dsimp only;split<;>rfl
 · rw[hv,e2]
 · rcases hj with h | h
   · exact Nat.lt_of_lt_of_le (hs j h) ht.size
   · exact h.2
theorem RS.two{r:Nat × Dst}{P:Ending->World->Prop}{f:FuncId}{vs:Array Value}(ht:Tch S w w1) (hc:Calls Tryz.prog f vs w1 fun e w2=>StpR N (abj S w w1) w1 g r e w2) (h1:w.heap.size<=w1.heap.size) (hP:∀e w2,e= .returned (.int .i64 (r.1:Int))->RS N (abj S w w2) w2 g r.2->Tch S w w2->P e w2):Calls Tryz.prog f vs w1 P:=
 hc.mono fun e w2 h=>hP e w2 h.1 (h.2.1.regrow h1 h.2.2.size) (ht.regrow h.2.2)
end
def andThen (r:Nat × Dst) (f:Dst->Nat × Dst):Nat × Dst:=if r.1=0 then f r.2 else r
def adO (p:Nat) (b rec:List UInt8) (s:Dst):Nat × Dst:=
 andThen (andThen (andThen (andThen (andThen (dwr s p (List.replicate 512 0)) dfl) (fun s=>agI s (p+1) b)) dfl) (fun s=>dwr s p rec)) dfl
def afW (x y:Sk) (half:Nat) (b:List UInt8) (s:Dst):Nat × Dst:=
 if 512*(half-1)<b.length\/4611686018427387904<=max x.G y.G then (7,s) else
 adO ((if aeg x y=0 then 1 else 0)*half) b (abA (max x.G y.G+1) b.length (abn 0 b)) s
theorem aao{r:Nat × Dst}{f:Dst->Nat × Dst}(h:r.1=0):andThen r f=f r.2:=if_pos h
theorem aaq{r:Nat × Dst}{f:Dst->Nat × Dst}(h:r.1≠0):andThen r f=r:=if_neg h
theorem alx (l:Int) (j:Nat):aa9 l j<=l:=by unfold aa9;split<;>omega
theorem aq3 (s:Dst) (p:Nat) (d:List UInt8):(dwr s p d).2.wt.length<=s.wt.length+1/\(dwr s p d).2.left<=s.left:=by
 unfold dwr;split
 · exact⟨Nat.le_succ _,Int.le_refl _⟩
 · exact⟨by simp,alx _ _⟩
theorem aof (s:Dst):(dfl s).2.wt.length<=s.wt.length/\(dfl s).2.left<=s.left:=by
 unfold dfl;split
 · exact⟨Nat.le_refl _,Int.le_refl _⟩
 · exact⟨Nat.zero_le _,Int.le_refl _⟩
theorem aog (s:Dst) (p:Nat) (b:List UInt8):(agI s p b).2.wt.length<=s.wt.length+need b.length/\(agI s p b).2.left<=s.left:=by
 unfold agI;refine⟨?_,alx _ _⟩;dsimp only;rw[List.length_append,aeH];have:wk (need b.length) s.left s.off<=need b.length:=by unfold wk;split;omega;split;omega;omega
 omega
section
variable {N:Nat} {S:Nat->Prop} {w w1 w2:World} {g:Nat} {s:Dst}
theorem StpR.from{r:Nat × Dst}{e:Ending}(hb:Below w.heap.size w w1) (h0:e= .returned (.int .i64 (r.1:Int))) (h1:RS N (abj S w1 w2) w2 g r.2) (h2:Tch S w1 w2):StpR N S w g r e w2:=by
 refine⟨h0,?_,(Tch.of_below (S:=S) hb).trans h2 fun i hi hg=>hg⟩;obtain⟨L,cl,W,cw,ls,ws,k,e1,e2,e3,hs⟩:=h1;have hg:∀j,abj S w1 w2 j->abj S w w2 j:=fun j hj=>by
  rcases hj with h | h
  · exact .inl h
  · exact .inr ⟨Nat.le_trans hb.size h.1,h.2⟩
 refine⟨L,cl,W,cw,ls,ws,k.more fun j hj=>hg j (k.foot hj).1,e1,e2,e3,fun j hj=> ?_⟩;rcases hj with h | h
 · exact hs j (.inl h)
 · exact h.2
theorem aoh (h:RS N S w g s) (half:Nat) (hh:N/2=half) (h1:1<=half) (hN2:N<=128) (hoff:s.off=false) (hwt:s.wt.length<=1000) (hleft:s.left<=9223372036854775807) (x y:Sk) (hx:abw s.bs s.wt half 0=x) (hy:abw s.bs s.wt half 1=y) (n:Nat) (hn:n<9223372036854775808) (A1 A2:Option Addr) (k1 k2:Nat) (l:List Rk) (d:List (List UInt8)) (hr:RkRd w w.heap.size A1 l) (hd:DtRd w w.heap.size A2 d) (hl:l.length<=1000) (hdl:d.length<=1000) (hfl:d.flatten.length<=100000) (o:Nat × Dst) (ho:afW x y half (aaM n l d) s=o):
 Calls Tryz.prog 19 #[.pointer (some ⟨g,0,none⟩),imV (n:Int) A1 l.length k1 A2 d.length k2] w fun e w'=>StpR N S w g o e w':=by
 obtain⟨ll,hll⟩:=nmE l.length;obtain⟨dl,hdl'⟩:∃dl,d.length=dl:=⟨_,rfl⟩;have hput:=fun V (hV:Below w.heap.size w V)=>ahs V n hn A1 A2 k1 k2 l d ((hr.below hV).more hV.size) ((hd.below hV).more hV.size) hl hdl hfl;unfold imV at hput ⊢;rw[hll,hdl']at hput;rw[hll,hdl'];obtain⟨w1,ha1,n1,b1⟩:=ac0 w 59 (.int .i64 (n:Int)) (.slice A1 ll k1) (.slice A2 dl k2);have HPUT:=hE0 hput;clear hput hr hd hll hdl' hfl hl hdl;obtain⟨b,hb⟩:=nmE (aaM n l d);rw[hb]at HPUT ho;have h':=h.below b1.out;have hnew:Calls Tryz.prog 62 #[.pointer (some ⟨g,0,none⟩)] w1 fun e w'=>arT x y w1 e w':=by
  obtain⟨L,cl,W,cw,ls,ws,k,e1,e2,e3,hs⟩:=h';rw[hoff]at k;exact ahC k k.five N half e3 hh h1 hN2 x y (by rw[e1,e2];exact hx) (by rw[e1,e2];exact hy)
 have HNEW:=hE0 hnew;have HRS:=hE0 h;obtain⟨m,hm⟩:=nmE b.length;rw[hm]at HPUT;have HM:=hE0 hm;obtain⟨tO,hto⟩:∃tO,(if aeg x y=0 then 1 else 0)=tO:=⟨_,rfl⟩;obtain⟨p,hp⟩:=nmE (tO*half);have hto1:tO<=1:=by rw[<-hto];split<;>omega
 have hp2:p+half<=N:=by
  rw[<-hp];rcases Nat.le_one_iff_eq_zero_or_eq_one.1 hto1 with e | e<;>rw[e]<;>omega
 have hpi:(tO:Int)*(half:Int)=(p:Int):=by rw[<-hp];exact(Int.natCast_mul tO half).symm
 obtain⟨gx,hgx⟩:=nmE x.G;obtain⟨gy,hgy⟩:=nmE y.G;obtain⟨G,hG⟩:=nmE (max gx gy);unfold afW at ho;rw[hgx,hgy,hG,hm,hto,hp]at ho;obtain⟨np,hnp⟩:=nmE (aeg x y);have HTO:Hid ((if np=0 then 1 else 0)=tO):=(show _=_ by rw[<-hnp];exact hto);have HNP:Hid (np= -1\/np=0\/np=1):=(show _\/_ by rw[<-hnp];exact adw x y);have HO:=hE0 ho;have HHH:=hE0 hh;have hhi:(N:Int)/2=(half:Int):=by omega
 have HGG:=hE0 hG;have HX:=hE0 (And.intro hgx hgy);have HNPX:=hE0 hnp;clear hnew h h' hm hto hp hgx hgy ho hnp hG hb hx hy;go_enter Tryz.func19,Tryz.ntmps19
 go_wp2_with (first | (rw[ha1.out]) | fail)
 refine HNEW.out.mono ?_;rintro e w2 ⟨r,B1,c1,B2,c2,D1,j1,D2,j2,rfl,hrow,hrl,_,_,_,_,hb2⟩;rw[HNPX.out];have q0:w2.cell? ⟨r,0,none⟩=some (.int .u64 (x.G:Int)):=by rw[cell_of_row w2 r 0 _ _ (0,0) hrow];rfl
 have q7:w2.cell? ⟨r,7,none⟩=some (.int .u64 (y.G:Int)):=by rw[cell_of_row w2 r 7 _ _ (0,0) hrow];rfl
 rw[HX.out.1]at q0;rw[HX.out.2]at q7;have hlr:=aaa hrow;have HQ:Hid (w2.cell? ⟨r,0,none⟩=some (.int .u64 (gx:Int))/\w2.cell? ⟨r,7,none⟩=some (.int .u64 (gy:Int))/\r<w2.heap.size):=⟨q0,q7,hlr⟩;have HB2:=hE0 (b1.out.trans (hb2.mono b1.out.size));have n2:=(hb2.block _ (aaa n1.out)).trans n1.out;clear hrow hrl hb2 q0 q7 hlr HNEW;go_upto_if 24 with(fail)
 go_cut [8] from 25 (fun v wx=>v= .int .i64 (tO:Int)/\wx=w2)
 case first=>
  have e1:=HTO.out;rcases HNP.out with e | e | e
  · subst e;obtain rfl:0=tO:=by simpa using e1
    go_wp2
    go_meet
    case rel=>exact⟨rfl,rfl⟩
  · subst e;obtain rfl:1=tO:=by simpa using e1
    go_wp2
    go_meet
    case rel=>exact⟨rfl,rfl⟩
  · subst e;obtain rfl:0=tO:=by simpa using e1
    go_wp2
    go_meet
    case rel=>exact⟨rfl,rfl⟩
 case rest=>
  obtain⟨rfl,rfl⟩:=hcut;obtain⟨⟨c0,c1,c2⟩,_,hlc⟩:=abO n2;clear n2;go_wp2_with fail
  clear c0 c1 c2 hlc;refine(HPUT.out _ HB2.out).mono ?_;rintro e w3 ⟨A3,c3,rfl,o3,b3⟩;obtain⟨q0,q7,hlr⟩:=HQ.out;have q0':=(b3.cell (p:=⟨r,0,none⟩) hlr).trans q0;have q7':=(b3.cell (p:=⟨r,7,none⟩) hlr).trans q7;have hlr':=Nat.lt_of_lt_of_le hlr b3.size;have HB3:=hE0 (HB2.out.trans (b3.mono HB2.out.size));obtain⟨L,cl,k0,hlg⟩:=(HRS.out.below HB3.out).out;have hc3:=aeE o3;unfold maxLen at hc3;have HR3:=hE0 (aak o3);have HA3:Hid (∀a,A3=some a->¬S a.block):=(show ∀a,_->_ from fun a e hs=>by
   obtain⟨_,_,_,_,_,_,_,_,_,_,hs'⟩:=HRS.out;have h1:=hs' _ hs;have h2:=abS o3 a.block (by rw[e];rfl);have h3:=HB2.out.size;omega)
  have hmx:max (gx:Int) (gy:Int)=(G:Int):=by have:=HGG.out;omega
  have hN0:Hid (A3=none->c3=0):=(show _->_ from fun e=>by subst e;exact(af5 o3).2);clear q0 q7 hlr o3 b3 HPUT;go_wp2_with fail
  go_cut [11] from 33 (fun v wx=>v= .int .u64 (G:Int)/\Below w3.heap.size w3 wx)
  case first=>
   have hG':=HGG.out;go_quiet (fail)
   go_wp2
   all_goals
    go_meet
    case rel=>
     refine⟨?_,ade _ _⟩;first | rfl | rw[show(gy:Int)=(G:Int) from by omega] | rw[show(gx:Int)=(G:Int) from by omega]
  case rest=>
  obtain⟨rfl,hb4⟩:=hcut;obtain⟨w4,hw4⟩:=nmE wc;rw[hw4]at hb4;rw[hw4];have HB4:=hE0 (HB3.out.trans (hb4.mono HB3.out.size));have HR4:=hE0 ((HR3.out.below hb4).more hb4.size);clear hw4 hb4 q0' q7' hlr' k0 hlg hmx;have ho:=HO.out;by_cases hfar:512*(half-1)<m\/4611686018427387904<=G
  · rw[if_pos hfar]at ho;subst ho;have HFIN:Hid (StpR N S w g (7,s) (.returned (.int .i64 ((7:Nat):Int))) w4):=StpR.from HB4.out rfl ((HRS.out.below HB4.out).grown (Tch.refl _ _)) (Tch.refl _ _);by_cases hf1:512*(half-1)<m
    · have g1:decide (512*((half:Int)-1)<(m:Int))=true:=decide_eq_true (by omega);go_wp2_with fail
      go_ret
      exact HFIN.out
    · have g1:decide (512*((half:Int)-1)<(m:Int))=false:=decide_eq_false (by omega);have g2:decide ((4611686018427387904:Int)<=(G:Int))=true:=decide_eq_true (by omega);go_wp2_with fail
      go_ret
      exact HFIN.out
  · rw[if_neg hfar]at ho;have HO2:=hE0 ho;have g1:decide (512*((half:Int)-1)<(m:Int))=false:=decide_eq_false (by omega);have g2:decide ((4611686018427387904:Int)<=(G:Int))=false:=decide_eq_false (by omega);have hGl:G<4611686018427387904:=by omega
    have hml:m<=65536:=by omega
    have hmle:m<=512*(half-1):=by omega
    obtain⟨sm,hsm⟩:=nmE (abn 0 b);have hsml:sm<4294967296:=by rw[<-hsm];exact acI _ _
    have hsum:=aen A3 m c3 w4.heap.size b w4 HR4.out (by omega);rw[hsm]at hsum;have HSUM:=hE0 hsum;have HSM:=hE0 hsm;have hG1:((G:Int)+1)=((G+1:Nat):Int):=rfl;have hPR:=afu w4 (G+1) m sm hsml (by omega) (by omega) hml;rw[<-hG1]at hPR;have HPR:=hE0 hPR;clear ho hsum hsm hPR hG1 hfar;go_wp2_with fail
    refine HSUM.out.mono ?_;rintro e w5 ⟨rfl,rfl⟩;go_wp2_with fail
    refine HPR.out.mono ?_;rintro e w5 ⟨A5,c5,rfl,_,o5,b5⟩;have HB5:=hE0 (HB4.out.trans (b5.mono HB4.out.size));obtain⟨rec,hrec⟩:=nmE (abA (G+1) m sm);rw[hrec]at o5;have HA5:Hid ((∀a,A5=some a->¬S a.block)/\∀a,A5=some a->a.block≠g):=(show _/\_ from by
     obtain⟨_,_,_,_,_,_,kk,_,_,_,hs'⟩:=HRS.out;have h3:=HB4.out.size;exact⟨fun a e hs=>by have h1:=hs' _ hs;have h2:=abS o5 a.block (by rw[e];rfl);omega,fun a e hs=>by have h1:=hs' _ kk.sg;have h2:=abS o5 a.block (by rw[e];rfl);omega⟩)
    obtain⟨z,hz⟩:=nmE (List.replicate 512 (0:UInt8));have hzl:z.length=512:=by rw[<-hz];simp
    have hmk:(Instr.makeSlice 37 (.int .i64 512) (.int .i64 512)).run Tryz.prog w5= .ok (.slice (some ⟨w5.heap.size,0,none⟩) 512 512) (w5.alloc (.cells (rowB z) 5)):=by
     have:=run_make_row' (P:=Tryz.prog) 37 5 (.int .u8 0) 1 Tryz.underlying37 aca rfl .i64 .i64 512 (by omega) (by omega) w5;rw[abI,hz]at this;exact this
    obtain⟨v1,hv1⟩:=nmE (w5.alloc (.cells (rowB z) 5));have hfz:Fill v1 w5.heap.size 5 z:=by rw[<-hv1];exact Fill.made w5 5 _
    have hbv:=abE hv1;have HBV:=hE0 (HB5.out.trans (hbv.mono HB5.out.size));have HV1:=hE0 hv1;have hrz:=hfz.reads;rw[hzl]at hrz;have hgz:w5.heap.size≠g:=by
     obtain⟨_,_,_,_,_,_,kk,_,_,_,hs'⟩:=HRS.out;have h1:=hs' _ kk.sg;have h2:=HB5.out.size;omega
    have HRB1:=hE0 ((HR4.out.below (b5.trans (hbv.mono b5.size))).more (Nat.le_trans b5.size hbv.size));have HRR1:=hE0 (((aak o5).below hbv).more hbv.size);have HR0:=hE0 (HRS.out.below HBV.out);have HW1:=hE0 (HR0.out.write (by omega) hleft p (by omega) (some ⟨w5.heap.size,0,none⟩) 512 z hrz (fun a e=>by injection e with e;rw[<-e];exact hgz));have ho3:=HO2.out;rw[HSM.out,hrec]at ho3;unfold adO at ho3;rw[hz]at ho3;have HO3:=hE0 ho3;clear hfz hbv hv1 hrz hgz hz hzl o5 b5 ho3 hrec g1 g2;go_wp2_with (first | (rw[HV1.out]) | fail)
    clear hmk;obtain⟨r1,hr1⟩:∃r,dwr s p z=r:=⟨_,rfl⟩;have HE1:=hE0 hr1;have B1:Hid (r1.2.wt.length<=1001/\r1.2.left<=9223372036854775807):=(show _/\_ by
     have:=aq3 s p z;rw[hr1]at this;exact⟨by omega,by omega⟩)
    have hc:=HW1.out;rw[hr1]at hc;clear hr1;refine hc.mono ?_;rintro e v2 ⟨rfl,hR,hT⟩;have HR1:=hE0 hR;have HT1:=hE0 hT;clear hR hT hc;obtain⟨k1,hk⟩:∃k,r1.1=k:=⟨_,rfl⟩;rw[hk];have HK1:=hE0 hk;clear hk;by_cases hz:k1=0
    · have h1:Hid (r1.1=0):=(show _=_ by rw[HK1.out,hz]);subst hz;have gk:(((0:Nat):Int)==0)=true:=rfl;obtain⟨r2,hr2⟩:∃r,dfl r1.2=r:=⟨_,rfl⟩;have HE2:=hE0 hr2;have B2:Hid (r2.2.wt.length<=1001/\r2.2.left<=9223372036854775807):=(show _/\_ by
       have:=aof r1.2;rw[hr2]at this;have:=B1.out;exact⟨by omega,by omega⟩)
      have hc:=HR1.out.flush;rw[hr2]at hc;have HC:=hE0 hc;clear hr2 hc;go_wp2_with fail
      refine RS.two HT1.out HC.out HT1.out.size ?_;rintro e v3 rfl hR hT;have HR2:=hE0 hR;have HT2:=hE0 hT;clear hR hT HC;obtain⟨k2,hk⟩:∃k,r2.1=k:=⟨_,rfl⟩;rw[hk];have HK2:=hE0 hk;clear hk;by_cases hz:k2=0
      · have h2:Hid (r2.1=0):=(show _=_ by rw[HK2.out,hz]);subst hz;have gk:(((0:Nat):Int)==0)=true:=rfl;obtain⟨r3,hr3⟩:∃r,agI r2.2 (p+1) b=r:=⟨_,rfl⟩;have HE3:=hE0 hr3;have B3:Hid (r3.2.wt.length<=2000/\r3.2.left<=9223372036854775807):=(show _/\_ by
         have:=aog r2.2 (p+1) b;rw[hr3,HM.out]at this;have:=B2.out;have:need m<=200:=by unfold need;omega
         exact⟨by omega,by omega⟩)
        have hc:=HR2.out.outs hN2 (by have:=B2.out;omega) (by have:=B2.out;omega) (p+1) A3 c3 b (by rw[HM.out];exact HRB1.out.tch HT2.out HA3.out) hN0.out (by rw[HM.out];unfold need;omega);rw[hr3,HM.out]at hc;have hP1:((p:Int)+1)=((p+1:Nat):Int):=rfl;have HP1:=hE0 hP1;clear hP1;have HC:=hE0 hc;clear hr3 hc;go_wp2_with fail
        rw[HP1.out];refine RS.two HT2.out HC.out HT2.out.size ?_;rintro e v4 rfl hR hT;have HR3:=hE0 hR;have HT3:=hE0 hT;clear hR hT HC;obtain⟨k3,hk⟩:∃k,r3.1=k:=⟨_,rfl⟩;rw[hk];have HK3:=hE0 hk;clear hk;by_cases hz:k3=0
        · have h3:Hid (r3.1=0):=(show _=_ by rw[HK3.out,hz]);subst hz;have gk:(((0:Nat):Int)==0)=true:=rfl;obtain⟨r4,hr4⟩:∃r,dfl r3.2=r:=⟨_,rfl⟩;have HE4:=hE0 hr4;have B4:Hid (r4.2.wt.length<=2000/\r4.2.left<=9223372036854775807):=(show _/\_ by
           have:=aof r3.2;rw[hr4]at this;have:=B3.out;exact⟨by omega,by omega⟩)
          have hc:=HR3.out.flush;rw[hr4]at hc;have HC:=hE0 hc;clear hr4 hc;go_wp2_with fail
          refine RS.two HT3.out HC.out HT3.out.size ?_;rintro e v5 rfl hR hT;have HR4:=hE0 hR;have HT4:=hE0 hT;clear hR hT HC;obtain⟨k4,hk⟩:∃k,r4.1=k:=⟨_,rfl⟩;rw[hk];have HK4:=hE0 hk;clear hk;by_cases hz:k4=0
          · have h4:Hid (r4.1=0):=(show _=_ by rw[HK4.out,hz]);subst hz;have gk:(((0:Nat):Int)==0)=true:=rfl;obtain⟨r5,hr5⟩:∃r,dwr r4.2 p rec=r:=⟨_,rfl⟩;have HE5:=hE0 hr5;have B5:Hid (r5.2.wt.length<=2001/\r5.2.left<=9223372036854775807):=(show _/\_ by
             have:=aq3 r4.2 p rec;rw[hr5]at this;have:=B4.out;exact⟨by omega,by omega⟩)
            have hc:=HR4.out.write (by have:=B4.out;omega) (by have:=B4.out;omega) p (by omega) A5 c5 rec (HRR1.out.tch HT4.out HA5.out.1) HA5.out.2;rw[hr5]at hc;have HC:=hE0 hc;clear hr5 hc;go_wp2_with fail
            refine RS.two HT4.out HC.out HT4.out.size ?_;rintro e v6 rfl hR hT;have HR5:=hE0 hR;have HT5:=hE0 hT;clear hR hT HC;obtain⟨k5,hk⟩:∃k,r5.1=k:=⟨_,rfl⟩;rw[hk];have HK5:=hE0 hk;clear hk;by_cases hz:k5=0
            · have h5:Hid (r5.1=0):=(show _=_ by rw[HK5.out,hz]);subst hz;have gk:(((0:Nat):Int)==0)=true:=rfl;obtain⟨r6,hr6⟩:∃r,dfl r5.2=r:=⟨_,rfl⟩;have HE6:=hE0 hr6;have hc:=HR5.out.flush;rw[hr6]at hc;have HC:=hE0 hc;clear hr6 hc;go_wp2_with fail
              refine RS.two HT5.out HC.out HT5.out.size ?_;rintro e v7 rfl hR hT;have HR6:=hE0 hR;have HT6:=hE0 hT;clear hR hT HC;obtain⟨k6,hk⟩:∃k,r6.1=k:=⟨_,rfl⟩;rw[hk];have HK6:=hE0 hk;clear hk;have ho:=HO3.out;rw[HE1.out,aao h1.out,HE2.out,aao h2.out,HE3.out,aao h3.out,HE4.out,aao h4.out,HE5.out,aao h5.out,HE6.out]at ho;subst ho;go_wp2_with fail
              go_ret
              exact StpR.from HBV.out (by rw[HK6.out];rfl) HR6.out HT6.out
            · have hb5:r5.1≠0:=by rw[HK5.out];exact hz
              have gk:((k5:Int)==0)=false:=by rw[beq_eq_false_iff_ne];omega
              have ho:=HO3.out;rw[HE1.out,aao h1.out,HE2.out,aao h2.out,HE3.out,aao h3.out,HE4.out,aao h4.out,HE5.out,aaq hb5]at ho;subst ho;clear hz hb5;go_wp2_with fail
              go_ret
              exact StpR.from HBV.out (by rw[HK5.out];rfl) HR5.out HT5.out
          · have hb4:r4.1≠0:=by rw[HK4.out];exact hz
            have gk:((k4:Int)==0)=false:=by rw[beq_eq_false_iff_ne];omega
            have ho:=HO3.out;rw[HE1.out,aao h1.out,HE2.out,aao h2.out,HE3.out,aao h3.out,HE4.out,aaq hb4,aaq hb4]at ho;subst ho;clear hz hb4;go_wp2_with fail
            go_ret
            exact StpR.from HBV.out (by rw[HK4.out];rfl) HR4.out HT4.out
        · have hb3:r3.1≠0:=by rw[HK3.out];exact hz
          have gk:((k3:Int)==0)=false:=by rw[beq_eq_false_iff_ne];omega
          have ho:=HO3.out;rw[HE1.out,aao h1.out,HE2.out,aao h2.out,HE3.out,aaq hb3,aaq hb3,aaq hb3]at ho;subst ho;clear hz hb3;go_wp2_with fail
          go_ret
          exact StpR.from HBV.out (by rw[HK3.out];rfl) HR3.out HT3.out
      · have hb2:r2.1≠0:=by rw[HK2.out];exact hz
        have gk:((k2:Int)==0)=false:=by rw[beq_eq_false_iff_ne];omega
        have ho:=HO3.out;rw[HE1.out,aao h1.out,HE2.out,aaq hb2,aaq hb2,aaq hb2,aaq hb2]at ho;subst ho;clear hz hb2;go_wp2_with fail
        go_ret
        exact StpR.from HBV.out (by rw[HK2.out];rfl) HR2.out HT2.out
    · have hb1:r1.1≠0:=by rw[HK1.out];exact hz
      have gk:((k1:Int)==0)=false:=by rw[beq_eq_false_iff_ne];omega
      have ho:=HO3.out;rw[HE1.out,aaq hb1,aaq hb1,aaq hb1,aaq hb1,aaq hb1]at ho;subst ho;clear hz hb1;go_wp2_with fail
      go_ret
      exact StpR.from HBV.out (by rw[HK1.out];rfl) HR1.out HT1.out
end
def DS (N:Nat) (S:Nat->Prop) (w:World) (g:Nat) (s:Dst):Prop:=
 ∃h c W cw ws,Dk S w g h c W cw s.bs ws s.left s.off/\ws.map Wr.two=s.wt/\s.bs.length=512*N/\∀j,S j->j<w.heap.size
section
variable {N:Nat} {S S':Nat->Prop} {w w1 w2:World} {g:Nat} {s:Dst}
theorem DS.below (h:DS N S w g s) (hb:Below w.heap.size w w1):DS N S w1 g s:=by
 obtain⟨q,c,W,cw,ws,k,e1,e2,hs⟩:=h;exact⟨q,c,W,cw,ws,k.below hb,e1,e2,fun j hj=>Nat.lt_of_lt_of_le (hs j hj) hb.size⟩
theorem DS.tch{R:Nat->Prop}(h:DS N S w g s) (ht:Tch R w w1) (hd:∀j,S j->¬R j):DS N S w1 g s:=by
 obtain⟨q,c,W,cw,ws,k,e1,e2,hs⟩:=h;exact⟨q,c,W,cw,ws,k.tch ht hd,e1,e2,fun j hj=>Nat.lt_of_lt_of_le (hs j hj) ht.size⟩
theorem DS.regrow (h:DS N (abj (abj S w w1) w1 w2) w2 g s) (h1:w.heap.size<=w1.heap.size) (h2:w1.heap.size<=w2.heap.size):DS N (abj S w w2) w2 g s:=by
 obtain⟨q,c,W,cw,ws,k,e1,e2,hs⟩:=h;exact⟨q,c,W,cw,ws,k.regrow h1 h2,e1,e2,fun j hj=>by
  rcases hj with h | h
  · exact hs j (.inl (.inl h))
  · exact h.2⟩
theorem DS.grown (h:DS N S w1 g s) (_ht:Tch S w w1):DS N (abj S w w1) w1 g s:=by
 obtain⟨q,c,W,cw,ws,k,e1,e2,hs⟩:=h;exact⟨q,c,W,cw,ws,k.more fun j hj=> .inl (k.foot hj).1,e1,e2,fun j hj=>by
  rcases hj with h | h
  · exact hs j h
  · exact h.2⟩
def StpD (N:Nat) (S:Nat->Prop) (w:World) (g:Nat) (r:Nat × Dst) (e:Ending) (w':World):Prop:=e= .returned (ag8 r.1)/\DS N (abj S w w') w' g r.2/\Tch S w w'
theorem DS.flush (h:DS N S w g s) (hN2:N<=128):
 Calls Tryz.prog 176 #[.pointer (some ⟨g,0,none⟩)] w fun e w'=>StpD N S w g (dfl s) e w':=by
 obtain⟨q,c,W,cw,ws,k,e1,e2,hs⟩:=h;obtain⟨bs,wt,left,off⟩:=s;dsimp only at k e1 e2
 cases off with
 | true=>
  refine(amk k).mono ?_;rintro e w' ⟨rfl,rfl⟩;exact⟨rfl,DS.grown ⟨q,c,W,cw,ws,k,e1,e2,hs⟩ (Tch.refl _ _),Tch.refl _ _⟩
 | false=>
  have hf:=k.fits;refine(an2 k (by omega)).mono ?_;rintro e w' ⟨rfl,k',ht⟩;refine⟨rfl,DS.grown ⟨q,c,none,0,[],?_,rfl,?_,fun j hj=>Nat.lt_of_lt_of_le (hs j hj) ht.size⟩ ht,ht⟩
  · unfold dfl;rw[if_neg Bool.false_ne_true,<-e1];exact k'
  · unfold dfl;rw[if_neg Bool.false_ne_true,<-e1];dsimp only;rw[ab8 _ _ hf];exact e2
theorem DS.outs (h:DS N S w g s) (hN2:N<=128) (hw:s.wt.length<=100000) (hl:s.left<=9223372036854775807) (p:Nat) (A:Option Addr) (cA:Nat) (b:List UInt8) (hr:Rd w w.heap.size A b.length b) (hbc:b.length<=cA) (hcm:cA<=9223372036854775807) (hA:0<b.length->∀a,A=some a->¬S a.block) (hp:p+need b.length<=N):
 Calls Tryz.prog 175 #[.pointer (some ⟨g,0,none⟩), .int .i64 (p:Int), .slice A b.length cA] w fun e w'=>StpD N S w g (agI s p b) e w':=by
 obtain⟨q,c,W,cw,ws,k,e1,e2,hs⟩:=h;obtain⟨bs,wt,left,off⟩:=s;dsimp only at k e1 e2 hw hl;have hws:ws.length<=100000:=by have:=congrArg List.length e1;simp at this;omega
 refine(amm k N e2 hN2 hws hl p A cA b hr hbc hcm hA _ rfl hp _ rfl).mono ?_;rintro e w' ⟨rfl,⟨W',cw',vs,k',hv⟩,ht⟩;unfold agI;refine⟨?_,⟨q,c,W',cw',vs,k',?_,e2,fun j hj=> ?_⟩,ht⟩
 · dsimp only;split
   · rfl
   · rfl
 · rw[hv,e1]
 · rcases hj with h | h
   · exact Nat.lt_of_lt_of_le (hs j h) ht.size
   · exact h.2
theorem DS.two{r:Nat × Dst}{P:Ending->World->Prop}{f:FuncId}{vs:Array Value}(ht:Tch S w w1) (hc:Calls Tryz.prog f vs w1 fun e w2=>StpD N (abj S w w1) w1 g r e w2) (h1:w.heap.size<=w1.heap.size) (hP:∀e w2,e= .returned (ag8 r.1)->DS N (abj S w w2) w2 g r.2->Tch S w w2->P e w2):Calls Tryz.prog f vs w1 P:=
 hc.mono fun e w2 h=>hP e w2 h.1 (h.2.1.regrow h1 h.2.2.size) (ht.regrow h.2.2)
theorem StpD.from{r:Nat × Dst}{e:Ending}(hb:Below w.heap.size w w1) (h0:e= .returned (ag8 r.1)) (h1:DS N (abj S w1 w2) w2 g r.2) (h2:Tch S w1 w2):StpD N S w g r e w2:=by
 refine⟨h0,?_,(Tch.of_below (S:=S) hb).trans h2 fun i hi hg=>hg⟩;obtain⟨q,c,W,cw,ws,k,e1,e2,hs⟩:=h1;have hg:∀j,abj S w1 w2 j->abj S w w2 j:=fun j hj=>by
  rcases hj with h | h
  · exact .inl h
  · exact .inr ⟨Nat.le_trans hb.size h.1,h.2⟩
 refine⟨q,c,W,cw,ws,k.more fun j hj=>hg j (k.foot hj).1,e1,e2,fun j hj=> ?_⟩;rcases hj with h | h
 · exact hs j (.inl h)
 · exact h.2
theorem DS.read (h:DS N S w g s) (hN2:N<=128) (ho:s.off=false) (p:Nat) (hp:p<N):
 Calls Tryz.prog 164 #[.pointer (some ⟨g,0,none⟩), .int .i64 (p:Int)] w fun e w'=>aqW (aa7 s.bs s.wt p) w e w':=by
 obtain⟨q,c,W,cw,ws,k,e1,e2,hs⟩:=h;rw[ho]at k;rw[<-e1];exact alo k (by omega) p (by omega)
theorem DS.reads (h:DS N S w g s) (hN2:N<=128) (ho:s.off=false) (p n:Nat) (hp:p+need n<=N):
 Calls Tryz.prog 166 #[.pointer (some ⟨g,0,none⟩), .int .i64 (p:Int), .int .i64 (n:Int)] w fun e w'=>aqW ((ac2 s.bs s.wt p (need n)).take n) w e w':=by
 obtain⟨q,c,W,cw,ws,k,e1,e2,hs⟩:=h;rw[<-e1];exact an4 k N e2 hN2 p n _ rfl hp (fun e=>by rw[ho]at e;cases e) _ rfl
end
theorem amy (A:Option Addr) (n c B:Nat) (bs:List UInt8) (w:World) (hrd:Rd w B A n bs) (hn:n<=1000000):
 Calls Tryz.prog 147 #[.slice A n c] w fun e w'=>e= .returned (.int .u32 (abn 0 bs:Int))/\w=w':=by
 have H:=hE0 (aen A n c B bs w hrd hn);clear hrd;go_enter Tryz.func147,Tryz.ntmps147
 go_wp2_with fail
 refine H.out.mono ?_;rintro e w1 ⟨rfl,rfl⟩;go_wp2
 go_ret
 exact⟨rfl,rfl⟩
theorem ap2 (A:Option Addr) (n c B:Nat) (bs:List UInt8) (w:World) (hrd:Rd w B A n bs) (hn:n<=1000000) (right:Bool):∃v:Nat,v<4294967296/\
 Calls Tryz.prog 89 #[.slice A n c, .bool right] w fun e w'=>e= .returned (.int .u32 (v:Int))/\w=w':=by
 have H:=hE0 (amy A n c B bs w hrd hn);obtain⟨s,hs⟩:=nmE (abn 0 bs);have hsl:s<4294967296:=by rw[<-hs];exact acI 0 bs
 rw[hs]at H;clear hrd hs
 cases right with
 | true=>
  refine⟨s,hsl,?_⟩;go_enter Tryz.func89,Tryz.ntmps89
  go_wp2_with fail
  refine H.out.mono ?_;rintro e w1 ⟨rfl,rfl⟩;go_wp2
  go_ret
  exact⟨rfl,rfl⟩
 | false=>
  refine⟨(s+1)%4294967296,Nat.mod_lt _ (by omega),?_⟩;go_enter Tryz.func89,Tryz.ntmps89
  go_wp2_with fail
  refine H.out.mono ?_;rintro e w1 ⟨rfl,rfl⟩;go_wp2
  go_ret
  exact⟨rfl,rfl⟩
structure Sl where
 G:Nat
 len:Int
 right:Bool
 A:Option Addr
 b:List UInt8
 c:Nat
 image:Bool
 n:Int
 L:Option Addr
 l:List Rk
 lc:Nat
 D:Option Addr
 d:List (List UInt8)
 dc:Nat
def Sl.v (s:Sl):Value:= .agg #[.int .u64 (s.G:Int), .int .i64 s.len, .bool s.right, .slice s.A s.b.length s.c, .bool s.image, .int .i64 s.n, .slice s.L s.l.length s.lc, .slice s.D s.d.length s.dc]
structure Sl.In (s:Sl) (w:World):Prop where
 rb:Rd w w.heap.size s.A s.b.length s.b
 ra:s.A=none->s.c=0
 rl:RkRd w w.heap.size s.L s.l
 rd:DtRd w w.heap.size s.D s.d
 gG:s.G<18446744073709551616
 gl: -9223372036854775808<=s.len/\s.len<=9223372036854775807
 gn: -9223372036854775808<=s.n/\s.n<=9223372036854775807
 bl:s.b.length<=20000
 ll:s.l.length<=1000
 dl:s.d.length<=1000
theorem Sl.In.below{s:Sl}{w w':World}(h:s.In w) (hb:Below w.heap.size w w'):s.In w':=
 ⟨(h.rb.below hb).more hb.size,h.ra,(h.rl.below hb).more hb.size,(h.rd.below hb).more hb.size,h.gG,h.gl,h.gn,h.bl,h.ll,h.dl⟩
theorem akw (w:World) (g n s:Nat) (hg:g<18446744073709551616) (hn:n<18446744073709551616) (hs:s<4294967296):
 Calls Tryz.prog 64 #[.agg #[.int .u64 (g:Int), .int .u64 (n:Int), .int .u32 (s:Int)]] w fun e w'=>∃(A:Option Addr) (m c:Nat) (bs:List UInt8),e= .returned (.slice A m c)/\(m=0\/m=512)/\w'.ownsRow w.heap.size 5 1 (.slice A m c) m (bs.map bv)/\Below w.heap.size w w':=by
 by_cases h:1<=g/\g<=4611686018427387904/\n<=65536
 · refine(afu w g n s hs h.1 h.2.1 h.2.2).mono ?_;rintro e w' ⟨A,c,rfl,_,ho,hb⟩;exact⟨A,512,c,_,rfl, .inr rfl,ho,hb⟩
 · refine(aht w g n s hg hn hs (by omega)).mono ?_;rintro e w' ⟨rfl,hb⟩;exact⟨none,0,0,[],rfl, .inl rfl,World.ownsRow_nil _ _ _ _,hb⟩
def sln:Value->Nat
 | .slice _ n _=>n
 | _=>0
theorem Rd.head_{w:World}{B n:Nat}{A:Option Addr}{bs:List UInt8}(h:Rd w B A n bs) (k:Nat) (hk:k<=n):Rd w B A k (bs.take k):=by
 refine⟨by rw[List.length_take,h.1];omega,fun hn=> ?_⟩;obtain⟨b,off,e,hb,hc⟩:=h.2 (by omega);refine⟨b,off,e,hb,fun j u hu=>hc j u ?_⟩;rw[List.getElem?_take]at hu;split at hu
 · exact hu
 · cases hu
theorem amz{w:World}{base n c:Nat}{xs:List Value}{t:TypeId}(h:w.ownsRow base t 1 (.slice none n c) n xs):n=0/\c=0:=by
 rcases h.2 with⟨h',h0⟩ | ⟨_,_,_,h',_⟩
 · injection h' with _ _ e;exact⟨h0,e⟩
 · injection h' with e;cases e
theorem ahD{w:World}{base base' n size:Nat}{t:TypeId}{v:Value}{xs:List Value}(h:w.ownsRow base t size v n xs) (hb:base'<=base):w.ownsRow base' t size v n xs:=by
 refine⟨h.1,?_⟩;rcases h.2 with h2 | ⟨g,cap,cur,hv,hg,r⟩
 · exact .inl h2
 · exact .inr ⟨g,cap,cur,hv,Nat.le_trans hb hg,r⟩
theorem ap3 (z:Array Value) (hz:rowB (List.replicate 512 0)=z) (B:Nat) (W:World) (hB:B<=W.heap.size):(W.alloc (.cells z 5)).ownsRow B 5 1 (.slice (some ⟨W.heap.size,0,none⟩) 512 512) 512 ((List.replicate 512 (0:UInt8)).map bv):=by
 have h:z.toList=(List.replicate 512 (0:UInt8)).map bv:=by rw[<-hz];rfl
 rw[<-h];refine World.ownsRow_lit W z 512 hB (by unfold maxLen;omega) ?_;rw[<-Array.length_toList,h,List.length_map,List.length_replicate]
theorem amA (w:World) (N:Nat) (hN:2<=N) (hN2:N<=40) (x y:Sl) (hx:x.In w) (hy:y.In w):
 Calls Tryz.prog 33 #[.int .i64 (N:Int),x.v,y.v] w fun e w'=>∃(A:Option Addr) (c:Nat) (bs:List UInt8),e= .returned (.slice A (512*N) c)/\w'.ownsRow w.heap.size 5 1 (.slice A (512*N) c) (512*N) (bs.map bv)/\Below w.heap.size w w':=by
 unfold Sl.v;obtain⟨wx,hax,nx,bx⟩:=agx w 78 (.int .u64 (x.G:Int)) (.int .i64 x.len) (.bool x.right) (.slice x.A x.b.length x.c) (.bool x.image) (.int .i64 x.n) (.slice x.L x.l.length x.lc) (.slice x.D x.d.length x.dc);obtain⟨wb,hay,ny,by_⟩:=agx wx 78 (.int .u64 (y.G:Int)) (.int .i64 y.len) (.bool y.right) (.slice y.A y.b.length y.c) (.bool y.image) (.int .i64 y.n) (.slice y.L y.l.length y.lc) (.slice y.D y.d.length y.dc);have mx:=hE0 ((by_.out.block _ (aaa nx.out)).trans nx.out);have HB:=hE0 (bx.out.trans (by_.out.mono bx.out.size));have HX:=hE0 (hx.below HB.out);have HY:=hE0 (hy.below HB.out);obtain⟨half,hh⟩:=nmE (N/2);have hhi:(N:Int)/2=(half:Int):=by omega
 have h1:1<=half:=by omega
 have h2:2*half<=N:=by omega
 have h20:half<=20:=by omega
 clear hx hy hh;go_enter Tryz.func33,Tryz.ntmps33
 go_wp2_with (first | (rw[hax.out]) | (rw[hay.out]) | fail)
 go_loopw [8,9] (fun v t W=>∃(j m:Nat) (bs:List UInt8),t= .int .i64 (j:Int)/\(j=0/\m=0\/j=1/\m=512*half\/j=2/\m=512*half+512*half)/\W.ownsRow wb.heap.size 5 1 v m (bs.map bv)/\Below wb.heap.size wb W) (fun _ t _=>2-(intOf t).toNat)
 case atStart=>exact⟨0,0,[],rfl, .inl ⟨rfl,rfl⟩,World.ownsRow_nil _ _ _ _,Below.refl _ _⟩
 case round=>
  obtain⟨wo,hwo⟩:=nmE wr;subst wr;obtain⟨j,mo,bso,rfl,hjm,hown,hb⟩:=hrel;have hj:j<=2:=by omega
  obtain⟨Ao,co,rfl,hco,_⟩:=acR hown;by_cases hlt:j<2
  · obtain⟨s,hs⟩:∃s:Sl,s=if j=1 then y else x:=⟨_,rfl⟩
    have hsin:s.In wo:=by rw[hs];split;exact HY.out.below hb;exact HX.out.below hb
    have rx:=(hb.block _ (aaa mx.out)).trans mx.out;have ry:=(hb.block _ (aaa ny.out)).trans ny.out;obtain⟨⟨p0,p1,p2,p3,p4,p5,p6,p7⟩,_,hlx⟩:=abT rx;obtain⟨w1,ha1,n1,b1⟩:=agx wo 78 (.int .u64 0) (.int .i64 0) (.bool false) (.slice none 0 0) (.bool false) (.int .i64 0) (.slice none 0 0) (.slice none 0 0);obtain⟨w2,hp2,n2,b2,⟨q0,q1,q2,q3,q4,q5,q6,q7⟩,⟨f0,f1,f2,f3,f4,f5,f6,f7⟩,hl1⟩:=atF n1 (.int .u64 (x.G:Int)) (.int .i64 x.len) (.bool x.right) (.slice x.A x.b.length x.c) (.bool x.image) (.int .i64 x.n) (.slice x.L x.l.length x.lc) (.slice x.D x.d.length x.dc);have hb2:=b2.out _ _ (Nat.le_refl _) b1.out;have HB2:=hE0 (hb.trans (hb2.mono hb.size));have sy:=(hb2.block _ (aaa ry)).trans ry;obtain⟨⟨r0,r1,r2,r3,r4,r5,r6,r7⟩,_,hly⟩:=abT sy;obtain⟨w3,hp3,n3,b3,⟨t0,t1,t2,t3,t4,t5,t6,t7⟩,⟨g0,g1,g2,g3,g4,g5,g6,g7⟩,hl2⟩:=atF n2 (.int .u64 (y.G:Int)) (.int .i64 y.len) (.bool y.right) (.slice y.A y.b.length y.c) (.bool y.image) (.int .i64 y.n) (.slice y.L y.l.length y.lc) (.slice y.D y.d.length y.dc);have HS:=hE0 hs;have HSIN:=hE0 hsin;have HOWN:=hE0 hown;have HJM:=hE0 hjm;have HBR:=hE0 hb;have HB12:=hE0 hb2;clear hs hsin hown hjm hb rx ry sy hb2;go_upto_if 25 with(first | (rw[ha1.out]) | (rw[hp2.out]) | fail)
    go_cut [10] from 26 to 83 (fun v wx=>v= .pointer (some ⟨wo.heap.size,0,none⟩)/\wx.heap[wo.heap.size]?=some (.cells #[.int .u64 (s.G:Int), .int .i64 s.len, .bool s.right, .slice s.A s.b.length s.c, .bool s.image, .int .i64 s.n, .slice s.L s.l.length s.lc, .slice s.D s.d.length s.dc] 78 (0,0))/\Below wo.heap.size wo wx)
    case first=>
     have hs:=HS.out;rcases(show j=0\/j=1 by omega)with e | e
     · subst e;rw[if_neg (by decide)]at hs;subst hs;go_wp2_with fail
       go_meet
       case rel=>exact⟨rfl,n2.out,HB12.out⟩
     · subst e;rw[if_pos rfl]at hs;subst hs;go_wp2_with (first | (rw[hp3.out]) | fail)
       go_meet
       case rel=>exact⟨rfl,n3.out,b3.out _ _ (Nat.le_refl _) HB12.out⟩
    case rest=>
     obtain⟨rfl,hrow,hbs⟩:=hcut;clear p0 p1 p2 p3 p4 p5 p6 p7 hlx q0 q1 q2 q3 q4 q5 q6 q7 f0 f1 f2 f3 f4 f5 f6 f7 hl1 r0 r1 r2 r3 r4 r5 r6 r7 hly t0 t1 t2 t3 t4 t5 t6 t7 g0 g1 g2 g3 g4 g5 g6 g7 hl2 hp3 n3 b3 hp2 n2 b2 ha1 n1 b1 HB2 HB12;have HSC:=hE0 (HSIN.out.below hbs);obtain⟨⟨s0,s1,s2,s3,s4,s5,s6,s7⟩,_,hls⟩:=abT hrow;obtain⟨w5,ha5,n5,b5⟩:=ac0 wc 59 (.int .i64 0) (.slice none 0 0) (.slice none 0 0);obtain⟨w6,hp6,n6,b6,⟨z0,z1,z2⟩,⟨e0,e1,e2⟩,hle⟩:=afj n5 (.int .i64 s.n) (.slice s.L s.l.length s.lc) (.slice s.D s.d.length s.dc);have hb6:=b6.out _ _ (Nat.le_refl _) b5.out;have HS6:=hE0 (HSC.out.below hb6);have HB6:=hE0 (hbs.trans (hb6.mono hbs.size));have row6:=hE0 ((hb6.block _ (aaa hrow)).trans hrow);obtain⟨⟨i0,i1,i2⟩,_,hli⟩:=abO n6.out;obtain⟨my,hmy⟩:=nmE (acG s.n s.l s.d);have hmay:=alk w6 s.n HS6.out.gn s.L s.D s.lc s.dc s.l s.d HS6.out.rl HS6.out.rd (by have:=HS6.out.ll;omega) (by have:=HS6.out.dl;omega) my hmy;unfold imV at hmay;have HMAY:=hE0 hmay;have HMY:=hE0 hmy;clear hrow hbs hb6 hmay hmy;go_wp2_with (first | (rw[ha5.out]) | (rw[hp6.out]) | fail)
     clear z0 z1 z2 e0 e1 e2 hle i0 i1 i2 hli s0 s1 s2 s3 s4 s5 s6 s7 hls;refine HMAY.out.mono ?_;rintro e w7 ⟨rfl,hb7⟩;have HS7:=hE0 (HS6.out.below hb7);have HB7:=hE0 (HB6.out.trans (hb7.mono HB6.out.size));have row7:=hE0 ((hb7.block _ (aaa row6.out)).trans row6.out);have im7:=hE0 ((hb7.block _ (aaa n6.out)).trans n6.out);obtain⟨⟨s0,s1,s2,s3,s4,s5,s6,s7⟩,_,hls⟩:=abT row7.out;clear hb7 HMAY;obtain⟨im,him⟩:=nmE s.image;rw[him]at s4;obtain⟨z,hz⟩:=nmE ((im&&my));have HZ:=hE0 hz;clear him hz;go_upto_region 12 with(fail)
     go_cut [42] from 38 to 83 (fun v wx=>v= .bool z/\wx=w7)
     case first=>
      have hz:=HZ.out
      cases im with
      | true=>
       obtain rfl:my=z:=by simpa using hz
       go_wp2_with fail
       go_meet
       case rel=>exact⟨rfl,rfl⟩
      | false=>
       obtain rfl:false=z:=by simpa using hz
       go_wp2_with fail
       go_meet
       case rel=>exact⟨rfl,rfl⟩
     case rest=>
     obtain⟨rfl,rfl⟩:=hcut;go_upto_if 42 with(fail)
     go_cut [11] from 43 to 83 (fun v wx=>∃(Ab:Option Addr) (bb:List UInt8) (cb:Nat),v= .slice Ab bb.length cb/\Rd wx wx.heap.size Ab bb.length bb/\(Ab=none->cb=0)/\bb.length<=30000/\wx.heap[wo.heap.size]?=some (.cells #[.int .u64 (s.G:Int), .int .i64 s.len, .bool s.right, .slice s.A s.b.length s.c, .bool s.image, .int .i64 s.n, .slice s.L s.l.length s.lc, .slice s.D s.d.length s.dc] 78 (0,0))/\Below wo.heap.size wo wx)
     case first=>
      cases z with
      | false=>
       go_wp2
       go_meet
       case rel=>exact⟨s.A,s.b,s.c,rfl,HS7.out.rb,HS7.out.ra,by have:=HS7.out.bl;omega,row7.out,HB7.out⟩
      | true=>
       have hmt:my=true:=by have:=HZ.out;simp only[Bool.and_eq_true]at this;exact this.2
       have hmm:acG s.n s.l s.d=true:=by rw[HMY.out];exact hmt
       obtain⟨hfl,hn1,hn2⟩:=aig hmm;obtain⟨n',hn'⟩:∃n':Nat,s.n=(n':Int):=⟨s.n.toNat,by omega⟩;have hput:=fun V (hV:s.In V)=>ahs V n' (by omega) s.L s.D s.lc s.dc s.l s.d hV.rl hV.rd hV.ll hV.dl (by omega);unfold imV at hput;rw[<-hn']at hput;have HPUT:=hE0 hput;obtain⟨⟨i0,i1,i2⟩,_,hli⟩:=abO im7.out;have HLN:Hid ((aaM n' s.l s.d).length<=30000):=(show _<=_ by rw[aev];have:=HS7.out.ll;omega);clear hput hmt hmm hfl hn1 hn2 hn';go_wp2_with fail
       refine(HPUT.out _ HS7.out).mono ?_;rintro e w8 ⟨A8,c8,rfl,o8,b8⟩;have HR8:=hE0 (aak o8);have HN8:Hid (A8=none->c8=0):=(show _->_ from fun e=>by
        rcases o8.2 with⟨h',_⟩ | ⟨_,_,_,h',_⟩
        · injection h' with _ _ e3
        · injection h' with e3;rw[e]at e3;cases e3)
       have HB8:=hE0 (HB7.out.trans (b8.mono HB7.out.size));have row8:=hE0 ((b8.block _ (aaa row7.out)).trans row7.out);clear o8 b8 i0 i1 i2 hli;go_wp2
       go_meet
       case rel=>exact⟨A8,_,c8,rfl,HR8.out,HN8.out,HLN.out,row8.out,HB8.out⟩
     case rest=>
     obtain⟨Ab,bb,cb,rfl,hrb,hcb,hbb,hrow,hbs⟩:=hcut;obtain⟨w8,hw8⟩:=nmE wc;rw[hw8]at hrb hrow hbs;rw[hw8];obtain⟨nb,hnb⟩:=nmE bb.length;rw[hnb]at hrb hbb;rw[hnb];have HNB:=hE0 hnb;have HRB:=hE0 hrb;have HCB:=hE0 hcb;have HB8:=hE0 hbs;have row8:=hE0 hrow;clear s0 s1 s2 s3 s4 s5 s6 s7 hls hrb hcb hrow hbs hw8 hnb;obtain⟨⟨s0,s1,s2,s3,s4,s5,s6,s7⟩,_,hls⟩:=abT row8.out;have HSI:=hE0 HSIN.out.gl;go_upto_if 50 with(fail)
     generalize hge:decide (0<=s.len)=g;go_cut [14] from 51 to 83 (fun v wx=>∃q:Nat,q<18446744073709551616/\v= .int .u64 (q:Int)/\wx=w8)
     case first=>
      have hgl:=HSI.out
      cases g with
      | true=>
       have h0:=of_decide_eq_true hge;clear hge;obtain⟨q,hq⟩:∃q:Nat,s.len=(q:Int):=⟨s.len.toNat,by omega⟩;clear h0;go_wp2
       go_meet
       case rel=>exact⟨q,by omega,by rw[<-hq],rfl⟩
      | false=>
       clear hge;go_wp2
       go_meet
       case rel=>exact⟨nb,by omega,rfl,rfl⟩
     case rest=>
     obtain⟨q,hq,rfl,rfl⟩:=hcut;obtain⟨we,hwe⟩:=nmE wc.drew;have hbe:=adE hwe;have rowe:=(hbe.block _ (aaa row8.out)).trans row8.out;have HRE:=hE0 ((HRB.out.below hbe).more hbe.size);have HBE:=hE0 (HB8.out.trans (hbe.mono HB8.out.size));obtain⟨sv,hsv,hsum⟩:=ap2 Ab nb cb we.heap.size bb we HRE.out (by omega) s.right;have hput:=fun V=>akw V s.G q sv HSIN.out.gG hq hsv;have HSUM:=hE0 hsum;have HPUT:=hE0 hput;clear s0 s1 s2 s3 s4 s5 s6 s7 hls hsum hput hge;obtain⟨⟨c0,c1,c2,c3,c4,c5,c6,c7⟩,_,hle⟩:=abT rowe;clear rowe c1 c3 c4 c5 c6 c7;go_wp2_with fail
     have v0:=tfE c0 hle;have v2:=tfE c2 hle;refine aad we.heap.size [([0,1,2,3,4,5],6),([7],8)] [9] [] (by kernel_rfl) (by kernel_rfl) (by kernel_rfl) (fun _ _ _ _ _ h=>h) ?_;rw[hwe];clear hwe hbe c0 c2 hle;refine tail_cons (l:= ?segA) ?hsegA ?_
     case hsegA=>simp only[pick,lE1,lE2,lE3];rfl
     repeat (go_big_quiet_step (fail))
     refine wpQuiet_nil ?_;clear v0 v2;refine aaf (vs:= #[.slice Ab nb cb, .bool s.right]) Tryz.call89 rfl rfl rfl (R:=fun r w'=>r= .int .u32 (sv:Int)/\we=w') (HSUM.out.mono ?_) we.heap.size (Nat.le_refl _) ?_
     · rintro e w' ⟨rfl,rfl⟩;exact⟨_,rfl,Below.refl _ _,rfl,rfl⟩
     rintro r w' _ ⟨rfl,rfl⟩;refine tail_cons (l:= ?segB) ?hsegB ?_
     case hsegB=>simp only[pick,lE1,lE2,lE3];rfl
     simp only[Act.put,lE4,lE5,lE6];repeat (go_big_quiet_step (fail))
     refine wpQuiet_nil ?_;refine aas (vs:= #[.agg #[.int .u64 (s.G:Int), .int .u64 (q:Int), .int .u32 (sv:Int)]]) Tryz.call64 rfl rfl rfl (R:=fun r w'=>∃(A:Option Addr) (m c:Nat) (bs:List UInt8),r= .slice A m c/\(m=0\/m=512)/\w'.ownsRow we.heap.size 5 1 (.slice A m c) m (bs.map bv)/\Below we.heap.size we w') ((HPUT.out we).mono ?_) ?_
     · rintro e w' ⟨A,m,c,bs,rfl,h⟩;exact⟨_,rfl,h.2.2,A,m,c,bs,rfl,h⟩
     rintro r w9 _ ⟨A9,m9,c9,bs9,rfl,hm9,o9,b9⟩;refine⟨w9.heap.size,b9.size,?_⟩;simp only[Act.put,lE4,lE5,lE6];refine aam (l:= ?lastC) (t:= []) ?hlastC rfl ?_
     case hlastC=>simp only[pick,lE1,lE2,lE3];rfl
     repeat (go_big_quiet_step (fail))
     refine wpQuiet_nil ?_;have HO9:=hE0 o9;have HB9:=hE0 (HBE.out.trans (b9.mono HBE.out.size));have HW9:=hE0 b9.size;have HR9:=hE0 ((HRE.out.below b9).more b9.size);have HM9:=hE0 hm9;clear o9 b9 hm9 HSUM HPUT;go_upto_if 65 with(fail)
     generalize hge2:((m9:Int)==0)=g2;go_cut [15] from 66 to 83 (fun v wx=>∃(A:Option Addr) (c:Nat) (bs:List UInt8),v= .slice A 512 c/\wx.ownsRow we.heap.size 5 1 v 512 (bs.map bv)/\Rd wx wx.heap.size Ab nb bb/\Below wo.heap.size wo wx/\we.heap.size<=wx.heap.size)
     case first=>
      cases g2 with
      | true=>
       clear hge2;obtain⟨z,hz⟩:=nmE (rowB (List.replicate 512 (0:UInt8)));have hzo:=hE0 (ap3 z hz);have hmk:∀W:World,(Instr.makeSlice 37 (.int .i64 512) (.int .i64 512)).run Tryz.prog W= .ok (.slice (some ⟨W.heap.size,0,none⟩) 512 512) (W.alloc (.cells z 5)):=fun W=>by
        have:=run_make_row' (P:=Tryz.prog) 37 5 (.int .u8 0) 1 Tryz.underlying37 aaR rfl .i64 .i64 512 (by omega) (by omega) W;rw[abI,hz]at this;exact this
       have hba:Below w9.heap.size w9 (w9.alloc (.cells z 5)):=(Below.refl _ _).alloc (Nat.le_refl _) _;have HA:=hE0 hba;clear hz hba;go_wp2
       go_meet
       case rel=>exact⟨_,_,_,rfl,hzo.out _ _ HW9.out,(HR9.out.below HA.out).more HA.out.size,HB9.out.trans (HA.out.mono HB9.out.size),Nat.le_trans HW9.out HA.out.size⟩
      | false=>
       obtain rfl:m9=512:=by
        have:=HM9.out;rcases this with e | e
        · rw[e]at hge2;cases hge2
        · exact e
       clear hge2;go_wp2
       go_meet
       case rel=>exact⟨_,_,_,rfl,HO9.out,HR9.out,HB9.out,HW9.out⟩
     case rest=>
     obtain⟨A10,c10,bs10,rfl,ho10,hr10,hb10,hs10⟩:=hcut;have HO10:=hE0 ho10;have HR10:=hE0 hr10;have HB10:=hE0 hb10;have HS10:=hE0 hs10;clear ho10 hr10 hb10 hs10;obtain⟨wt,hwt⟩:=nmE wc;subst wc;have HBB:=hE0 hbb;have HSW:=hE0 HBE.out.size;clear HSI HSIN HSC HNB HRB HRE HB8 row8 HB7 row7 im7 HS7 HMY HZ HO9 HB9 HW9 HR9 HM9 HX HY HB;go_wp2_with (first
      | (at_builtin;go_must (refine aaj rfl (.tmp 67) (.tmp 68) 37 5 rfl Tryz.underlying37 aaR we.heap.size _ 512 bs10 rfl HO10.out _ Ab nb cb bb rfl HR10.out HCB.out (by omega) HS10.out ?_);intro x11 w11 own11 hb11 _
         have HX11:Hid (w11.ownsRow we.heap.size 5 1 x11 (512+nb) ((bs10++bb).map bv)/\Below we.heap.size wt w11):=⟨own11,hb11⟩;clear own11 hb11)
      | fail)
     go_loopw [16] (fun v W=>∃(m:Nat) (bs:List UInt8),512<=m/\m<=40000/\W.ownsRow we.heap.size 5 1 v m (bs.map bv)/\Below wo.heap.size wo W/\we.heap.size<=W.heap.size) (fun v _=>512*half-sln v)
     case atStart=>exact⟨512+nb,_,by omega,by omega,HX11.out.1,HB10.out.trans (HX11.out.2.mono HSW.out),Nat.le_trans HS10.out HX11.out.2.size⟩
     case round=>
      obtain⟨m,bs,hm1,hm2,hown,hb,hsz⟩:=hrel;obtain⟨A,c,rfl,hc,hrd⟩:=acR hown;by_cases hlt2:m<512*half
      · obtain⟨w13,hw13⟩:=nmE (wr.alloc (.cells #[.int .u8 0] 5));have b13:=abE hw13;have f13:Fill w13 wr.heap.size 5 [0]:=by rw[<-hw13];exact heap_alloc_new wr _
        have OWN13:=hE0 (aax hown b13);have RD13:=hE0 f13.reads;have HB13:=hE0 (hb.trans (b13.mono hb.size));have HS13:=hE0 (Nat.le_trans hsz b13.size);have HW13:=hE0 hw13;clear hw13 b13 f13 hown hb hsz hrd;go_wp2_with (first
         | (rw[HW13.out])
         | (at_builtin;go_must (refine aaj rfl (.tmp 75) (.tmp 76) 37 5 rfl Tryz.underlying37 aaR we.heap.size _ m bs rfl OWN13.out _ (some ⟨wr.heap.size,0,none⟩) 1 1 [0] rfl RD13.out (fun e=>by cases e) (by omega) HS13.out ?_);intro x14 w14 own14 hb14 _
            have HX14:Hid (w14.ownsRow we.heap.size 5 1 x14 (m+1) ((bs++ [0]).map bv)/\Below we.heap.size w13 w14):=⟨own14,hb14⟩;clear own14 hb14)
         | fail)
        go_roundw
        case rel=>exact⟨m+1,_,by omega,by omega,HX14.out.1,HB13.out.trans (HX14.out.2.mono HSW.out),Nat.le_trans HS13.out HX14.out.2.size⟩
        case measure=>
         obtain⟨_,_,e,_⟩:=acR HX14.out.1;rw[e];simp only[sln];omega
      · have hk:512*half<=m:=by omega
        have HRK:=hE0 (Rd.head_ hrd (512*half) hk);have hA:A=none->c=0:=fun e=>by subst e;exact(amz hown).2
        have HOW:=hE0 (aax HOWN.out hb);have HBW:=hE0 (HBR.out.trans (hb.mono HBR.out.size));have hmo:mo<=40000:=by have:=HJM.out;omega
        clear hown hb hsz hrd;go_wp2_with (first
         | (at_builtin;go_must (refine aaj rfl (.tmp 78) (.tmp 82) 37 5 rfl Tryz.underlying37 aaR wb.heap.size _ mo bso rfl HOW.out _ A (512*half) c _ rfl HRK.out hA (by omega) HBW.out.size ?_);intro x15 w15 own15 hb15 _
            have HX15:Hid (w15.ownsRow wb.heap.size 5 1 x15 (mo+512*half) ((bso++bs.take (512*half)).map bv)/\Below wb.heap.size wr w15):=⟨own15,hb15⟩;clear own15 hb15)
         | fail)
        go_roundw
        case rel=>exact⟨j+1,_,_,by go_num,by have:=HJM.out;omega,HX15.out.1,HBW.out.trans HX15.out.2⟩
        case measure=>simp only[intOf];omega
  · obtain rfl:j=2:=by omega
    have HJM:=hE0 hjm;have HOWN:=hE0 hown;have HBR:=hE0 hb;clear hown hb hjm;go_wp2
    go_loopw [8] (fun v W=>∃(m:Nat) (bs:List UInt8),m<=512*N/\W.ownsRow wb.heap.size 5 1 v m (bs.map bv)/\Below wb.heap.size wb W) (fun v _=>512*N-sln v)
    case atStart=>exact⟨mo,_,by have:=HJM.out;omega,HOWN.out,HBR.out⟩
    case round=>
     obtain⟨m,bs,hm,hown,hb⟩:=hrel;obtain⟨A,c,rfl,hc,_⟩:=acR hown;by_cases hlt2:m<512*N
     · obtain⟨w13,hw13⟩:=nmE (wr.alloc (.cells #[.int .u8 0] 5));have b13:=abE hw13;have f13:Fill w13 wr.heap.size 5 [0]:=by rw[<-hw13];exact heap_alloc_new wr _
       have OWN13:=hE0 (aax hown b13);have RD13:=hE0 f13.reads;have HB13:=hE0 (hb.trans (b13.mono hb.size));have HW13:=hE0 hw13;clear hw13 b13 f13 hown hb;go_wp2_with (first
        | (rw[HW13.out])
        | (at_builtin;go_must (refine aaj rfl _ _ 37 5 rfl Tryz.underlying37 aaR wb.heap.size _ m bs rfl OWN13.out _ (some ⟨wr.heap.size,0,none⟩) 1 1 [0] rfl RD13.out (fun e=>by cases e) (by omega) HB13.out.size ?_);intro x14 w14 own14 hb14 _
           have HX14:Hid (w14.ownsRow wb.heap.size 5 1 x14 (m+1) ((bs++ [0]).map bv)/\Below wb.heap.size w13 w14):=⟨own14,hb14⟩;clear own14 hb14)
        | fail)
       go_roundw
       case rel=>exact⟨m+1,_,by omega,HX14.out.1,HB13.out.trans HX14.out.2⟩
       case measure=>
        obtain⟨_,_,e,_⟩:=acR HX14.out.1;rw[e];simp only[sln];omega
     · obtain rfl:m=512*N:=by omega
       have HF:=hE0 (ahD hown HB.out.size);have HG:=hE0 (HB.out.trans (hb.mono HB.out.size));clear hown hb;go_wp2
       go_ret
       exact⟨A,c,bs,rfl,HF.out,HG.out⟩
structure Good (b:List UInt8) (N:Nat) (l:List Rk) (d:List (List UInt8)):Prop where
 h28:28<=b.length
 hm:b.take 8=imMarkB
 hs:aaS b 0 24=true
 hN:abH b=N
 hlo:ab3 (N:Int)=true
 hK:abU b=l.length
 hk:l.length<=1024
 hst:aaS b 28 (28+8*l.length)=true
 hb:aaQ (b.drop 28) l.length 184=some l
 hr:abe (N:Int) 184 false l=true
 hlen:b.length=32+8*l.length+aaK l+8
 h1:aaS b (32+8*l.length) (32+8*l.length+aaK l)=true
 h2:aaS b 0 (32+8*l.length+aaK l+4)=true
 hd:d=ae8 l (b.drop (32+8*l.length))
section
variable {b c:List UInt8} {N:Nat} {l:List Rk} {d:List (List UInt8)}
theorem Good.got (h:Good b N l d):acO b=(0,N,l,d):=by
 have ho:HeadOk b b.length N l.length:=⟨rfl,h.h28,h.hm,h.hs,h.hN,h.hK⟩;have hl:=(aaN _).1 h.hlo;have hno:aip b.length N l.length:=⟨by omega,by omega,by omega,h.hk,by have:=h.hlen;omega⟩;rw[ho.row hno h.hst h.hb h.hr,aob rfl rfl h.hlen h.h1 h.h2,if_neg (by simp),h.hd]
theorem aeh{x:Bool}(h:¬x=false):x=true:=by
 cases x with
 | true=>rfl
 | false=>exact absurd rfl h
theorem aoi (h:acO b=(0,N,l,d)):Good b N l d:=by
 unfold acO at h;by_cases h0:acE b≠0
 · rw[if_pos h0]at h;injection h with h _;exact absurd h h0
 rw[if_neg h0]at h;have h0:acE b=0:=Decidable.byContradiction h0;by_cases h1:(abB b (abH b) (abU b)).1≠0
 · rw[if_pos h1]at h;injection h with h _;exact absurd h h1
 rw[if_neg h1]at h;have h1:(abB b (abH b) (abU b)).1=0:=Decidable.byContradiction h1;by_cases h2:(adV b (abB b (abH b) (abU b)).2).1≠0
 · rw[if_pos h2]at h;injection h with h _;exact absurd h h2
 rw[if_neg h2]at h;have h2:(adV b (abB b (abH b) (abU b)).2).1=0:=Decidable.byContradiction h2;injection h with _ h;injection h with hN h;injection h with hl hd;obtain⟨hlo,hcn⟩:=alr h0;unfold acE at h0;by_cases a1:b.length<28
 · rw[if_pos a1]at h0;cases h0
 rw[if_neg a1]at h0;by_cases a2:b.take 8≠imMarkB
 · rw[if_pos a2]at h0;cases h0
 rw[if_neg a2]at h0;by_cases a3:aaS b 0 24=false
 · rw[if_pos a3]at h0;cases h0
 have a2:b.take 8=imMarkB:=Decidable.byContradiction a2;obtain⟨hlK,_⟩:=als h1;rw[hl]at hlK hd h2;unfold abB at h1 hl;by_cases a4:b.length<32+8*abU b
 · rw[if_pos a4]at h1;cases h1
 rw[if_neg a4]at h1 hl;by_cases a5:aaS b 28 (28+8*abU b)=false
 · rw[if_pos a5]at h1;cases h1
 rw[if_neg a5]at h1 hl
 cases hbk:aaQ (b.drop 28) (abU b) 184 with
 | none=>rw[hbk]at h1;cases h1
 | some l'=>
  rw[hbk]at h1 hl;unfold aq2 at h1 hl;dsimp only at h1 hl;by_cases a6:abe (abH b:Int) 184 false l'=false
  · rw[if_pos a6]at h1;cases h1
  rw[if_neg a6]at h1 hl;dsimp only at hl;subst hl;have hlK':=hlK;unfold adV at h2 hd;by_cases a7:b.length≠32+8*l'.length+aaK l'+8
  · rw[if_pos a7]at h2;cases h2
  rw[if_neg a7]at h2 hd;by_cases a8:aaS b (32+8*l'.length) (32+8*l'.length+aaK l')=false
  · rw[if_pos a8]at h2;cases h2
  rw[if_neg a8]at h2 hd;by_cases a9:aaS b 0 (32+8*l'.length+aaK l'+4)=false
  · rw[if_pos a9]at h2;cases h2
  rw[if_neg a9]at hd;have a7:b.length=32+8*l'.length+aaK l'+8:=Decidable.byContradiction a7;subst hN;exact⟨by omega,a2,aeh a3,rfl,hlo,hlK.symm,by omega,by rw[hlK];exact aeh a5,by rw[hlK];exact hbk,aeh a6,a7,aeh a8,aeh a9,hd.symm⟩
theorem af6{X:List UInt8}{i j:Nat}(hX:b.take j=X) (hj:j+4<=b.length) (_hij:i<=j) (h:aaS b i j=true):b.take (j+4)=afN X i:=by
 rw[<-agF hj]at h;have h:=of_decide_eq_true h;unfold afN;rw[List.take_add,<-h,<-hX,List.drop_take]
theorem ae9{X r:List UInt8}{i j:Nat}(hj:X.length=j) (hij:i<=j):aaS (afN X i++r) i j=true:=by
 have hl:(afN X i++r).length=j+4+r.length:=by unfold afN;rw[List.length_append,List.length_append,abY,hj]
 rw[<-agF (by omega)];apply decide_eq_true;unfold afN;have e1:((X++adU (X.drop i)++r).drop i).take (j-i)=X.drop i:=by
  rw[List.append_assoc,List.drop_append_of_le_length (by omega),List.take_append_of_le_length (by rw[List.length_drop];omega),List.take_of_length_le (by rw[List.length_drop];omega)]
 have e2:((X++adU (X.drop i)++r).drop j).take 4=adU (X.drop i):=by
  rw[List.append_assoc,<-hj,List.drop_left,List.take_append_of_le_length (by rw[abY];omega),List.take_of_length_le (by rw[abY];omega)]
 rw[e1,e2]
theorem akx{x:List UInt8}(h:x.length=8):aat 8 (abC x)=x:=by
 have:=agc x;rw[h]at this;exact this
theorem ap4{x:List UInt8}{s:Nat}{u:Bool}(h:x.length=8) (hu:adT (abC x)=some (s,u)) (o:Int):alj ⟨o,(s:Int),u⟩=x:=by
 obtain⟨h1,h2⟩:=adi hu;have h3:=afn h1 u;unfold alj;have e:ab0 (s:Int) u=abC x:=by
  rw[h2];unfold ab0;rw[if_pos h1];simp
 rw[e];exact akx h
theorem agJ:∀{k:Nat}{b:List UInt8}{o:Nat}{l:List Rk},8*k<=b.length->aaQ b k o=some l->abv l=b.take (8*k)
 | 0,b,o,l,_,h=>by
  rw[aaQ]at h;injection h with h;rw[<-h];rfl
 | k+1,b,o,l,hl,h=>by
  rw[aaQ]at h;split at h
  · cases h
  · rename_i s u e
    cases hm:aaQ (b.drop 8) k (o+s)with
    | none=>rw[hm]at h;cases h
    | some l'=>
     rw[hm]at h;injection h with h;rw[<-h];have ih:=agJ (by rw[List.length_drop];omega) hm;have:abv (⟨(o:Int),(s:Int),u⟩::l')=alj ⟨(o:Int),(s:Int),u⟩++abv l':=by
      unfold abv;rw[List.map_cons,List.flatten_cons]
     rw[this,ih,ap4 (by rw[List.length_take];omega) e,show 8*(k+1)=8+8*k from by omega,List.take_add]
theorem agK:∀{l:List Rk}{b:List UInt8},(∀x∈l,aa3 x.s=true)->aaK l<=b.length->datOk l (ae8 l b)=true
 | [],_,_,_=>rfl
 | x::l,b,h,hl=>by
  have hx:=(aae _).1 (h x (by simp));unfold aaK at hl;unfold datOk ae8
  cases hu:x.u with
  | false=>
   rw[hu]at hl;simp only[Bool.false_eq_true,if_false,Nat.zero_add]at hl ⊢;exact agK (l:=l) (fun y hy=>h y (by simp[hy])) hl
  | true=>
   rw[hu]at hl;simp only[if_true]at hl ⊢;have ih:=agK (l:=l) (b:=b.drop (x.s.toNat-16)) (fun y hy=>h y (by simp[hy])) (by rw[List.length_drop];omega);rw[ih,Bool.and_true,beq_iff_eq,List.length_take];omega
theorem Good.put (h:Good b N l d):b=aaM N l d/\acG (N:Int) l d=true:=by
 obtain⟨h28,hm,hs,hN,hlo,hK,hk,hst,hb,hr,hlen,h1,h2,hd⟩:=h;have hlB:=(aaN _).1 hlo;have hh:b.take 24=abR N l.length:=by
  have e1:(b.drop 8).take 8=aat 8 N:=by rw[<-hN];unfold abH;rw[akx];rw[List.length_take,List.length_drop];omega
  have e2:(b.drop 16).take 8=aat 8 l.length:=by rw[<-hK];unfold abU;rw[akx];rw[List.length_take,List.length_drop];omega
  unfold abR;rw[show 24=8+(8+8) from rfl,List.take_add,List.take_add,List.drop_drop,hm,e1,e2,List.append_assoc]
 have hA:b.take 28=agu N l.length:=af6 hh (by omega) (by omega) hs;have hT0:b.take (28+8*l.length)=agu N l.length++abv l:=by
  rw[List.take_add,hA,agJ (by rw[List.length_drop];omega) hb]
 have hT:b.take (28+8*l.length+4)=aft N l:=af6 hT0 (by omega) (by omega) hst;rw[show 28+8*l.length+4=32+8*l.length from by omega]at hT;have hheld:aaK l<=(b.drop (32+8*l.length)).length:=by rw[List.length_drop];omega
 have hD0:b.take (32+8*l.length+aaK l)=aft N l++d.flatten:=by
  rw[List.take_add,hT,hd,agH hheld]
 have hD:b.take (32+8*l.length+aaK l+4)=ag4 N l d:=by
  have:=af6 hD0 (by omega) (by omega) h1;rw[this];unfold ag4;rw[adc]
 have hB:b.take (32+8*l.length+aaK l+4+4)=aaM N l d:=af6 hD (by omega) (by omega) h2;refine⟨?_,?_⟩
 · rw[<-hB,List.take_of_length_le (by omega)]
 · unfold acG;rw[hlo,hr,hd,agK (ae0 hr) hheld];rfl
theorem afE:∀{l:List Rk}{d:List (List UInt8)},datOk l d=true->(∀x∈l,aa3 x.s=true)->aaK l=d.flatten.length
 | [],d,h,_=>by
  unfold datOk at h;rw[List.isEmpty_iff]at h;rw[h];rfl
 | x::l,d,h,hz=>by
  have hx:=(aae _).1 (hz x (by simp));have hz2:∀y∈l,aa3 y.s=true:=fun y hy=>hz y (by simp[hy]);unfold datOk at h;unfold aaK
  cases hu:x.u with
  | false=>
   rw[hu]at h;simp only[Bool.false_eq_true,if_false,Nat.zero_add]at h ⊢;exact afE h hz2
  | true=>
   rw[hu]at h;simp only[if_true]at h ⊢
   cases d with
   | nil=>cases h
   | cons y d'=>
    simp only[Bool.and_eq_true,beq_iff_eq]at h;rw[afE h.2 hz2,List.flatten_cons,List.length_append];omega
theorem afF:∀{l:List Rk}{d:List (List UInt8)}{r:List UInt8},datOk l d=true->(∀x∈l,aa3 x.s=true)->ae8 l (d.flatten++r)=d
 | [],d,r,h,_=>by
  unfold datOk at h;rw[List.isEmpty_iff]at h;rw[h];rfl
 | x::l,d,r,h,hz=>by
  have hx:=(aae _).1 (hz x (by simp));have hz2:∀y∈l,aa3 y.s=true:=fun y hy=>hz y (by simp[hy]);unfold datOk at h;unfold ae8
  cases hu:x.u with
  | false=>
   rw[hu]at h;simp only[Bool.false_eq_true,if_false]at h ⊢;exact afF h hz2
  | true=>
   rw[hu]at h;simp only[if_true]at h ⊢
   cases d with
   | nil=>cases h
   | cons y d'=>
    simp only[Bool.and_eq_true,beq_iff_eq]at h;have hy:x.s.toNat-16=y.length:=by omega
    rw[List.flatten_cons,List.append_assoc,hy,List.take_left,List.drop_left,afF h.2 hz2]
theorem ahE{n:Int}:∀{l:List Rk}{o:Nat}{f:Bool}{r:List UInt8},abe n (o:Int) f l=true->aaQ (abv l++r) l.length o=some l
 | [],o,f,r,_=>rfl
 | x::l,o,f,r,h=>by
  unfold abe at h;simp only[Bool.and_eq_true,beq_iff_eq]at h;obtain⟨ho,hs,_,_,hr⟩:=h;have hx:=(aae _).1 hs;have e:abv (x::l)++r=alj x++(abv l++r):=by
   unfold abv;rw[List.map_cons,List.flatten_cons,List.append_assoc]
  have hl:(alj x).length=8:=aab _ _;have hp:=aeQ x.s x.u;have hu:adT (abC (alj x))=some (x.s.toNat,x.u):=by
   unfold alj;rw[acs,Nat.mod_eq_of_lt (by omega)];exact afn hs x.u
  rw[e,List.length_cons,aaQ,<-hl,List.take_left,List.drop_left,hu];dsimp only;have hr2:abe n ((o+x.s.toNat:Nat):Int) (!x.u) l=true:=by
   rw[show((o+x.s.toNat:Nat):Int)=(o:Int)+x.s from by omega];exact hr
  rw[ahE hr2];have hxs:((x.s.toNat:Nat):Int)=x.s:=by omega
  show some ((⟨(o:Int),((x.s.toNat:Nat):Int),x.u⟩:Rk)::l)=some (x::l);rw[hxs,<-ho]
theorem aky (h:acG (N:Int) l d=true):Good (aaM N l d) N l d:=by
 unfold acG at h;simp only[Bool.and_eq_true]at h;obtain⟨hlo,hr,hdo⟩:=h;have hl:=(aaN _).1 hlo;have hk:l.length<=1024:=by have:=agt hr;omega
 have hz:=ae0 hr;have hheld:=afE hdo hz;have hDl:(aft N l++d.flatten).length=32+8*l.length+aaK l:=by rw[List.length_append,adc,hheld]
 have hPD:(ag4 N l d).length=32+8*l.length+aaK l+4:=by unfold ag4 afN;rw[List.length_append,hDl,abY]
 have hPB:(aaM N l d).length=32+8*l.length+aaK l+8:=by unfold aaM afN;rw[List.length_append,hPD,abY]
 obtain⟨r3,e3⟩:∃r,aaM N l d=ag4 N l d++r:=⟨_,rfl⟩;obtain⟨r2,e2⟩:∃r,aaM N l d=aft N l++d.flatten++r:=by
  rw[e3];unfold ag4 afN;rw[List.append_assoc];exact⟨_,rfl⟩
 obtain⟨r1,e1⟩:∃r,aaM N l d=aft N l++r:=by rw[e2,List.append_assoc];exact⟨_,rfl⟩
 obtain⟨r0,e0⟩:∃r,aaM N l d=agu N l.length++(abv l++r):=by
  rw[e1];unfold aft afN;rw[List.append_assoc,List.append_assoc];exact⟨_,rfl⟩
 obtain⟨rh,eh⟩:∃r,aaM N l d=abR N l.length++r:=by
  rw[e0];unfold agu afN;rw[List.append_assoc];exact⟨_,rfl⟩
 have hbl:aaQ ((aaM N l d).drop 28) l.length 184=some l:=by
  rw[e0,<-aeu N l.length,List.drop_left];exact ahE hr
 have s0:aaS (aaM N l d) 0 24=true:=by rw[e0];exact ae9 (acd _ _) (by omega)
 have s1:aaS (aaM N l d) 28 (28+8*l.length)=true:=by
  rw[e1];exact ae9 (by rw[List.length_append,aeu,adp]) (by omega)
 have s2:aaS (aaM N l d) (32+8*l.length) (32+8*l.length+aaK l)=true:=by
  rw[e3];unfold ag4;rw[adc];exact ae9 hDl (by omega)
 have s3:aaS (aaM N l d) 0 (32+8*l.length+aaK l+4)=true:=by
  have:=ae9 (X:=ag4 N l d) (r:= []) (i:=0) hPD (by omega);rw[List.append_nil]at this;exact this
 have hmk:(aaM N l d).take 8=imMarkB:=by
  rw[eh];unfold abR;rw[List.append_assoc,List.append_assoc,List.take_append_of_le_length (by decide)];rfl
 have hN:abH (aaM N l d)=N:=by
  unfold abH;rw[eh];unfold abR;rw[List.append_assoc,List.append_assoc,show(8:Nat)=imMarkB.length from rfl,List.drop_left];have:(aat imMarkB.length N).length=imMarkB.length:=aab _ _;rw[List.take_append_of_le_length (by rw[this];exact Nat.le_refl _),List.take_of_length_le (by rw[this];exact Nat.le_refl _),acs];exact Nat.mod_eq_of_lt (by show N<256^8;omega)
 have hC:abU (aaM N l d)=l.length:=by
  unfold abU;rw[eh];unfold abR;have h16:(imMarkB++aat 8 N).length=16:=by rw[List.length_append,aab];rfl
  rw[List.append_assoc,<-h16,List.drop_left];have:(aat 8 l.length).length=8:=aab _ _;rw[List.take_append_of_le_length (by rw[this];exact Nat.le_refl _),List.take_of_length_le (by rw[this];exact Nat.le_refl _),acs];exact Nat.mod_eq_of_lt (by omega)
 refine⟨by omega,hmk,s0,hN,hlo,hC,hk,s1,hbl,hr,hPB,s2,s3,?_⟩;rw[e2,List.append_assoc,<-adc N l,List.drop_left,afF hdo hz]
end
open Go.RowKit Go.ChangeShapes Go.WideShapes Go.Deep
section
variable {H:Type} {enc:TypeId × Value->H} {w:World} {base:Nat} {held:Bool} {fuel:Nat} {A:Option Addr} {len cap:Nat} {x:DataW H × List MemPlace}
theorem ap5 (h:DataW.trod enc Tryz.prog w base (fun _=>true) held fuel 56 [.slice A len cap]=some x):∃l:List Rk,l.length=len/\RkRd w w.heap.size A l/\len<=maxLen:=by
 have hC:Tryz.prog.cellsOf 132=3:=by kernel_rfl
 have hone:oneCellFields Tryz.prog (match Tryz.prog.underlying 132 with
  | some (.struct fs)=>fs
  | _=> #[])=true:=by kernel_rfl
 rw[Tryz.underlying132]at hone;dsimp only at hone;rcases open_slice Tryz.underlying56 h with⟨hcs,_⟩ | ⟨a,l,c,m,n,D,Pl,hcs,_,hl,hm,hmm,_,hi⟩
 · simp at hcs;obtain⟨rfl,rfl,rfl⟩:=hcs;exact⟨[],rfl,fun hn=>absurd hn (by simp),Nat.zero_le _⟩
 · simp at hcs;obtain⟨rfl,rfl,rfl⟩:=hcs;simp only[if_true]at hmm;subst hmm;rw[hC]at hi;obtain⟨ds,hd,hp⟩:=akc (p:=fun i (d:Rk)=>w.cell? (a.add (i*3))=some (.int .i64 d.o)/\w.cell? (a.add (i*3+1))=some (.int .i64 d.s)/\w.cell? (a.add (i*3+2))=some (.bool d.u)/\
    (-9223372036854775808<=d.o/\d.o<=9223372036854775807)/\(-9223372036854775808<=d.s/\d.s<=9223372036854775807)) len (fun i hil=>by
    obtain⟨cs',hc,ht⟩:=hi i (by omega);obtain⟨_,hcl,hat⟩:=World.cells?_some hc;obtain⟨xs,n',_,_,_,hlen,hf⟩:=DataW.trod_struct Tryz.underlying132 ht;match cs',hcl,xs,hlen with
    | [v0,v1,v2],_,[y0,y1,y2],_=>
     have g0:=hf 0 _ rfl;have g1:=hf 1 _ rfl;have g2:=hf 2 _ rfl;rw[(hone_of hone 0 _ rfl).1,(hone_of hone 0 _ rfl).2]at g0;rw[(hone_of hone 1 _ rfl).1,(hone_of hone 1 _ rfl).2]at g1;rw[(hone_of hone 2 _ rfl).1,(hone_of hone 2 _ rfl).2]at g2;simp only[List.drop_zero,List.drop_succ_cons,List.take_succ_cons,List.take_zero,List.getElem?_cons_zero,List.getElem?_cons_succ]at g0 g1 g2;obtain⟨n0,h0,_,w0⟩:=DataW.trod_int Tryz.underlying3 g0;obtain⟨n1,h1,_,w1⟩:=DataW.trod_int Tryz.underlying3 g1;obtain⟨u,h2,_⟩:=DataW.trod_bool Tryz.underlying4 g2;simp at h0 h1 h2;subst h0 h1 h2;have b0:=bounds_i64 w0;have b1:=bounds_i64 w1;have a0:=hat 0 (by omega);have a1:=hat 1 (by omega);have a2:=hat 2 (by omega);rw[Go.Deep.add_add]at a0 a1 a2;exact⟨⟨n0,n1,u⟩,a0,a1,a2,by dsimp only;omega,by dsimp only;omega⟩)
   refine⟨ds,hd,fun hn=> ?_,by omega⟩;obtain⟨d,hd0⟩:∃d,ds[0]?=some d:=⟨ds[0],List.getElem?_eq_getElem hn⟩;obtain⟨h0,_⟩:=hp 0 d hd0;rw[Nat.zero_mul]at h0;obtain⟨b,o,rfl,hlt,e⟩:=agq h0;refine⟨b,o,rfl,hlt,fun j d hj=> ?_⟩;obtain⟨h0,h1,h2,h3⟩:=hp j d hj;rw[e]at h0 h1 h2;exact⟨h0,h1,h2,h3⟩
theorem ap6 (h:DataW.trod enc Tryz.prog w base (fun _=>true) held fuel 57 [.slice A len cap]=some x):∃l:List (List UInt8),l.length=len/\DtRd w w.heap.size A l/\len<=maxLen:=by
 have hC:Tryz.prog.cellsOf 37=1:=by kernel_rfl
 rcases open_slice Tryz.underlying57 h with⟨hcs,_⟩ | ⟨a,l,c,m,n,D,Pl,hcs,_,hl,hm,hmm,_,hi⟩
 · simp at hcs;obtain⟨rfl,rfl,rfl⟩:=hcs;exact⟨[],rfl,fun hn=>absurd hn (by simp),Nat.zero_le _⟩
 · simp at hcs;obtain⟨rfl,rfl,rfl⟩:=hcs;simp only[if_true]at hmm;subst hmm;rw[hC]at hi;obtain⟨ds,hd,hp⟩:=akc (p:=fun i (y:List UInt8)=>∃A' k,w.cell? (a.add i)=some (.slice A' y.length k)/\Rd w w.heap.size A' y.length y/\y.length<=maxLen/\y.length<=k/\(A'=none->k=0)) len (fun i hil=>by
    obtain⟨cs',hc,ht⟩:=hi i (by omega);obtain⟨_,hcl,hat⟩:=World.cells?_some hc;match cs',hcl with
    | [v5],_=>
     obtain⟨bA,bn,bc,rfl⟩:∃bA bn bc,v5= .slice bA bn bc:=by
      rcases open_slice Tryz.underlying37 ht with⟨h,_⟩ | ⟨a,l,c,_,_,_,_,h,_⟩
      · exact⟨_,_,_,by simpa using h⟩
      · exact⟨_,_,_,by simpa using h⟩
     obtain⟨bs,hbs,hbl,hbc,hA0⟩:=alg ht;obtain rfl:bs.length=bn:=hbs.1;have a0:=hat 0 (by omega);rw[Go.Deep.add_add]at a0;rw[Nat.mul_one,Nat.add_zero]at a0;exact⟨bs,bA,bc,a0,hbs,Nat.le_trans hbl hbc,hbl,hA0⟩)
   refine⟨ds,hd,fun hn=> ?_,by omega⟩;obtain⟨d,hd0⟩:∃d,ds[0]?=some d:=⟨ds[0],List.getElem?_eq_getElem hn⟩;obtain⟨A',k,h0,_⟩:=hp 0 d hd0;obtain⟨b,o,rfl,hlt,e⟩:=agq h0;refine⟨b,o,rfl,hlt,fun j d hj=> ?_⟩;obtain⟨A',k,h0,h1,h2⟩:=hp j d hj;rw[e]at h0;exact⟨A',k,h0,h1,h2⟩
end
def abm (ok:Bool) (k:Int):Value:=match ok with
 | true=> .nilIface
 | false=> .iface 90 (.int .i64 k)
def ab4 (x:Option Bk) (w:World) (e:Ending) (w':World):Prop:=e= .returned (.tuple #[bkV x,abm x.isSome 3])/\Below w.heap.size w w'
def adP (x:Option (List Bk)) (w:World) (e:Ending) (w':World):Prop:=
 ∃A' c',e= .returned (.tuple #[.slice A' (x.getD []).length c',abm x.isSome 3])/\w'.ownsRow w.heap.size 132 3 (.slice A' (x.getD []).length c') (x.getD []).length (aaD (x.getD []))/\Below w.heap.size w w'
def ap7 (k:Int) (t:TypeId) (g base cap:Nat) (A:Option Addr) (y:Option (List UInt8)) (w:World) (e:Ending) (w':World):Prop:=
 match y with
 | none=>e= .returned (abm false k)/\Below w.heap.size w w'
 | some out=>e= .returned (abm true k)/\Became t g base cap A out w w'
def atL:Prop:=∀(w:World) (g base cap c:Nat) (A:Option Addr) (bs:List UInt8) (o:Int) (x:Option Bk),Ar w 160 g base cap A c bs->base<=4611686018427387904->bs.length<=16384->(-9223372036854775808<=o/\o<=9223372036854775807)->abV bs o=x->
 Calls Tryz.prog 138 #[.pointer (some ⟨g,0,none⟩), .int .i64 o] w fun e w'=>ab4 x w e w'
def atM:Prop:=∀(w:World) (g base cap c:Nat) (A:Option Addr) (bs:List UInt8) (o s:Int) (u:Bool) (y:Option (List UInt8)),Ar w 160 g base cap A c bs->base<=4611686018427387904->bs.length<=16384->(-9223372036854775808<=o/\o<=9223372036854775807)->(-9223372036854775808<=s/\s<=9223372036854775807)->setB bs o s u=y->
 Calls Tryz.prog 184 #[.pointer (some ⟨g,0,none⟩), .agg #[.int .i64 o, .int .i64 s, .bool u]] w fun e w'=>ap7 1 160 g base cap A y w e w'
def asB:Prop:=∀(w:World) (g base cap c:Nat) (A:Option Addr) (bs:List UInt8) (x:Option (List Bk)),Ar w 160 g base cap A c bs->base<=4611686018427387904->bs.length<=16384->abJ bs=x->
 Calls Tryz.prog 81 #[.pointer (some ⟨g,0,none⟩)] w fun e w'=>adP x w e w'
theorem aoj (bs:List UInt8) (x:Bk) (h1:184<=x.off) (h2:x.off%16=8) (h3:x.off+x.size<=bs.length) (h4:aa3 (x.size:Int)=true):setB bs (x.off:Int) (x.size:Int) x.used=some (ac6 bs x):=by
 have h5:=(aae _).1 h4;unfold setB ac6 anr;rw[if_pos ⟨h4,(abk _ _ _).2 (by omega)⟩,akd,akd];have e:((x.off:Int)+(x.size:Int)-8).toNat=x.off+x.size-8:=by omega
 rw[e];simp
theorem BkRd.of_own{w:World}{base:Nat}{t:TypeId}{A:Option Addr}{c:Nat}{l:List Bk}(h:w.ownsRow base t 3 (.slice A l.length c) l.length (aaD l)):BkRd w w.heap.size A l:=anI h rfl
def adr (base:Nat) (o:Int):Nat:=(((base:Int)+o)%18446744073709551616).toNat
theorem aq4 (base:Nat) (o:Int):adr base o<18446744073709551616:=by unfold adr;omega
theorem aiq (base:Nat) (hb:base<=4611686018427387904) (o:Nat) (ho:(o:Int)<=9223372036854775807):adr base (o:Int)=base+o:=by unfold adr;omega
theorem aok (base:Nat) (hb:base<=4611686018427387904) (o:Int) (ho: -9223372036854775900<=o/\o<=9223372036854775807) (n k:Nat) (hn:n+k<=1000000) (hk:1<=k) (h:o<0\/(n:Int)<o+k):base<=adr base o->n<adr base o-base+k:=by unfold adr;omega
def wdV (o:Option Nat):Value:=match o with
 | some v=> .tuple #[.int .u64 (v:Int), .nilIface]
 | none=> .tuple #[.int .u64 0, .iface 90 (.int .i64 2)]
def plc (o:Int):Bool:=decide (184<=o)&&(o%16==8)
theorem agL (o:Int):plc o=true ↔ 184<=o/\o%16=8:=by simp[plc]
section
variable {w:World} {g base cap c:Nat} {A:Option Addr} {bs:List UInt8}
theorem ac5 (h:Ar w 160 g base cap A c bs) (hb:base<=4611686018427387904) (hl:bs.length<=16384) (o:Int) (ho: -9223372036854775900<=o/\o<=9223372036854775807) (x:Option Nat) (hx:word? bs o=x):
 Calls Tryz.prog 193 #[.pointer (some ⟨g,0,none⟩), .int .u64 (adr base o:Int)] w fun e w'=>e= .returned (wdV x)/\w=w':=by
 subst hx;by_cases h1:0<=o/\o+8<=bs.length
 · obtain⟨p,rfl⟩:∃p:Nat,o=(p:Int):=⟨o.toNat,by omega⟩;have e:word? bs (p:Int)=some (aai bs p):=by unfold word?;rw[if_pos (by omega)];rfl
   rw[e,aiq base hb p (by omega)];exact ark h (by omega) (base+p) p (by omega) (by omega) (by omega) (by omega)
 · have e:word? bs o=none:=by unfold word?;rw[if_neg h1]
   rw[e];exact arl h (by omega) (adr base o) (aq4 _ _) (aok base hb o ho bs.length 8 (by omega) (by omega) (by omega))
theorem aa1 (h:Ar w 160 g base cap A c bs) (o:Int):
 Calls Tryz.prog 194 #[.pointer (some ⟨g,0,none⟩), .int .i64 o] w fun e w'=>e= .returned (.int .u64 (adr base o:Int))/\w=w':=by
 have HB:=hE0 (ac7 h);go_enter Tryz.func194,Tryz.ntmps194
 go_wp2_with fail
 refine HB.out.mono ?_;rintro e w1 ⟨rfl,rfl⟩;go_wp2
 go_ret
 exact⟨ao9 (by simp only[IntKind.wrap_u64];unfold adr;omega),rfl⟩
theorem abr (w:World) (o:Int) (ho: -9223372036854775808<=o/\o<=9223372036854775807) (b:Bool) (hb:plc o=b):
 Calls Tryz.prog 192 #[.int .i64 o] w fun e w'=>e= .returned (.bool b)/\w=w':=by
 by_cases h1:184<=o
 · have e:((o-184)%16==0)=b:=by
    rw[<-hb];unfold plc;rw[decide_eq_true h1,Bool.true_and,Bool.eq_iff_iff,beq_iff_eq,beq_iff_eq];omega
   have HE:=hE0 e;clear hb e;go_enter Tryz.func192,Tryz.ntmps192
   go_wp2
   go_ret
   exact⟨apu HE.out,rfl⟩
 · obtain rfl:false=b:=by rw[<-hb];simp[plc,h1]
   clear hb;go_enter Tryz.func192,Tryz.ntmps192
   go_wp2
   go_ret
   exact⟨rfl,rfl⟩
end
section
variable {w:World} {g base cap c:Nat} {A:Option Addr} {bs:List UInt8}
theorem atb (h:Ar w 160 g base cap A c bs) (o:Int) (ho: -9223372036854775808<=o/\o<=9223372036854775807) (hc:plc o=false):
 Calls Tryz.prog 138 #[.pointer (some ⟨g,0,none⟩), .int .i64 o] w fun e w'=>e= .returned (.tuple #[bkV none,abm false 3])/\Below w.heap.size w w':=by
 obtain⟨w1,hw1⟩:=nmE (w.alloc (.cells #[.int .i64 0, .int .i64 0, .bool false] 132));have hb1:=abE hw1;have hn1:=anE hw1;have h1:=h.below hb1;have HC:=hE0 (abr w1 o ho false hc);have HW1:=hE0 hw1;have HB1:=hE0 hb1;have HN1:=hE0 hn1;clear hc hw1 hb1 hn1 h1 h;go_enter Tryz.func138,Tryz.ntmps138
 go_wp2_with fail
 rw[HW1.out]
 with_reducible refine HC.out.mono ?_
 rintro e w2 ⟨rfl,rfl⟩;obtain⟨⟨c0,c1,c2⟩,f0,f1,f2⟩:=aar HN1.out;go_wp2
 (try simp only[Exit.inBlock,Exit.then])
 refine acn (x:=abm false 3) Tryz.results138 ?_ ?_ ?_ (ab2 HN1.out _ _ _) ?_
 · rfl
 · rfl
 · rfl
 · exact⟨rfl,((HB1.out.setCell (Nat.le_refl _) _).setCell (Nat.le_refl _) _).setCell (Nat.le_refl _) _⟩
theorem atc (h:Ar w 160 g base cap A c bs) (hb:base<=4611686018427387904) (hl:bs.length<=16384) (o:Int) (ho: -9223372036854775808<=o/\o<=9223372036854775807) (hc:plc o=true) (hv:word? bs o=none):
 Calls Tryz.prog 138 #[.pointer (some ⟨g,0,none⟩), .int .i64 o] w fun e w'=>e= .returned (.tuple #[bkV none,abm false 3])/\Below w.heap.size w w':=by
 obtain⟨w1,hw1⟩:=nmE (w.alloc (.cells #[.int .i64 0, .int .i64 0, .bool false] 132));have hb1:=abE hw1;have hn1:=anE hw1;have h1:=h.below hb1;have HC:=hE0 (abr w1 o ho true hc);have HA:=hE0 (aa1 h1 o);have hwd:=ac5 h1 hb hl o (by omega) _ hv;dsimp only[wdV]at hwd;have HW:=hE0 hwd;have HW1:=hE0 hw1;have HB1:=hE0 hb1;have HN1:=hE0 hn1;clear hc hv hwd hw1 hb1 hn1 h1 h;go_enter Tryz.func138,Tryz.ntmps138
 go_wp2_with fail
 rw[HW1.out]
 with_reducible refine HC.out.mono ?_
 rintro e w2 ⟨rfl,rfl⟩;go_wp2_with fail
 with_reducible refine HA.out.mono ?_
 rintro e w2 ⟨rfl,rfl⟩;go_wp2_with fail
 with_reducible refine HW.out.mono ?_
 rintro e w2 ⟨rfl,rfl⟩;obtain⟨⟨c0,c1,c2⟩,f0,f1,f2⟩:=aar HN1.out;go_wp2
 (try simp only[Exit.inBlock,Exit.then])
 refine acn (x:=abm false 3) Tryz.results138 ?_ ?_ ?_ (ab2 HN1.out _ _ _) ?_
 · rfl
 · rfl
 · rfl
 · exact⟨rfl,((HB1.out.setCell (Nat.le_refl _) _).setCell (Nat.le_refl _) _).setCell (Nat.le_refl _) _⟩
theorem atd (h:Ar w 160 g base cap A c bs) (hb:base<=4611686018427387904) (hl:bs.length<=16384) (o:Int) (ho: -9223372036854775808<=o/\o<=9223372036854775807) (hc:plc o=true) (v:Nat) (hvl:v<18446744073709551616) (hv:word? bs o=some v) (hu:adT v=none):
 Calls Tryz.prog 138 #[.pointer (some ⟨g,0,none⟩), .int .i64 o] w fun e w'=>e= .returned (.tuple #[bkV none,abm false 3])/\Below w.heap.size w w':=by
 obtain⟨w1,hw1⟩:=nmE (w.alloc (.cells #[.int .i64 0, .int .i64 0, .bool false] 132));have hb1:=abE hw1;have hn1:=anE hw1;have h1:=h.below hb1;have HC:=hE0 (abr w1 o ho true hc);have HA:=hE0 (aa1 h1 o);have hwd:=ac5 h1 hb hl o (by omega) _ hv;dsimp only[wdV]at hwd;have HW:=hE0 hwd;have hup:=ack w1 v hvl;rw[hu]at hup;dsimp only[ann]at hup;have HU:=hE0 hup;have HW1:=hE0 hw1;have HB1:=hE0 hb1;have HN1:=hE0 hn1;clear hc hv hwd hu hup hw1 hb1 hn1 h1 h;go_enter Tryz.func138,Tryz.ntmps138
 go_wp2_with fail
 rw[HW1.out]
 with_reducible refine HC.out.mono ?_
 rintro e w2 ⟨rfl,rfl⟩;go_wp2_with fail
 with_reducible refine HA.out.mono ?_
 rintro e w2 ⟨rfl,rfl⟩;go_wp2_with fail
 with_reducible refine HW.out.mono ?_
 rintro e w2 ⟨rfl,rfl⟩;go_wp2_with fail
 with_reducible refine HU.out.mono ?_
 rintro e w2 ⟨rfl,rfl⟩;obtain⟨⟨c0,c1,c2⟩,f0,f1,f2⟩:=aar HN1.out;go_wp2
 (try simp only[Exit.inBlock,Exit.then])
 refine acn (x:=abm false 3) Tryz.results138 ?_ ?_ ?_ (ab2 HN1.out _ _ _) ?_
 · rfl
 · rfl
 · rfl
 · exact⟨rfl,((HB1.out.setCell (Nat.le_refl _) _).setCell (Nat.le_refl _) _).setCell (Nat.le_refl _) _⟩
theorem ate (h:Ar w 160 g base cap A c bs) (hb:base<=4611686018427387904) (hl:bs.length<=16384) (o:Int) (ho: -9223372036854775808<=o/\o<=9223372036854775807) (hc:plc o=true) (v:Nat) (hvl:v<18446744073709551616) (hv:word? bs o=some v) (s:Nat) (u:Bool) (hu:adT v=some (s,u)) (hs:32<=s/\s<=16384) (hob:0<=o/\o<=16384) (hv2:word? bs (o+(s:Int)-8)=none):
 Calls Tryz.prog 138 #[.pointer (some ⟨g,0,none⟩), .int .i64 o] w fun e w'=>e= .returned (.tuple #[bkV none,abm false 3])/\Below w.heap.size w w':=by
 obtain⟨w1,hw1⟩:=nmE (w.alloc (.cells #[.int .i64 0, .int .i64 0, .bool false] 132));have hb1:=abE hw1;have hn1:=anE hw1;have h1:=h.below hb1;have HC:=hE0 (abr w1 o ho true hc);have HA:=hE0 (aa1 h1 o);have hwd:=ac5 h1 hb hl o (by omega) _ hv;dsimp only[wdV]at hwd;have HW:=hE0 hwd;have hup:=ack w1 v hvl;rw[hu]at hup;dsimp only[ann]at hup;have HU:=hE0 hup;have HA2:=hE0 (aa1 h1 (o+(s:Int)-8));have hwd2:=ac5 h1 hb hl (o+(s:Int)-8) (by omega) _ hv2;dsimp only[wdV]at hwd2;have HW2:=hE0 hwd2;have HW1:=hE0 hw1;have HB1:=hE0 hb1;have HN1:=hE0 hn1;clear hc hv hwd hu hup hv2 hwd2 hw1 hb1 hn1 h1 h;go_enter Tryz.func138,Tryz.ntmps138
 go_wp2_with fail
 rw[HW1.out]
 with_reducible refine HC.out.mono ?_
 rintro e w2 ⟨rfl,rfl⟩;go_wp2_with fail
 with_reducible refine HA.out.mono ?_
 rintro e w2 ⟨rfl,rfl⟩;go_wp2_with fail
 with_reducible refine HW.out.mono ?_
 rintro e w2 ⟨rfl,rfl⟩;go_wp2_with fail
 with_reducible refine HU.out.mono ?_
 rintro e w2 ⟨rfl,rfl⟩;go_wp2_with fail
 with_reducible refine HA2.out.mono ?_
 rintro e w2 ⟨rfl,rfl⟩;go_wp2_with fail
 with_reducible refine HW2.out.mono ?_
 rintro e w2 ⟨rfl,rfl⟩;obtain⟨⟨c0,c1,c2⟩,f0,f1,f2⟩:=aar HN1.out;go_wp2
 (try simp only[Exit.inBlock,Exit.then])
 refine acn (x:=abm false 3) Tryz.results138 ?_ ?_ ?_ (ab2 HN1.out _ _ _) ?_
 · rfl
 · rfl
 · rfl
 · exact⟨rfl,((HB1.out.setCell (Nat.le_refl _) _).setCell (Nat.le_refl _) _).setCell (Nat.le_refl _) _⟩
theorem atf (h:Ar w 160 g base cap A c bs) (hb:base<=4611686018427387904) (hl:bs.length<=16384) (o:Int) (ho: -9223372036854775808<=o/\o<=9223372036854775807) (hc:plc o=true) (v:Nat) (hvl:v<18446744073709551616) (hv:word? bs o=some v) (s:Nat) (u:Bool) (hu:adT v=some (s,u)) (hs:32<=s/\s<=16384) (hob:0<=o/\o<=16384) (v2:Nat) (hv2:word? bs (o+(s:Int)-8)=some v2) (hne:v2≠v):
 Calls Tryz.prog 138 #[.pointer (some ⟨g,0,none⟩), .int .i64 o] w fun e w'=>e= .returned (.tuple #[bkV none,abm false 3])/\Below w.heap.size w w':=by
 obtain⟨w1,hw1⟩:=nmE (w.alloc (.cells #[.int .i64 0, .int .i64 0, .bool false] 132));have hb1:=abE hw1;have hn1:=anE hw1;have h1:=h.below hb1;have HC:=hE0 (abr w1 o ho true hc);have HA:=hE0 (aa1 h1 o);have hwd:=ac5 h1 hb hl o (by omega) _ hv;dsimp only[wdV]at hwd;have HW:=hE0 hwd;have hup:=ack w1 v hvl;rw[hu]at hup;dsimp only[ann]at hup;have HU:=hE0 hup;have HA2:=hE0 (aa1 h1 (o+(s:Int)-8));have hwd2:=ac5 h1 hb hl (o+(s:Int)-8) (by omega) _ hv2;dsimp only[wdV]at hwd2;have HW2:=hE0 hwd2;have hq:((v2:Int) !=(v:Int))=true:=by rw[bne_iff_ne];omega
 have HW1:=hE0 hw1;have HB1:=hE0 hb1;have HN1:=hE0 hn1;clear hc hv hwd hu hup hv2 hwd2 hne hw1 hb1 hn1 h1 h;go_enter Tryz.func138,Tryz.ntmps138
 go_wp2_with fail
 rw[HW1.out]
 with_reducible refine HC.out.mono ?_
 rintro e w2 ⟨rfl,rfl⟩;go_wp2_with fail
 with_reducible refine HA.out.mono ?_
 rintro e w2 ⟨rfl,rfl⟩;go_wp2_with fail
 with_reducible refine HW.out.mono ?_
 rintro e w2 ⟨rfl,rfl⟩;go_wp2_with fail
 with_reducible refine HU.out.mono ?_
 rintro e w2 ⟨rfl,rfl⟩;go_wp2_with fail
 with_reducible refine HA2.out.mono ?_
 rintro e w2 ⟨rfl,rfl⟩;go_wp2_with fail
 with_reducible refine HW2.out.mono ?_
 rintro e w2 ⟨rfl,rfl⟩;obtain⟨⟨c0,c1,c2⟩,f0,f1,f2⟩:=aar HN1.out;go_wp2
 (try simp only[Exit.inBlock,Exit.then])
 refine acn (x:=abm false 3) Tryz.results138 ?_ ?_ ?_ (ab2 HN1.out _ _ _) ?_
 · rfl
 · rfl
 · rfl
 · exact⟨rfl,((HB1.out.setCell (Nat.le_refl _) _).setCell (Nat.le_refl _) _).setCell (Nat.le_refl _) _⟩
theorem atg (h:Ar w 160 g base cap A c bs) (hb:base<=4611686018427387904) (hl:bs.length<=16384) (o:Nat) (ho: -9223372036854775808<=(o:Int)/\(o:Int)<=9223372036854775807) (hc:plc (o:Int)=true) (v:Nat) (hvl:v<18446744073709551616) (hv:word? bs (o:Int)=some v) (s:Nat) (u:Bool) (hu:adT v=some (s,u)) (hs:32<=s/\s<=16384) (hob:0<=(o:Int)/\(o:Int)<=16384) (hv2:word? bs ((o:Int)+(s:Int)-8)=some v):
 Calls Tryz.prog 138 #[.pointer (some ⟨g,0,none⟩), .int .i64 (o:Int)] w fun e w'=>e= .returned (.tuple #[bkV (some ⟨o,s,u⟩),abm true 3])/\Below w.heap.size w w':=by
 obtain⟨w1,hw1⟩:=nmE (w.alloc (.cells #[.int .i64 0, .int .i64 0, .bool false] 132));have hb1:=abE hw1;have hn1:=anE hw1;have h1:=h.below hb1;have HC:=hE0 (abr w1 (o:Int) ho true hc);have HA:=hE0 (aa1 h1 (o:Int));have hwd:=ac5 h1 hb hl (o:Int) (by omega) _ hv;dsimp only[wdV]at hwd;have HW:=hE0 hwd;have hup:=ack w1 v hvl;rw[hu]at hup;dsimp only[ann]at hup;have HU:=hE0 hup;have HA2:=hE0 (aa1 h1 ((o:Int)+(s:Int)-8));have hwd2:=ac5 h1 hb hl ((o:Int)+(s:Int)-8) (by omega) _ hv2;dsimp only[wdV]at hwd2;have HW2:=hE0 hwd2;have HW1:=hE0 hw1;have HB1:=hE0 hb1;have HN1:=hE0 hn1;clear hc hv hwd hu hup hv2 hwd2 hw1 hb1 hn1 h1 h;go_enter Tryz.func138,Tryz.ntmps138
 go_wp2_with fail
 rw[HW1.out]
 with_reducible refine HC.out.mono ?_
 rintro e w2 ⟨rfl,rfl⟩;go_wp2_with fail
 with_reducible refine HA.out.mono ?_
 rintro e w2 ⟨rfl,rfl⟩;go_wp2_with fail
 with_reducible refine HW.out.mono ?_
 rintro e w2 ⟨rfl,rfl⟩;go_wp2_with fail
 with_reducible refine HU.out.mono ?_
 rintro e w2 ⟨rfl,rfl⟩;go_wp2_with fail
 with_reducible refine HA2.out.mono ?_
 rintro e w2 ⟨rfl,rfl⟩;go_wp2_with fail
 with_reducible refine HW2.out.mono ?_
 rintro e w2 ⟨rfl,rfl⟩;obtain⟨⟨c0,c1,c2⟩,f0,f1,f2⟩:=aar HN1.out;go_wp2
 (try simp only[Exit.inBlock,Exit.then])
 refine acn (x:=abm true 3) Tryz.results138 ?_ ?_ ?_ (ab2 HN1.out _ _ _) ?_
 · rfl
 · rfl
 · rfl
 · exact⟨rfl,((HB1.out.setCell (Nat.le_refl _) _).setCell (Nat.le_refl _) _).setCell (Nat.le_refl _) _⟩
end
theorem aq5:atL:=by
 intro w g base cap c A bs o x h hb hl ho hx;subst hx;unfold ab4
 cases hc:plc o with
 | false=>
  have e:abV bs o=none:=by
   unfold abV;rw[if_pos];rw[Bool.eq_false_iff];intro h2;have:=(abk _ _ _).1 h2;rw[(agL o).2 (by omega)]at hc
   cases hc
  rw[e];exact atb h o ho hc
 | true=>
  have hp:=(agL o).1 hc;obtain⟨p,rfl⟩:∃p:Nat,o=(p:Int):=⟨o.toNat,by omega⟩;by_cases h8:p+8<=bs.length
  · have hcd:aj7 bs.length (p:Int) 8=true:=(abk _ _ _).2 (by omega);have hv:word? bs (p:Int)=some (aai bs p):=by unfold word?;rw[if_pos (by omega)];rfl
    cases hu:adT (aai bs p)with
    | none=>
     have e:abV bs (p:Int)=none:=by unfold abV;rw[if_neg (by rw[hcd];simp),Int.toNat_natCast,hu]
     rw[e];exact atd h hb hl (p:Int) ho hc _ (abd _ _) hv hu
    | some su=>
     obtain⟨s,u⟩:=su;have hss:=(aae _).1 (adi hu).1
     cases hc2:aj7 bs.length (p:Int) (s:Int)with
     | false=>
      have e:abV bs (p:Int)=none:=by unfold abV;rw[if_neg (by rw[hcd];simp),Int.toNat_natCast,hu];dsimp only;rw[if_pos hc2]
      rw[e];refine ate h hb hl (p:Int) ho hc _ (abd _ _) hv s u hu (by omega) (by omega) ?_;unfold word?;rw[if_neg];intro h2;rw[(abk _ _ _).2 (by omega)]at hc2
      cases hc2
     | true=>
      have hb2:=(abk _ _ _).1 hc2;have hv2:word? bs ((p:Int)+(s:Int)-8)=some (aai bs (p+s-8)):=by
       unfold word?;rw[if_pos (by omega),show((p:Int)+(s:Int)-8).toNat=p+s-8 by omega]
      by_cases hw:aai bs (p+s-8)=aai bs p
      · have e:abV bs (p:Int)=some ⟨p,s,u⟩:=by unfold abV;rw[if_neg (by rw[hcd];simp),Int.toNat_natCast,hu];dsimp only;rw[if_neg (by rw[hc2];simp),if_pos hw]
        rw[e];rw[hw]at hv2;exact atg h hb hl p ho hc _ (abd _ _) hv s u hu (by omega) (by omega) hv2
      · have e:abV bs (p:Int)=none:=by unfold abV;rw[if_neg (by rw[hcd];simp),Int.toNat_natCast,hu];dsimp only;rw[if_neg (by rw[hc2];simp),if_neg hw]
        rw[e];exact atf h hb hl (p:Int) ho hc _ (abd _ _) hv s u hu (by omega) (by omega) _ hv2 hw
  · have e:abV bs (p:Int)=none:=by
     unfold abV;rw[if_pos];rw[Bool.eq_false_iff];intro h2;have:=(abk _ _ _).1 h2;omega
    rw[e];exact atc h hb hl (p:Int) ho hc (by unfold word?;rw[if_neg (by omega)])
end Go.Proofs.YthnfclimjmmckaaGreatDoor
