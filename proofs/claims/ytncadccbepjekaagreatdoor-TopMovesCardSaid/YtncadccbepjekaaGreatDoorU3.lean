/- Texts of mine, joined. -/
import Derived.Test.YtncadccbepjekaaGreatDoorU2
set_option maxRecDepth 100000
set_option maxHeartbeats 400000
namespace Go.Proofs.YtncadccbepjekaaGreatDoor
open Go.RowKit
theorem amo (k:Nat):Builtin.zeroCells (Value.int .u8 0).cells k=((List.replicate k (0:UInt8)).map bv).toArray:=by
 apply Array.ext
 · simp[Builtin.zeroCells,Value.cells]
 · intro i h1 h2;simp[Builtin.zeroCells,Value.cells,bv,Nat.mod_one]
theorem adO{P:Program}(w:World) (t tn ty e:TypeId) (kn:IntKind) (ht:P.underlying t=some (.slice e)) (htn:P.underlying tn=some (.int kn))
 (hinfo:(P.info? e).map (fun i=>(i.zero,i.size,i.bytes))=some (some (.int .u8 0),1,1))
 (base:Nat) (A:Option Addr) (c:Nat) (bs:List UInt8) (hown:w.ownsRow base e 1 (.slice A bs.length c) bs.length (bs.map bv)) (k:Nat) (hk:bs.length+k<=1000000) (hbase:base<=w.heap.size):
 ∃A' c' w',(Builtin.append_ #[t,tn] ty #[.slice A bs.length c, .int .i64 (k:Int)]).run P w= .ok (.slice A' (bs.length+k) c') w'/\
  w'.ownsRow base e 1 (.slice A' (bs.length+k) c') (bs.length+k) ((bs++List.replicate k 0).map bv)/\w.grownBy w' (Value.slice A bs.length c).ownBlock/\(A'=A\/A'=some ⟨w.heap.size,0,none⟩):=by
 obtain⟨i,hi,hz,hs,hb⟩:=info_parts hinfo;have hw:IntKind.i64.wrap (k:Int)=k:=by rw[IntKind.wrap_i64];omega
 have hw0:IntKind.i64.wrap (0:Int)=0:=by decide
 have hneg:¬((k:Int)<0):=by omega
 have h48:¬(281474976710656<(k:Int)):=by omega
 have hlen:((bs++List.replicate k 0).map bv).length=bs.length+k:=by simp
 have hc:bs.length<=c:=by
  rcases hown.2 with⟨h',h0⟩ | ⟨g',cap',cur,h',_,_,h1,_⟩
  · rw[h0];exact Nat.zero_le _
  · injection h' with _ _ e3;subst e3;exact h1
 by_cases hroom:bs.length+k<=c
 · rcases hown.2 with⟨h',h0⟩ | ⟨g,cap,cur,h',hbg,hg,hnc,hcm,hcs,htake⟩
   · injection h' with e1 e2 e3;subst e1 e3;obtain rfl:k=0:=by omega
     refine⟨none,0,w,?_,by simpa using hown,World.grownBy.refl w _, .inl rfl⟩;simp[Builtin.append_,run_underlying ht,run_underlying htn,sizeOf,typeInfo,hi,hb,asInt,asIntOf,h0,hw0]
   · injection h' with e1 e2 e3;subst e1 e3;have hfit:bs.length+0+((List.replicate k (0:UInt8)).map bv).length<=cur.size:=by simp;omega
     have hst:=run_storeCells_at P g bs.length e ((List.replicate k (0:UInt8)).map bv) 0 cur w hg hfit (afO _);refine⟨some ⟨g,0,none⟩,c,_,?_,⟨by simp, .inr ⟨g,c,_,rfl,hbg,setRow_heap w g cur ((cur.toList.take bs.length++(List.replicate k (0:UInt8)).map bv++cur.toList.drop (bs.length+k)).toArray) e _ hg,hroom,hcm,?_,?_⟩⟩,⟨rfl,rfl,rfl,by simp,fun j _ hj=>setRow_other w g j _ (fun e=>hj (by simp[Value.ownBlock,e]))⟩, .inl rfl⟩
     · simp only[Nat.add_zero,List.length_map,List.length_replicate]at hst;by_cases h0:k=0
       · subst h0;simp only[List.replicate_zero,List.map_nil]at hst;simp[Builtin.append_,run_underlying ht,run_underlying htn,sizeOf,typeInfo,zeroValue,hi,hz,hs,hb,asInt,asIntOf,hnc,hw0,Addr.add_lit,hst]
       · simp[Builtin.append_,run_underlying ht,run_underlying htn,sizeOf,typeInfo,zeroValue,hi,hz,hs,hb,asInt,asIntOf,hw,hneg,h48,h0,hroom,Addr.add_lit,amo,-List.map_replicate,hst]
     · simp;omega
     · have ht':cur.toList.take bs.length=bs.map bv:=by simpa using htake
       simp only[ht',Nat.mul_one];rw[<-List.map_append,<-hlen];exact List.take_left
 · have h0:0<k:=by omega
   have hold:(Builtin.firstCells i.size bs.length (.slice A bs.length c)).run P w.drew= .ok (bs.map bv).toArray w.drew:=by
    rcases hown.2 with⟨h',h0⟩ | ⟨g,cap,cur,h',hbg,hg,hnc,hcm,hcs,htake⟩
    · injection h' with e1 e2 e3;subst e1;obtain rfl:bs= []:=List.eq_nil_of_length_eq_zero h0;simp[Builtin.firstCells]
    · injection h' with e1 e2 e3;subst e1 e3;exact run_firstCells_some (P:=P) w.drew i.size bs.length ⟨g,0,none⟩ bs.length c (bs.map bv) (by simp[hs]) (fun j u hu=>hown.cells (g:=g) rfl j u hu)
   have hr:=Lib.run_append_grow_zeros (P:=P) w t tn ty e i (.int .u8 0) .i64 kn ht htn hi hz A bs.length c (bs.map bv) hold k h0 (by omega) (by omega) (by omega) (by rw[hb];omega)
    (by have:=nextslicecap_le (need:=bs.length+k) (old:=c) (by omega);rw[hb];omega)
   have hge:=grownCap_ge w (bs.length+k) c e;have hcm:grownCap w (bs.length+k) c e<=maxLen:=grownCap_le_maxLen w (bs.length+k) c e (by unfold maxLen;omega);refine⟨_,_,_,hr,⟨by simp, .inr ⟨w.heap.size,_,_,rfl,hbase,heap_alloc_new w.drew _,hge,hcm,?_,?_⟩⟩,⟨rfl,rfl,rfl,by simp,fun j hj _=>Below.heap_alloc w.drew _ j hj⟩, .inr rfl⟩
   · simp only[Array.size_append,List.size_toArray,List.length_map,size_zeroCells,Value.cells];simp;omega
   · simp only[Array.toList_append,amo,List.append_assoc];rw[<-List.append_assoc,<-List.map_append,Nat.mul_one,<-hlen];exact List.take_left
section
variable {w w2:World} {t:TypeId} {g base cap c c':Nat} {A A':Option Addr} {bs bs':List UInt8}
theorem ajF{o:Array Value}(h:w.ownsRow 0 5 1 (.slice A bs.length c) bs.length (bs.map bv)) (hg:w.heap[g]?=some (.cells o t (0,0))) (ht:t≠5){a:Addr}(e:A=some a):a.block≠g:=by
 subst e;rcases h.2 with⟨h',_⟩ | ⟨g',cap',cur,h',_,hh,_⟩
 · cases h'
 · injection h' with e1;injection e1 with e1;subst e1;intro e2;have e2:g'=g:=e2;subst e2;rw[hh]at hg;injection hg with hg;injection hg with _ hg;exact ht hg.symm
theorem Ar.laid (h:Ar w t g base cap A c bs) (ht:t≠5) (hgr:w.grownBy w2 (Value.slice A bs.length c).ownBlock) (hown:w2.ownsRow 0 5 1 (.slice A' bs'.length c') bs'.length (bs'.map bv)):
 w2.cell? ⟨g,2,none⟩=some (.slice A bs.length c)/\w2.frozen? ⟨g,2,none⟩=false/\Ar (w2.setCell ⟨g,2,none⟩ (.slice A' bs'.length c')) t g base cap A' c' bs'/\Tch (foot g A) w (w2.setCell ⟨g,2,none⟩ (.slice A' bs'.length c')):=by
 have hg2:w2.heap[g]?=w.heap[g]?:=hgr.block g h.lt (by
  rcases A with _ | a
  · simp[Value.ownBlock]
  · intro e;have e:g=a.block:=by simpa[Value.ownBlock]using e
    exact ajF h.own h.obj ht rfl e.symm)
 refine⟨(World.cell?_of_block (a:=⟨g,2,none⟩) hg2).trans h.c2,(World.frozen?_of_block (a:=⟨g,2,none⟩) hg2).trans (h.thaw 2),⟨?_,hown.1,?_⟩,?_⟩
 · have:=hg2.trans h.obj;rw[heap_setCell_same w2 g 2 _ t _ this];rfl
 · rcases hown.2 with h2 | ⟨g',cap',cur,hv,hg,hh,r⟩
   · exact .inl h2
   · refine .inr ⟨g',cap',cur,hv,hg,?_,r⟩;injection hv with e;have hne:=ajF hown (hg2.trans h.obj) ht e;rw[Below.heap_setCell _ _ _ _ hne];exact hh
 · refine(Tch.grown (S:=foot g A) hgr fun k hk=> ?_).trans (Tch.set (S:=foot g A) w2 ⟨g,2,none⟩ _ (.inl rfl)) fun _ _ h=>h;rcases A with _ | a
   · simp[Value.ownBlock]at hk
   · exact .inr ⟨a,rfl,by simpa[Value.ownBlock]using hk.symm⟩
end
def Became (t:TypeId) (g base cap:Nat) (A:Option Addr) (bs':List UInt8) (w w':World):Prop:=
 ∃A' c',Ar w' t g base cap A' c' bs'/\Tch (foot g A) w w'/\(A'=A\/∀a,A'=some a->w.heap.size<=a.block)
theorem asC:(Tryz.prog.info? 5).map (fun i=>(i.zero,i.size,i.bytes))=some (some (.int .u8 0),1,1):=by kernel_rfl
theorem ak6 (w:World) (base cap:Nat) (h1:base%16=0) (h2:base<=4611686018427387904) (h3:1024<=cap) (h4:cap<=16384):
 Calls Tryz.prog 64 #[.int .u64 (base:Int), .int .i64 (cap:Int)] w fun e w'=>e= .returned (.pointer (some ⟨w.heap.size,0,none⟩))/\Ar w' 195 w.heap.size base cap none 0 []/\Below w.heap.size w w':=by
 have s1:((base:Int)%16 !=0)=false:=by rw[bne_eq_false_iff_eq];omega
 go_enter Tryz.func64,Tryz.ntmps64
 go_wp2
 go_ret
 exact⟨rfl,⟨heap_alloc_new w _,World.ownsRow_nil _ _ _ _⟩,(Below.refl _ _).alloc (Nat.le_refl _) _⟩
theorem asD (w:World) (base:Nat) (cap:Int) (hb:base<18446744073709551616) (hc: -9223372036854775808<=cap/\cap<=9223372036854775807) (h:base%16≠0\/4611686018427387904<base\/cap<1024\/16384<cap):
 Calls Tryz.prog 64 #[.int .u64 (base:Int), .int .i64 cap] w fun e w'=>e= .returned (.pointer none)/\w=w':=by
 obtain⟨hc1,hc2⟩:=hc;by_cases h1:base%16=0
 · have s1:((base:Int)%16 !=0)=false:=by rw[bne_eq_false_iff_eq];omega
   by_cases h2:4611686018427387904<base
   · clear h h1;go_enter Tryz.func64,Tryz.ntmps64
     go_wp2
     go_ret
     exact⟨rfl,rfl⟩
   · by_cases h3:cap<1024
     · clear h h1;go_enter Tryz.func64,Tryz.ntmps64
       go_wp2
       go_ret
       exact⟨rfl,rfl⟩
     · have h4:16384<cap:=by omega
       clear h h1;go_enter Tryz.func64,Tryz.ntmps64
       go_wp2
       go_ret
       exact⟨rfl,rfl⟩
 · have s1:((base:Int)%16 !=0)=true:=by rw[bne_iff_ne];omega
   clear h h1;go_enter Tryz.func64,Tryz.ntmps64
   go_wp2
   go_ret
   exact⟨rfl,rfl⟩
section
variable {w:World} {g base cap c:Nat} {A:Option Addr} {bs:List UInt8}
theorem ajG (h:Ar w 195 g base cap A c bs) (n:Nat) (hl:bs.length<=cap) (hcap:cap<=16384) (hn:cap<bs.length+n):
 Calls Tryz.prog 65 #[.pointer (some ⟨g,0,none⟩), .int .i64 (n:Int)] w fun e w'=>e= .returned (.iface 130 (.int .i64 5))/\∃k,w'=w.drewN k:=by
 have c1:=h.c1;have c2:=h.c2;have s1:IntKind.i64.wrap ((cap:Int)-(bs.length:Int))=(cap:Int)-(bs.length:Int):=IntWalk.i64_in _ (by omega);have s2:decide ((cap:Int)-(bs.length:Int)<(n:Int))=true:=decide_eq_true (by omega);go_enter Tryz.func65,Tryz.ntmps65
 go_wp2
 go_quiet (fail)
 go_wp2
 go_ret
 exact⟨rfl,_,rfl⟩
theorem aiD (h:Ar w 195 g base cap A c bs) (n:Nat) (hl:bs.length<=cap) (hcap:cap<=16384) (hn:bs.length+n<=cap):
 Calls Tryz.prog 65 #[.pointer (some ⟨g,0,none⟩), .int .i64 (n:Int)] w fun e w'=>e= .returned .nilIface/\Became 195 g base cap A (bs++List.replicate n 0) w w':=by
 obtain⟨bs',hbs'⟩:∃bs',bs++List.replicate n 0=bs':=⟨_,rfl⟩;rw[hbs'];have HB:=Lib.hid hbs';clear hbs';have c1:=h.c1;have c2:=h.c2;have s1:IntKind.i64.wrap ((cap:Int)-(bs.length:Int))=(cap:Int)-(bs.length:Int):=IntWalk.i64_in _ (by omega);have s2:decide ((cap:Int)-(bs.length:Int)<(n:Int))=false:=decide_eq_false (by omega);go_enter Tryz.func65,Tryz.ntmps65
 go_wp2
 go_quiet (fail)
 clear s1 s2;obtain⟨A',c',w2,hr,hown,hgr,hA⟩:=adO (P:=Tryz.prog) (w.drewN nq) 37 3 37 5 .i64 Tryz.underlying37 Tryz.underlying3 asC 0 A c bs h.own n (by omega) (Nat.zero_le _);have e1:bs.length+n=bs'.length:=by rw[<-HB.out];simp
 rw[e1]at hr hown;rw[HB.out]at hown;obtain⟨d2,f2,har,htc⟩:=(h.drewN nq).laid (by decide) hgr hown;have hfin:Became 195 g base cap A bs' w (w2.setCell ⟨g,2,none⟩ (.slice A' bs'.length c')):=
  ⟨A',c',har,⟨htc.os,htc.tape,htc.output,htc.size,htc.block⟩,hA.imp id fun e a ha=>by rw[e]at ha;cases ha;exact Nat.le_refl _⟩
 have HR:=Lib.hid hr;have HF:=Lib.hid hfin;clear hr hfin hown hgr hA har htc e1 HB hn hl hcap;go_wp2_with (at_builtin;refine Lib.wpList_append_run _ rfl (.tmp 25) (.tmp 26) 37 3 rfl _ _ rfl rfl _ _ HR.out ?_)
 go_ret
 exact⟨rfl,HF.out⟩
end
end Go.Proofs.YtncadccbepjekaaGreatDoor
