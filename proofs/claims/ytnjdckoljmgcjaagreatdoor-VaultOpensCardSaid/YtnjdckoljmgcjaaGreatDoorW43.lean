/-
  The law's arguments, opened: a slice of states, and an array of two numbers.
-/
import Derived.LaidMore
import Derived.LaidLaws
import Derived.LaidHandle
import Derived.MakeChecks
import Derived.Stop.Joined
import Derived.Lib.LaidTab
import Derived.Test.YtnjdckoljmgcjaaGreatDoorW30
import Derived.Deep.Slices
import Derived.ChangeSlices
set_option maxRecDepth 100000
set_option maxHeartbeats 4000000
namespace Go.Proofs.YtnjdckoljmgcjaaGreatDoor
open Go.ChangeShapes Go.WideShapes Go.ChangeAt Go.WideMaps Go.WideElems Go.RowKit Go.Lib
theorem ziy {n:Int} (h:(Lit.int .i64 n).wf=true):-9223372036854775808≤n∧n≤9223372036854775807:=by
 have h1:IntKind.i64.min=-9223372036854775808:=rfl
 have h2:IntKind.i64.max=9223372036854775807:=rfl
 simp only [Lit.wf,Bool.and_eq_true,decide_eq_true_eq] at h
 omega
theorem zqF {n:Int} (h:(Lit.int .u64 n).wf=true):0≤n∧n<18446744073709551616:=by
 have h1:IntKind.u64.min=0:=rfl
 have h2:IntKind.u64.max=18446744073709551615:=rfl
 simp only [Lit.wf,Bool.and_eq_true,decide_eq_true_eq] at h
 omega
abbrev zpr : List (String × DataW Unit) := [("moothill/cmd.parts", Rows.laid_moothill_cmd_parts)]
theorem zue:(Tryz.prog.globals[0]?).map (·.type)=some 257:=by kernel_rfl
theorem zpB:(Rows.laid_moothill_cmd_parts:DataW Unit)=tabData .u8 [0,51,3,35,15,15,7,23,33]:=by kernel_rfl
theorem zre {W:World} (h:laidMetH Tryz.prog zpr W):zad W:=by
 rw [MakeChecks.laidMetH_plain _ _ _ (by kernel_rfl)] at h
 obtain ⟨ps,⟨g0,t0,cs0,f0,p0,q0,hg0,ht0,hv0,hd0,_,_⟩,_,_⟩:=h
 obtain rfl:=Option.some.inj (zcx.symm.trans hg0)
 obtain rfl:=Option.some.inj (zue.symm.trans ht0)
 rw [zpB] at hd0
 have e0:=cells_of_tab Tryz.underlying257 Tryz.underlying231 (by kernel_rfl) (by kernel_rfl) hd0
 unfold zad
 rw [hv0]
 congr 1
 exact Array.toList_inj.1 e0
theorem own7:ownKnob Tryz.prog.godebug=none:=by kernel_rfl
theorem zsg:laidOutB Tryz.prog=true:=by kernel_rfl
theorem zoE (os:Os) (args:Array Value):laidMetH Tryz.prog zpr ((World.doorLaid Tryz.prog 400 os).forCall (fun _ _=>0) ⟨#[],args,[]⟩).memory :=
 laidMetH_of_parts3 (fuel:=8) (laidMet_of_run' 8 (by kernel_rfl) (by kernel_rfl)) (by kernel_rfl) (by kernel_rfl)
theorem zp3 {H:Type} {enc:TypeId × Value→H} {w:World} {base:Nat} {spare:Nat→Bool} {held:Bool} {d:DataW H} {p:List MemPlace} {fuel:Nat} {a0 a1 a2 a3 a4 a5 a6 a7:Value}
  (hf:DataW.trod enc Tryz.prog w base spare held fuel 61 [a0,a1,a2,a3,a4,a5,a6,a7]=some (d,p)):∃c:K,#[a0,a1,a2,a3,a4,a5,a6,a7]=cellsOf c∧okK c∧c.foot.size≤maxLen∧c.path.size≤maxLen:=by
 obtain ⟨xs,n,_,_,_,hl,hfs⟩:=DataW.trod_struct Tryz.underlying61 hf
 have c1:Tryz.prog.cellsOf 3=1:=by kernel_rfl
 have c2:Tryz.prog.cellsOf 51=1:=by kernel_rfl
 have c3:Tryz.prog.cellsOf 9=1:=by kernel_rfl
 have c4:Tryz.prog.cellsOf 59=2:=by kernel_rfl
 have e0:=hfs 0 _ rfl
 have e1:=hfs 1 _ rfl
 have e2:=hfs 2 _ rfl
 have e3:=hfs 3 _ rfl
 have e4:=hfs 4 _ rfl
 have e5:=hfs 5 _ rfl
 have e6:=hfs 6 _ rfl
 simp [c1,c2,c3,c4] at e0 e1 e2 e3 e4 e5 e6
 have hx:xs.length=7:=hl
 have at_:∀i,i<7→∃y,xs[i]?=some y:=fun i hi=>⟨xs[i]'(by omega),List.getElem?_eq_getElem (by omega)⟩
 obtain ⟨y0,z0⟩:=at_ 0 (by omega)
 obtain ⟨y1,z1⟩:=at_ 1 (by omega)
 obtain ⟨y2,z2⟩:=at_ 2 (by omega)
 obtain ⟨y3,z3⟩:=at_ 3 (by omega)
 obtain ⟨y4,z4⟩:=at_ 4 (by omega)
 obtain ⟨y5,z5⟩:=at_ 5 (by omega)
 obtain ⟨y6,z6⟩:=at_ 6 (by omega)
 rw [z0] at e0
 rw [z1] at e1
 rw [z2] at e2
 rw [z3] at e3
 rw [z4] at e4
 rw [z5] at e5
 rw [z6] at e6
 obtain ⟨k,hk,_,wk⟩:=DataW.trod_int Tryz.underlying3 e0
 obtain ⟨q,hq,_,wq⟩:=DataW.trod_int Tryz.underlying51 e2
 obtain ⟨s,hs,_,ws⟩:=DataW.trod_string Tryz.underlying9 e3
 obtain ⟨m,hm,_,wm⟩:=DataW.trod_int Tryz.underlying3 e4
 obtain ⟨nn,hn,_,wn⟩:=DataW.trod_int Tryz.underlying51 e5
 obtain ⟨t,ht,_,wt⟩:=DataW.trod_int Tryz.underlying3 e6
 obtain ⟨xs2,n2,_,_,_,hl2,hfs2⟩:=DataW.trod_struct Tryz.underlying59 e1
 have g0:=hfs2 0 _ rfl
 have g1:=hfs2 1 _ rfl
 simp [c2,c3] at g0 g1
 have hx2:xs2.length=2:=hl2
 have x0:xs2[0]?=some (xs2[0]'(by omega)):=List.getElem?_eq_getElem (by omega)
 have x1:xs2[1]?=some (xs2[1]'(by omega)):=List.getElem?_eq_getElem (by omega)
 rw [x0] at g0
 rw [x1] at g1
 obtain ⟨u,hu,_,wu⟩:=DataW.trod_int Tryz.underlying51 g0
 obtain ⟨f,hf',_,wf⟩:=DataW.trod_string Tryz.underlying9 g1
 simp only [List.cons.injEq,and_true] at hk hq hs hm hn ht hu hf'
 subst hk hq hs hm hn ht hu hf'
 exact ⟨⟨k,u,f,q,s,m,nn,t⟩,rfl,⟨zqF wu,zqF wq,zqF wn,ziy wk,ziy wm,ziy wt⟩,wf,ws⟩
theorem zny {H:Type} {enc:TypeId × Value→H} {w:World} {base:Nat} {spare:Nat→Bool} {held:Bool} {d:DataW H} {p:List MemPlace} {fuel:Nat} {a0 a1 a2 a3 a4 a5 a6 a7:Value}
  (hf:DataW.trod enc Tryz.prog w base spare held fuel 64 [a0,a1,a2,a3,a4,a5,a6,a7]=some (d,p)):∃f:Nat→Int,#[a0,a1,a2,a3,a4,a5,a6,a7]=cs8 f∧∀i,i<8→(Lit.int .i64 (f i)).wf=true:=by
 obtain ⟨xs,n,_,_,_,hl,hfs⟩:=DataW.trod_struct Tryz.underlying64 hf
 have c1:Tryz.prog.cellsOf 3=1:=by kernel_rfl
 have c7:Tryz.prog.cellsOf 62=7:=by kernel_rfl
 have e0:=hfs 0 _ rfl
 have e1:=hfs 1 _ rfl
 simp [c1,c7] at e0 e1
 have hx:xs.length=2:=hl
 have z0:xs[0]?=some (xs[0]'(by omega)):=List.getElem?_eq_getElem (by omega)
 have z1:xs[1]?=some (xs[1]'(by omega)):=List.getElem?_eq_getElem (by omega)
 generalize xs[0]'(by omega)=y0 at z0
 generalize xs[1]'(by omega)=y1 at z1
 rw [z0] at e0
 rw [z1] at e1
 obtain ⟨s,hs,_,ws⟩:=DataW.trod_int Tryz.underlying3 e0
 obtain ⟨ys,m,_,_,_,hm,hgs⟩:=DataW.trod_array Tryz.underlying62 e1
 rw [c1] at hgs
 have at_:∀i,i<7→∃y,ys[i]?=some y:=fun i hi=>⟨ys[i]'(by omega),List.getElem?_eq_getElem (by omega)⟩
 have one:∀(i:Nat) (a:Value),i<7→(([a1,a2,a3,a4,a5,a6,a7]:List Value).drop (i * 1)).take 1=[a]→∃n:Int,a=.int .i64 n∧(Lit.int .i64 n).wf=true:=by
  intro i a hi ha
  obtain ⟨y,hy⟩:=at_ i hi
  have hg:=hgs i hi
  rw [ha,hy] at hg
  obtain ⟨n,hn,_,wn⟩:=DataW.trod_int Tryz.underlying3 hg
  simp at hn
  exact ⟨n,hn,wn⟩
 obtain ⟨n1,rfl,w1⟩:=one 0 a1 (by omega) rfl
 obtain ⟨n2,rfl,w2⟩:=one 1 a2 (by omega) rfl
 obtain ⟨n3,rfl,w3⟩:=one 2 a3 (by omega) rfl
 obtain ⟨n4,rfl,w4⟩:=one 3 a4 (by omega) rfl
 obtain ⟨n5,rfl,w5⟩:=one 4 a5 (by omega) rfl
 obtain ⟨n6,rfl,w6⟩:=one 5 a6 (by omega) rfl
 obtain ⟨n7,rfl,w7⟩:=one 6 a7 (by omega) rfl
 simp at hs
 subst hs
 refine ⟨fun i=>match i with | 0=>s | 1=>n1 | 2=>n2 | 3=>n3 | 4=>n4 | 5=>n5 | 6=>n6 | _=>n7,rfl,fun i hi=>?_⟩
 match i,hi with
 | 0,_=>exact ws
 | 1,_=>exact w1
 | 2,_=>exact w2
 | 3,_=>exact w3
 | 4,_=>exact w4
 | 5,_=>exact w5
 | 6,_=>exact w6
 | 7,_=>exact w7
theorem zs7 {n:Int} (h:(Lit.int .u32 n).wf=true):0≤n∧n<4294967296:=by
 have h1:IntKind.u32.min=0:=rfl
 have h2:IntKind.u32.max=4294967295:=rfl
 simp only [Lit.wf,Bool.and_eq_true,decide_eq_true_eq] at h
 omega
end Go.Proofs.YtnjdckoljmgcjaaGreatDoor
namespace Go.Proofs.YtnjdckoljmgcjaaGreatDoor
open Go.ChangeShapes Go.WideShapes Go.ChangeAt Go.WideMaps Go.WideElems Go.RowKit Go.Lib Go.Deep
set_option linter.unusedVariables false
set_option linter.unusedSimpArgs false
theorem zuK {α:Type} {l:List α} (h:l.length=22):∃c0 c1 c2 c3 c4 c5 c6 c7 c8 c9 c10 c11 c12 c13 c14 c15 c16 c17 c18 c19 c20 c21,l=[c0,c1,c2,c3,c4,c5,c6,c7,c8,c9,c10,c11,c12,c13,c14,c15,c16,c17,c18,c19,c20,c21]:=by
 match l,h with
 | [c0,c1,c2,c3,c4,c5,c6,c7,c8,c9,c10,c11,c12,c13,c14,c15,c16,c17,c18,c19,c20,c21],_=>exact ⟨c0,c1,c2,c3,c4,c5,c6,c7,c8,c9,c10,c11,c12,c13,c14,c15,c16,c17,c18,c19,c20,c21,rfl⟩
theorem zjV {H:Type} {enc:TypeId × Value→H} {w:World} {base:Nat} {spare:Nat→Bool} {held:Bool} {d:DataW H} {p:List MemPlace} {fuel:Nat} {cs:List Value} (hlen:cs.length=22)
  (hf:DataW.trod enc Tryz.prog w base spare held fuel 66 cs=some (d,p)):∃x:J,cs=jC x∧okJ x∧okK x.c∧zbl x.r∧zbl x.s:=by
 obtain ⟨a0,a1,a2,a3,a4,a5,a6,a7,a8,a9,a10,a11,a12,a13,a14,a15,a16,a17,a18,a19,a20,a21,rfl⟩:=zuK hlen
 obtain ⟨xs,n,_,_,_,hl,hfs⟩:=DataW.trod_struct Tryz.underlying66 hf
 have c1:Tryz.prog.cellsOf 3=1:=by kernel_rfl
 have c2:Tryz.prog.cellsOf 57=1:=by kernel_rfl
 have c3:Tryz.prog.cellsOf 4=1:=by kernel_rfl
 have c4:Tryz.prog.cellsOf 55=2:=by kernel_rfl
 have c5:Tryz.prog.cellsOf 61=8:=by kernel_rfl
 have c6:Tryz.prog.cellsOf 64=8:=by kernel_rfl
 have e0:=hfs 0 _ rfl
 have e1:=hfs 1 _ rfl
 have e2:=hfs 2 _ rfl
 have e3:=hfs 3 _ rfl
 have e4:=hfs 4 _ rfl
 have e5:=hfs 5 _ rfl
 have e6:=hfs 6 _ rfl
 simp [c1,c2,c3,c4,c5,c6] at e0 e1 e2 e3 e4 e5 e6
 have hx:xs.length=7:=hl
 have at_:∀i,i<7→∃y,xs[i]?=some y:=fun i hi=>⟨xs[i]'(by omega),List.getElem?_eq_getElem (by omega)⟩
 obtain ⟨⟨y0,q0⟩,z0⟩:=at_ 0 (by omega)
 rw [z0] at e0
 obtain ⟨⟨y1,q1⟩,z1⟩:=at_ 1 (by omega)
 rw [z1] at e1
 obtain ⟨⟨y2,q2⟩,z2⟩:=at_ 2 (by omega)
 rw [z2] at e2
 obtain ⟨⟨y3,q3⟩,z3⟩:=at_ 3 (by omega)
 rw [z3] at e3
 obtain ⟨⟨y4,q4⟩,z4⟩:=at_ 4 (by omega)
 rw [z4] at e4
 obtain ⟨⟨y5,q5⟩,z5⟩:=at_ 5 (by omega)
 rw [z5] at e5
 obtain ⟨⟨y6,q6⟩,z6⟩:=at_ 6 (by omega)
 rw [z6] at e6
 obtain ⟨st,hst,_,wst⟩:=DataW.trod_int Tryz.underlying3 e1
 obtain ⟨bal,hbal,_,wbal⟩:=DataW.trod_int Tryz.underlying57 e2
 obtain ⟨vote,hvote,_,wvote⟩:=DataW.trod_int Tryz.underlying57 e3
 obtain ⟨sm,hsm,_⟩:=DataW.trod_bool Tryz.underlying4 e4
 obtain ⟨c,hc,wc,_,_⟩:=zp3 e5
 obtain ⟨f,hf8,wf⟩:=zny e6
 obtain ⟨xs2,n2,_,_,_,hl2,hfs2⟩:=DataW.trod_struct Tryz.underlying55 e0
 have g0:=hfs2 0 _ rfl
 have g1:=hfs2 1 _ rfl
 simp [c1] at g0 g1
 have hx2:xs2.length=2:=hl2
 have x0:xs2[0]?=some (xs2[0]'(by omega)):=List.getElem?_eq_getElem (by omega)
 have x1:xs2[1]?=some (xs2[1]'(by omega)):=List.getElem?_eq_getElem (by omega)
 rw [x0] at g0
 rw [x1] at g1
 obtain ⟨r,hr,_,wr⟩:=DataW.trod_int Tryz.underlying3 g0
 obtain ⟨s,hs,_,ws⟩:=DataW.trod_int Tryz.underlying3 g1
 simp only [List.cons.injEq,and_true] at hst hbal hvote hsm hr hs
 simp only [cellsOf,cs8,Array.mk.injEq,List.cons.injEq,and_true] at hc hf8
 obtain ⟨h6,h7,h8,h9,h10,h11,h12,h13⟩:=hc
 obtain ⟨h14,h15,h16,h17,h18,h19,h20,h21⟩:=hf8
 subst hst hbal hvote hsm hr hs h6 h7 h8 h9 h10 h11 h12 h13 h14 h15 h16 h17 h18 h19 h20 h21
 exact ⟨⟨r,s,st,bal,vote,sm,c,f⟩,rfl,⟨zs7 wbal,zs7 wvote⟩,wc,ziy wr,ziy ws⟩
theorem zmZ {α:Type} {cs:Array α} (h:cs.size=2):∃a b,cs=#[a,b]:=by
 obtain ⟨l⟩:=cs
 match l,h with
 | [a,b],_=>exact ⟨a,b,rfl⟩
theorem zi2 {P:Program} {w:World} {r:Reach} {base:Nat} {t:TypeId} {v:Value} {n:Nat} {e:TypeId} (ht:P.underlying t=some (.array n e)) (h:Value.okWide P w r base t v):∃cs,v=.agg cs∧cs.size=P.cellsOf t:=by
 simp only [Value.okWide,ht] at h
 obtain ⟨cs,h1,h2,_⟩:=h
 exact ⟨cs,h1,h2⟩
theorem zou {H:Type} {enc:TypeId × Value→H} {w:World} {base b0:Nat} {spare:Nat→Bool} {held:Bool} {r:Reach} {v:Value} {d:DataW H} {p:List MemPlace}
  (hv:Value.okWide Tryz.prog w r b0 24 v) (h:DataW.Trod enc Tryz.prog w base spare held 24 v d p):∃a b:Int,v=.agg #[.int .i64 a,.int .i64 b]:=by
 obtain ⟨cs,rfl,hsz⟩:=zi2 Tryz.underlying24 hv
 obtain ⟨a0,a1,rfl⟩:=zmZ (hsz.trans (show Tryz.prog.cellsOf 24=2 by kernel_rfl))
 obtain ⟨fuel,hf⟩:=h
 have c1:Tryz.prog.cellsOf 3=1:=by kernel_rfl
 obtain ⟨ys,m,_,_,_,hm,hgs⟩:=DataW.trod_array Tryz.underlying24 hf
 rw [c1] at hgs
 have at_:∀i,i<2→∃y,ys[i]?=some y:=fun i hi=>⟨ys[i]'(by omega),List.getElem?_eq_getElem (by omega)⟩
 have one:∀(i:Nat) (a:Value),i<2→(([a0,a1]:List Value).drop (i * 1)).take 1=[a]→∃n:Int,a=.int .i64 n:=by
  intro i a hi ha
  obtain ⟨y,hy⟩:=at_ i hi
  have hg:=hgs i hi
  have hc:(Value.agg #[a0,a1]).cells.toList=[a0,a1]:=rfl
  rw [hc,ha,hy] at hg
  obtain ⟨n,hn,_,_⟩:=DataW.trod_int Tryz.underlying3 hg
  simp at hn
  exact ⟨n,hn⟩
 obtain ⟨n0,rfl⟩:=one 0 a0 (by omega) rfl
 obtain ⟨n1,rfl⟩:=one 1 a1 (by omega) rfl
 exact ⟨n0,n1,rfl⟩
theorem zqR {α:Type} (d:α) {m:Nat} {p:Nat→α→Prop} (h:∀i,i<m→∃x,p i x):∃F:Nat→α,∀i,i<m→p i (F i):=by
 classical
 exact ⟨fun i=>if hi:i<m then Classical.choose (h i hi) else d,fun i hi=>by simp only [dif_pos hi];exact Classical.choose_spec (h i hi)⟩
theorem zlf {H:Type} {enc:TypeId × Value→H} {W:World} {base:Nat} {v:Value} {d:DataW H} {p:List MemPlace} (hval:Value.okWide Tryz.prog W .any base 22 v) (hd:DataW.Trod enc Tryz.prog W 0 (fun _=>true) true 22 v d p) (hlt:∀x∈p,x.block<W.heap.size) :
  ∃A cap,∃l:List J,v=.slice A l.length cap∧zcw W A l∧(∀x∈l,okJ x∧okK x.c∧zbl x.r∧zbl x.s):=by
 have hC:Tryz.prog.cellsOf 66=22:=by kernel_rfl
 obtain ⟨a0,len,cap,rfl⟩:=okWide_slice Tryz.underlying22 hval
 obtain ⟨fuel,hf⟩:=hd
 rcases open_slice Tryz.underlying22 hf with ⟨hcs,_⟩ | ⟨a,len',cap',m,n',D,Pl,hcs,_,hl,hcm,hm,hx,hall⟩
 ·simp [Value.cells] at hcs
  obtain ⟨rfl,rfl,rfl⟩:=hcs
  exact ⟨none,0,[],rfl,zcw.nil _ _,fun c h=>absurd h (by simp)⟩
 ·simp [Value.cells] at hcs
  obtain ⟨rfl,rfl,rfl⟩:=hcs
  simp only [if_true] at hm
  subst hm
  rw [hC] at hall hx
  obtain ⟨F,hF⟩:=zqR (⟨0,0,0,0,0,false,⟨0,0,⟨#[]⟩,0,⟨#[]⟩,0,0,0⟩,fun _=>0⟩:J) (m:=m) (p:=fun i (x:J)=>(okJ x∧okK x.c∧zbl x.r∧zbl x.s)∧W.cells? 0 (a.add (i * 22)) 22=some (jC x))
   (fun i hi=>by
    obtain ⟨cs',hc,ht⟩:=hall i hi
    obtain ⟨_,hlen,_⟩:=World.cells?_some hc
    obtain ⟨x,rfl,hok⟩:=zjV (d:=D i) (p:=Pl i) hlen ht
    exact ⟨x,hok,hc⟩)
  simp only [Prod.mk.injEq] at hx
  refine ⟨some a,m,(List.range len).map F,by simp,?_,?_⟩
  ·intro j x hj
   have hjl:j<len:=by have:=(List.getElem?_eq_some_iff.1 hj).1;simpa using this
   have he:x=F j:=by
    rw [List.getElem?_map,List.getElem?_range hjl] at hj
    simpa using hj.symm
   subst he
   obtain ⟨_,hc⟩:=hF j (by omega)
   obtain ⟨_,hlen,hat⟩:=World.cells?_some hc
   obtain ⟨b,off,spot⟩:=a
   have hspot:spot=none:=by
    obtain ⟨_,hc0⟩:=hF 0 (by omega)
    obtain ⟨_,_,hat0⟩:=World.cells?_some hc0
    simpa [Addr.add] using World.cell?_spot (hat0 0 (by omega))
   subst hspot
   have hb:b<W.heap.size:=hlt (.cell b off) (by rw [hx.2];exact List.mem_append_left _ (MemPlace.mem_row.2 ⟨0,by omega,by simp⟩))
   refine ⟨b,off,rfl,hb,fun i v hv=>?_⟩
   have hi:i<22:=by
    have:=(List.getElem?_eq_some_iff.1 hv).1
    rw [hlen] at this
    exact this
   have h2:=hat i (by omega)
   simp only [Go.WideShapes.add_plain] at h2
   rw [h2]
   exact hv
  ·intro c hc
   obtain ⟨i,hi,rfl⟩:=List.mem_map.1 hc
   exact (hF i (by have:=List.mem_range.1 hi;omega)).1
end Go.Proofs.YtnjdckoljmgcjaaGreatDoor
