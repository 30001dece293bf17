/-
  Contracts of package wire's In: Left, Failed, Fail, End, take.
-/
import Derived.Test.YtnjdckoljmgcjaaGreatDoorW15
set_option maxRecDepth 100000
set_option maxHeartbeats 4000000
namespace Go.Proofs.YtnjdckoljmgcjaaGreatDoor
open Go.ChangeShapes Go.WideShapes Go.ChangeAt Go.RowKit Go.Lib
set_option linter.unusedVariables false
set_option linter.unusedSimpArgs false
abbrev zrow:Array Value:=#[.int .i64 0,.int .i64 0,.int .i64 0,.int .u32 0,.int .u32 0,.bool false,.int .i64 0,.int .u64 0,.string ⟨#[]⟩,.int .u64 0,.string ⟨#[]⟩,.int .i64 0,.int .u64 0,.int .i64 0,.int .i64 0,.int .i64 0,.int .i64 0,.int .i64 0,.int .i64 0,.int .i64 0,.int .i64 0,.int .i64 0]
theorem zlp:zrow=rowJ zau:=rfl
theorem Blk.row {w:World} {g:Nat} {t:TypeId} {cs:Array Value} (h:Blk w g t cs) (ds:Array Value):Blk (w.setRow g ds) g t ds:=setRow_heap w g cs ds t (0,0) h
theorem Blk.rowFar {w:World} {g:Nat} {t:TypeId} {cs:Array Value} (h:Blk w g t cs) {k:Nat} (hne:g≠k) (ds:Array Value):Blk (w.setRow k ds) g t cs:=(setRow_other w k g ds hne).trans h
theorem zaZ {k:Nat} {w W w':World} (h:Below k w W) (hk:k≤W.heap.size) (hb:Below W.heap.size W w'):Below k w w':=h.trans (hb.mono hk)
theorem ztn (x:J):(rowJ (newJ x.r x.s)).setIfInBounds 3 (.int .u32 x.bal)=rowJ (zcK x):=rfl
theorem zqJ (x:J) (w:World) :
  Calls Tryz.prog 135 #[.agg (rowJ x)] w fun e w'=>e=.returned (.agg (rowJ (zcK x)))∧Below w.heap.size w w':=by
 go_enter Tryz.func135,Tryz.ntmps135
 go_upto_region 1 with fail
 obtain ⟨W,hW⟩:∃W,(w.alloc (.cells (rowJ x) 66)).alloc (.cells zrow 66)=W:=⟨_,rfl⟩
 rw [hW]
 obtain ⟨K0,K1,KB⟩:=zcE hW
 rw [zlp] at K1
 clear hW
 obtain ⟨k,hk⟩:∃k,w.heap.size=k:=⟨_,rfl⟩
 rw [hk] at K0 K1 KB
 rw [hk]
 have HK:=hid hk
 clear hk
 have c0:=K0.out.j0
 have c1:=K0.out.j1
 go_wp2_with fail
 with_reducible refine (ziQ x.r x.s _).mono ?_
 rintro e w1 ⟨rfl,hb⟩
 have D0:=hid (K0.out.below hb K0.out.lt)
 have D1:=hid (K1.out.below hb K1.out.lt)
 have DB:=hid (zaZ KB.out (by have:=K0.out.lt;omega) hb)
 have HL:=hid (show k+1<w1.heap.size by have:=D1.out.lt;omega)
 clear hb K0 K1 KB c0 c1
 have L1:=hid (zaE (newJ x.r x.s))
 have L2:=hid (zaW zau (newJ x.r x.s))
 have L3:=hid (zaS (newJ x.r x.s))
 obtain ⟨n,hn⟩:∃n,w1.heap.size=n:=⟨_,rfl⟩
 have E0:Hid (Blk (w1.alloc (.cells zrow 66)) n 66 zrow):=hid (by rw [←hn];exact Blk.new w1 66 zrow)
 go_upto_region 2 with (refine wpList_store_row (o:=⟨none,_,_,_,_,_⟩) rfl 66 (.tmp 3) (.tmp 6) rfl n (rowJ (newJ x.r x.s)) rfl rfl 66 _ E0.out.heap L1.out L2.out L3.out ?_)
 obtain ⟨W2,hW2⟩:∃W2,(w1.alloc (.cells zrow 66)).setRow n (rowJ (newJ x.r x.s))=W2:=⟨_,rfl⟩
 rw [hW2]
 have F0:Hid (Blk W2 k 66 (rowJ x)):=hid (by rw [←hW2];exact (D0.out.alloc _).rowFar (by have:=HL.out;omega) _)
 have F1:Hid (Blk W2 (k+1) 66 (rowJ zau)):=hid (by rw [←hW2];exact (D1.out.alloc _).rowFar (by have:=HL.out;omega) _)
 have F2:Hid (Blk W2 n 66 (rowJ (newJ x.r x.s))):=hid (by rw [←hW2];exact E0.out.row _)
 have FB:Hid (Below k w W2):=hid (by rw [←hW2];exact zak (DB.out.trans ((Below.refl k w1).alloc (by have:=HL.out;omega) _)) (by have:=HL.out;omega))
 have HN:Hid (k+1<n):=hid (by rw [←hn];exact HL.out)
 clear hW2 hn D0 D1 DB HL E0 L1 L2 L3
 have c3:=F0.out.j3
 have d3:=F2.out.j3
 have f3:=F2.out.frozen 3
 go_upto_region 3 with fail
 obtain ⟨W3,hW3⟩:∃W3,W2.setCell ⟨n,3,none⟩ (.int .u32 x.bal)=W3:=⟨_,rfl⟩
 rw [hW3]
 have G1:Hid (Blk W3 (k+1) 66 (rowJ zau)):=hid (by rw [←hW3];exact F1.out.far (by have:=HN.out;simp;omega) _)
 have G2:Hid (Blk W3 n 66 (rowJ (zcK x))):=hid (by rw [←hW3,←ztn];exact F2.out.set_ 3 _)
 have GB:Hid (Below k w W3):=hid (by rw [←hW3];exact FB.out.setCell (by have:=HN.out;simp;omega) _)
 clear hW3 F0 F1 F2 FB c3 d3 f3
 have L1:=hid (zaE (zcK x))
 have L2:=hid (zaW zau (zcK x))
 have L3:=hid (zaS (zcK x))
 go_wp2_with (first
  | (with_reducible refine wpList_load_row (o:=⟨some 10,_,_,_,_,_⟩) rfl 66 (.tmp 3) rfl n rfl 66 (rowJ (zcK x)) (0,0) _ G2.out.heap Tryz.underlying66 rfl L1.out ?_)
  | (with_reducible refine wpList_store_row (o:=⟨none,_,_,_,_,_⟩) rfl 66 (.tmp 2) (.tmp 10) rfl (k+1) (rowJ (zcK x)) rfl rfl 66 _ G1.out.heap L1.out L2.out L3.out ?_))
 exact bodyPost_ret (v:=.agg (rowJ (zcK x))) (results_cell_row (p:=2) (ty:=66) (by kernel_rfl) _ _ (k+1) 66 (rowJ (zcK x)) (0,0) _ rfl (setRow_heap W3 (k+1) _ (rowJ (zcK x)) _ _ G1.out.heap) Tryz.underlying66 rfl L1.out) rfl ⟨rfl,by rw [HK.out];exact zak GB.out (by omega)⟩
theorem okJ.bal' {x:J} (h:okJ x):0≤x.bal∧x.bal<4294967296:=h.1
theorem okJ.vote {x:J} (h:okJ x):0≤x.vote∧x.vote<4294967296:=h.2
theorem zdx (b:Int) (w:World) (hb:0≤b∧b<4294967296) :
  Calls Tryz.prog 134 #[.int .u32 b] w fun e w'=>e=.returned (.bool (balB b))∧w=w':=by
 obtain ⟨n,rfl⟩:∃n:Nat,b=(n:Int):=⟨b.toNat,by omega⟩
 have:=zdo n w (by omega)
 unfold balB
 rw [Int.toNat_natCast]
 exact this
theorem zjJ (x:J) (hok:okJ x) (w:World) (hP:zad w) (hf:x.c.foot.size≤4611686018427387903) (hp:x.c.path.size≤4611686018427387903) :
  Calls Tryz.prog 136 #[.agg (rowJ x)] w fun e w'=>e=.returned (.bool (valB x))∧Below w.heap.size w w':=by
 obtain ⟨va,hva⟩:∃a,balB x.vote=a:=⟨_,rfl⟩
 obtain ⟨ms,hms⟩:∃a,zf3 x=a:=⟨_,rfl⟩
 obtain ⟨rk,hrk⟩:∃a,zaF x.c=a:=⟨_,rfl⟩
 obtain ⟨ob,hob⟩:∃a,ownB x.f x.r x.s=a:=⟨_,rfl⟩
 obtain ⟨sm,hsm⟩:∃a,x.same=a:=⟨_,rfl⟩
 have HV:Hid (valB x=(va && decide (x.vote≤x.bal) && (!sm || ms) && rk && ob)):=hid (by unfold valB;rw [hva,hms,hrk,hob,hsm])
 have HO:=hid hok
 have HP:=hid hP
 have VA:=hid hva
 have MS:=hid hms
 have RK:=hid hrk
 have OB:=hid hob
 have SM:=hid hsm
 clear hok hP hva hms hrk hob hsm
 go_enter Tryz.func136,Tryz.ntmps136
 go_upto_region 1 with fail
 obtain ⟨W,hW⟩:∃W,w.alloc (.cells (rowJ x) 66)=W:=⟨_,rfl⟩
 rw [hW]
 obtain ⟨K0,KB⟩:=za1 hW
 clear hW
 have HPW:=hid (HP.out.below KB.out)
 obtain ⟨k,hk⟩:∃k,w.heap.size=k:=⟨_,rfl⟩
 rw [hk] at K0 KB
 rw [hk]
 have HK:=hid hk
 clear hk
 have c3:=K0.out.j3
 have c4:=K0.out.j4
 have c5:=K0.out.j5
 rw [SM.out] at c5
 have HKL:=hid (show k≤W.heap.size by have:=K0.out.lt;omega)
 cases va
 ·go_wp2_with fail
  with_reducible refine (zdx x.vote _ HO.out.vote).mono ?_
  rw [VA.out]
  rintro e w1 ⟨rfl,rfl⟩
  go_wp2
  go_ret
  exact ⟨zab (by rw [HV.out];simp),by rw [HK.out];exact KB.out⟩
 ·go_wp2_with fail
  with_reducible refine (zdx x.vote _ HO.out.vote).mono ?_
  rw [VA.out]
  rintro e w1 ⟨rfl,rfl⟩
  rcases Int.lt_or_le x.bal x.vote with hle | hle
  ·have HD:Hid (decide (x.vote≤x.bal)=false):=hid (decide_eq_false (by omega))
   go_wp2
   go_ret
   exact ⟨zab (by rw [HV.out,HD.out];simp),by rw [HK.out];exact KB.out⟩
  ·have HD:Hid (decide (x.vote≤x.bal)=true):=hid (decide_eq_true hle)
   have key:∀(y:Bool) (w2:World),Below W.heap.size W w2→(y=(!sm || ms))→Hid (Blk w2 k 66 (rowJ x)∧Below k w w2∧zad w2):=fun y w2 hb _ =>
    hid ⟨K0.out.below hb K0.out.lt,zaZ KB.out HKL.out hb,HPW.out.below hb⟩
   have HKEY:=hid key
   clear key
   have I1:=hid (zcI x.c)
   have I2:=hid (zdn x.f)
   have I3:=hid (zaE x)
   cases sm
   ·
    cases rk
    ·go_wp2_with (with_reducible refine zas (op:=⟨some 24,_,_,_,_,_⟩) (by kernel_rfl) 61 (.tmp 23) rfl k 6 rfl (lsK x.c) _ K0.out.jc Tryz.underlying61 rfl I1.out ?_)
     with_reducible refine (zaJ x.c _ HPW.out hf hp).mono ?_
     rw [RK.out]
     rintro e w2 ⟨rfl,hb⟩
     have HB:=hid (zaZ KB.out HKL.out hb)
     clear hb
     go_wp2
     go_ret
     exact ⟨zab (by rw [HV.out,HD.out];simp),by rw [HK.out];exact HB.out⟩
    ·go_wp2_with (with_reducible refine zas (op:=⟨some 24,_,_,_,_,_⟩) (by kernel_rfl) 61 (.tmp 23) rfl k 6 rfl (lsK x.c) _ K0.out.jc Tryz.underlying61 rfl I1.out ?_)
     with_reducible refine (zaJ x.c _ HPW.out hf hp).mono ?_
     rw [RK.out]
     rintro e w2 ⟨rfl,hb⟩
     have HB:=hid (zaZ KB.out HKL.out hb)
     have K2:=hid (K0.out.below hb K0.out.lt)
     clear hb c3 c4 c5
     have c0:=K2.out.j0
     have c1:=K2.out.j1
     go_wp2_with (with_reducible refine zas (op:=⟨some 29,_,_,_,_,_⟩) (by kernel_rfl) 64 (.tmp 28) rfl k 14 rfl (ls8 x.f) _ K2.out.ja Tryz.underlying64 rfl I2.out ?_)
     with_reducible refine (zt8 x.f x.r x.s _).mono ?_
     rw [OB.out]
     rintro e w3 ⟨rfl,hb⟩
     have HB2:=hid (zaZ HB.out (by have:=K2.out.lt;omega) hb)
     clear hb c0 c1
     go_wp2
     go_ret
     exact ⟨zab (by rw [HV.out,HD.out];simp),by rw [HK.out];exact HB2.out⟩
   ·cases ms
    ·go_wp2_with (with_reducible refine zaO (o:=⟨some 18,_,_,_,_,_⟩) (by kernel_rfl) 66 (.tmp 1) rfl k rfl 66 (rowJ x) (0,0) _ K0.out.heap Tryz.underlying66 rfl I3.out ?_)
     with_reducible refine (zhL x _).mono ?_
     rw [MS.out]
     rintro e w2 ⟨rfl,hb⟩
     have HB:=hid (zaZ KB.out HKL.out hb)
     clear hb
     go_wp2
     go_ret
     exact ⟨zab (by rw [HV.out,HD.out];simp),by rw [HK.out];exact HB.out⟩
    ·go_wp2_with (with_reducible refine zaO (o:=⟨some 18,_,_,_,_,_⟩) (by kernel_rfl) 66 (.tmp 1) rfl k rfl 66 (rowJ x) (0,0) _ K0.out.heap Tryz.underlying66 rfl I3.out ?_)
     with_reducible refine (zhL x _).mono ?_
     rw [MS.out]
     rintro e w2 ⟨rfl,hb⟩
     have J2:=HKEY.out true w2 hb (by rfl)
     have K2:=hid J2.out.1
     clear hb c3 c4 c5
     cases rk
     ·go_wp2_with (with_reducible refine zas (op:=⟨some 24,_,_,_,_,_⟩) (by kernel_rfl) 61 (.tmp 23) rfl k 6 rfl (lsK x.c) _ K2.out.jc Tryz.underlying61 rfl I1.out ?_)
      with_reducible refine (zaJ x.c _ J2.out.2.2 hf hp).mono ?_
      rw [RK.out]
      rintro e w3 ⟨rfl,hb⟩
      have HB:=hid (zaZ J2.out.2.1 (by have:=K2.out.lt;omega) hb)
      clear hb
      go_wp2
      go_ret
      exact ⟨zab (by rw [HV.out,HD.out];simp),by rw [HK.out];exact HB.out⟩
     ·go_wp2_with (with_reducible refine zas (op:=⟨some 24,_,_,_,_,_⟩) (by kernel_rfl) 61 (.tmp 23) rfl k 6 rfl (lsK x.c) _ K2.out.jc Tryz.underlying61 rfl I1.out ?_)
      with_reducible refine (zaJ x.c _ J2.out.2.2 hf hp).mono ?_
      rw [RK.out]
      rintro e w3 ⟨rfl,hb⟩
      have HB:=hid (zaZ J2.out.2.1 (by have:=K2.out.lt;omega) hb)
      have K3:=hid (K2.out.below hb K2.out.lt)
      clear hb
      have c0:=K3.out.j0
      have c1:=K3.out.j1
      go_wp2_with (with_reducible refine zas (op:=⟨some 29,_,_,_,_,_⟩) (by kernel_rfl) 64 (.tmp 28) rfl k 14 rfl (ls8 x.f) _ K3.out.ja Tryz.underlying64 rfl I2.out ?_)
      with_reducible refine (zt8 x.f x.r x.s _).mono ?_
      rw [OB.out]
      rintro e w4 ⟨rfl,hb⟩
      have HB2:=hid (zaZ HB.out (by have:=K3.out.lt;omega) hb)
      clear hb c0 c1
      go_wp2
      go_ret
      exact ⟨zab (by rw [HV.out,HD.out];simp),by rw [HK.out];exact HB2.out⟩
theorem za4 {P:Program} {ops:Array Oper} {S:World→Prop} {op:Oper} {a:Act} (hw:Region.wanted op (yielded ops a.tmps)=true) (ty:TypeId) (x:Operand) (ho:op.op=.load ty x)
  (g:Nat) (hx:a.eval x=.pointer (some ⟨g,0,none⟩)) (t:TypeId) (cs:Array Value) (fr:Nat × Nat) (d:TypeDesc) (hS:∀w,S w→w.heap[g]?=some (.cells cs t fr))
  (hu:P.underlying ty=some d) (hd:(match d with | .struct _ | .array _ _=>true | _=>false)=true) (hi:(P.info? ty).map (·.size)=some cs.size):YieldsIf P ops S op (.agg cs) a :=
 .inl ⟨hw,fun w hw'=>by
  unfold execOp
  simp only [ho,hx,Instr.loadAt,Instr.sureAddr,Sem.run_bind,Sem.run_pure,Result.andThen_ok,run_loadVar_row w g t ty cs fr d (hS w hw') hu hd hi]⟩
theorem zdR (x:J) (hok:okJ x) (w:World) (hP:zad w) (hf:x.c.foot.size≤4611686018427387903) (hp:x.c.path.size≤4611686018427387903) :
  Calls Tryz.prog 96 #[.agg (rowJ x)] w fun e w'=>e=.returned (.bool (zbr x))∧Below w.heap.size w w':=by
 obtain ⟨nb,hnb⟩:∃a,zds x.r x.s=a:=⟨_,rfl⟩
 obtain ⟨ba,hba⟩:∃a,balB x.bal=a:=⟨_,rfl⟩
 obtain ⟨ee,hee⟩:∃a,eqJ x (zcK x)=a:=⟨_,rfl⟩
 obtain ⟨sb,hsb⟩:∃a,zhR x.st=a:=⟨_,rfl⟩
 obtain ⟨vb,hvb⟩:∃a,valB x=a:=⟨_,rfl⟩
 have HV:Hid (zbr x=(nb && ba && (if x.st=0 then ee else sb && vb))):=hid (by unfold zbr;rw [hnb,hba,hee,hsb,hvb])
 have HO:=hid hok
 have HP:=hid hP
 have NB:=hid hnb
 have BA:=hid hba
 have EE:=hid hee
 have SB:=hid hsb
 have VB:=hid hvb
 clear hok hP hnb hba hee hsb hvb
 go_enter Tryz.func96,Tryz.ntmps96
 go_upto_region 1 with fail
 obtain ⟨W,hW⟩:∃W,w.alloc (.cells (rowJ x) 66)=W:=⟨_,rfl⟩
 rw [hW]
 obtain ⟨K0,KB⟩:=za1 hW
 clear hW
 have HPW:=hid (HP.out.below KB.out)
 obtain ⟨k,hk⟩:∃k,w.heap.size=k:=⟨_,rfl⟩
 rw [hk] at K0 KB
 rw [hk]
 have HK:=hid hk
 clear hk
 have c0:=K0.out.j0
 have c1:=K0.out.j1
 have HKL:=hid (show k≤W.heap.size by have:=K0.out.lt;omega)
 go_wp2_with fail
 with_reducible refine (zeJ x.r x.s _).mono ?_
 rw [NB.out]
 rintro e w1 ⟨rfl,hb⟩
 have D0:=hid (K0.out.below hb K0.out.lt)
 have DB:=hid (zaZ KB.out HKL.out hb)
 have DP:=hid (HPW.out.below hb)
 have DL:=hid (show k≤w1.heap.size by have:=D0.out.lt;omega)
 clear hb c0 c1 K0 KB HPW HKL
 have c2:=D0.out.j2
 have c3:=D0.out.j3
 cases nb
 ·go_wp2
  go_ret
  exact ⟨zab (by rw [HV.out];simp),by rw [HK.out];exact DB.out⟩
 ·cases ba
  ·go_wp2_with fail
   with_reducible refine (zdx x.bal _ HO.out.bal').mono ?_
   rw [BA.out]
   rintro e w2 ⟨rfl,rfl⟩
   go_wp2
   go_ret
   exact ⟨zab (by rw [HV.out];simp),by rw [HK.out];exact DB.out⟩
  ·go_wp2_with fail
   with_reducible refine (zdx x.bal _ HO.out.bal').mono ?_
   rw [BA.out]
   rintro e w2 ⟨rfl,rfl⟩
   have L1:=hid (zaE x)
   rcases Decidable.em (x.st=0) with h0 | h0
   ·have HZ:=hid h0
    have hb0:(x.st == 0)=true:=beq_iff_eq.2 h0
    clear h0
    go_upto_region 4 with fail
    clear c2 c3 hb0
    refine wp_region_held_drew (S:=fun w'=>Blk w' k 66 (rowJ x)) (by kernel_rfl) (by exact D0.out.drew) (fun hHeld=>?_)
    refine tk 0 (.agg (rowJ x)) rfl (fun _ _ _ h=>h) (za4 (by kernel_rfl) 66 (.tmp 1) rfl k rfl 66 (rowJ x) (0,0) _ (fun _ h=>h) Tryz.underlying66 rfl L1.out) hHeld ?_
    try simp only [Act.put,g1,g2,g3,g4,g5,g6]
    refine tk 1 (.agg (rowJ x)) rfl (fun _ _ _ h=>h) (za4 (by kernel_rfl) 66 (.tmp 1) rfl k rfl 66 (rowJ x) (0,0) _ (fun _ h=>h) Tryz.underlying66 rfl L1.out) hHeld ?_
    try simp only [Act.put,g1,g2,g3,g4,g5,g6]
    refine wpAnyH_ready (rs:=[2]) (by kernel_rfl) (by simp) ?_
    refine AllReadyH.cons (o:=_) rfl (fun K hK=>?_) AllReadyH.nil
    go_simp
    go_at_call 135
    with_reducible refine (zqJ x _).mono ?_
    rintro e w3 ⟨rfl,hb⟩
    have E0:=hid (D0.out.drew.below hb D0.out.drew.lt)
    have EB:=hid (zaZ (zag DB.out) DL.out hb)
    clear hb
    refine hK.out _ _ (by exact E0.out) (fun hHeld=>?_)
    clear hK K
    try simp only [Act.put,g1,g2,g3,g4,g5,g6]
    have EQ:=zqB x (zcK x) ee EE.out
    have EG:=zib
    refine tk 3 (.bool ee) rfl (fun _ _ _ h=>h) (Or.inl ⟨by kernel_rfl,?_⟩) hHeld ?_
    focus (intro w' hSw;go_simp;try with_reducible rfl)
    try simp only [Act.put,g1,g2,g3,g4,g5,g6]
    clear EQ EG
    refine tl 4 ?_ rfl ?_ hHeld ?_
    rotate_left 1
    focus (intro w' hSw;go_simp;try with_reducible rfl)
    try simp only [Act.put,g1,g2,g3,g4,g5,g6]
    refine wpAnyH_done (by kernel_rfl) ?_ _
    clear hHeld
    go_wp2
    go_ret
    exact ⟨zab (by rw [HV.out,if_pos HZ.out];simp),by rw [HK.out];exact EB.out⟩
   ·have HZ:=hid h0
    have hb0:(x.st == 0)=false:=beq_eq_false_iff_ne.2 h0
    clear h0
    cases sb
    ·go_wp2_with fail
     with_reducible refine (zdC x.st _).mono ?_
     rw [SB.out]
     rintro e w3 ⟨rfl,rfl⟩
     go_wp2
     go_ret
     exact ⟨zab (by rw [HV.out,if_neg HZ.out];simp),by rw [HK.out];exact DB.out⟩
    ·go_wp2_with fail
     with_reducible refine (zdC x.st _).mono ?_
     rw [SB.out]
     rintro e w3 ⟨rfl,rfl⟩
     go_wp2_with (with_reducible refine zaO (o:=⟨some 24,_,_,_,_,_⟩) (by kernel_rfl) 66 (.tmp 1) rfl k rfl 66 (rowJ x) (0,0) _ D0.out.heap Tryz.underlying66 rfl L1.out ?_)
     with_reducible refine (zjJ x HO.out _ DP.out hf hp).mono ?_
     rw [VB.out]
     rintro e w4 ⟨rfl,hb⟩
     have EB:=hid (zaZ DB.out DL.out hb)
     clear hb
     go_wp2
     go_ret
     exact ⟨zab (by rw [HV.out,if_neg HZ.out];simp),by rw [HK.out];exact EB.out⟩
def Pair (w0:World) (k:Nat) (w:World) (x y:J):Prop:=Blk w k 66 (rowJ x)∧Blk w (k+1) 66 (rowJ y)∧Below k w0 w∧zad w
theorem Pair.on {w0 w w':World} {k:Nat} {x y:J} (h:Pair w0 k w x y) (hb:Below w.heap.size w w'):Pair w0 k w' x y :=
 ⟨h.1.below hb h.1.lt,h.2.1.below hb h.2.1.lt,zaZ h.2.2.1 (by have:=h.1.lt;omega) hb,h.2.2.2.below hb⟩
theorem Pair.fst {w0 w:World} {k:Nat} {x y:J} (h:Pair w0 k w x y):Blk w k 66 (rowJ x):=h.1
theorem Pair.snd {w0 w:World} {k:Nat} {x y:J} (h:Pair w0 k w x y):Blk w (k+1) 66 (rowJ y):=h.2.1
theorem Pair.bel {w0 w:World} {k:Nat} {x y:J} (h:Pair w0 k w x y):Below k w0 w:=h.2.2.1
theorem Pair.parts {w0 w:World} {k:Nat} {x y:J} (h:Pair w0 k w x y):zad w:=h.2.2.2
theorem zhA (x y:J) (hox:okJ x) (hoy:okJ y) (w:World) (hP:zad w) (hf:x.c.foot.size≤4611686018427387903) (hp:x.c.path.size≤4611686018427387903) (hf2:y.c.foot.size≤4611686018427387903) (hp2:y.c.path.size≤4611686018427387903) :
  Calls Tryz.prog 54 #[.agg (rowJ x),.agg (rowJ y)] w fun e w'=>e=.returned (.bool (zbf x y))∧Below w.heap.size w w':=by
 obtain ⟨rx,hrx⟩:∃a,zbr x=a:=⟨_,rfl⟩
 obtain ⟨ry,hry⟩:∃a,zbr y=a:=⟨_,rfl⟩
 obtain ⟨nn,hnn⟩:∃a,(x.r == y.r && x.s == y.s)=a:=⟨_,rfl⟩
 obtain ⟨al,hal⟩:∃a,zg3 x y=a:=⟨_,rfl⟩
 obtain ⟨rs,hrs⟩:∃a,zqX x y=a:=⟨_,rfl⟩
 have HV:Hid (zbf x y=(rx && ry && nn && decide (y.bal≤x.bal) && rs)):=hid (by unfold zbf;rw [hrx,hry,hnn,hrs])
 have HR:Hid (rs=(if y.st=3 then x.st == 3 && al else if x.st=3 then true else if x.vote=y.vote then (if x.st=y.st then x.same == y.same && al else decide (y.st<x.st)) else decide (y.vote<x.vote))):=hid (by rw [←hrs];unfold zqX;rw [hal])
 have HOX:=hid hox
 have HOY:=hid hoy
 have HP:=hid hP
 have RX:=hid hrx
 have RY:=hid hry
 have AL:=hid hal
 have EQ:=zt4 x.r x.s y.r y.s nn hnn
 have EG:=zsz
 clear hox hoy hP hrx hry hnn hal hrs
 go_enter Tryz.func54,Tryz.ntmps54
 go_upto_region 1 with fail
 obtain ⟨W,hW⟩:∃W,(w.alloc (.cells (rowJ x) 66)).alloc (.cells (rowJ y) 66)=W:=⟨_,rfl⟩
 rw [hW]
 obtain ⟨K0,K1,KB⟩:=zl4 hW
 clear hW
 have HPW:=hid (HP.out.below KB.out)
 obtain ⟨k,hk⟩:∃k,w.heap.size=k:=⟨_,rfl⟩
 rw [hk] at K0 K1 KB
 rw [hk]
 have HK:=hid hk
 clear hk
 have A0:Hid (Pair w k W x y):=hid ⟨K0.out,K1.out,KB.out,HPW.out⟩
 clear K0 K1 KB HPW
 have L1:=hid (zaE x)
 have L2:=hid (zaE y)
 go_wp2_with (with_reducible refine wpList_load_row (o:=⟨some 5,_,_,_,_,_⟩) rfl 66 (.tmp 2) rfl k rfl 66 (rowJ x) (0,0) _ A0.out.fst.heap Tryz.underlying66 rfl L1.out ?_)
 with_reducible refine (zdR x HOX.out _ A0.out.parts hf hp).mono ?_
 rw [RX.out]
 rintro e w1 ⟨rfl,hb⟩
 have A1:=hid (A0.out.on hb)
 clear hb A0
 cases rx
 ·go_wp2
  go_ret
  exact ⟨zab (by rw [HV.out];simp),by rw [HK.out];exact A1.out.bel⟩
 go_wp2_with (with_reducible refine zaO (o:=⟨some 9,_,_,_,_,_⟩) (by kernel_rfl) 66 (.tmp 3) rfl (k+1) rfl 66 (rowJ y) (0,0) _ A1.out.snd.heap Tryz.underlying66 rfl L2.out ?_)
 with_reducible refine (zdR y HOY.out _ A1.out.parts hf2 hp2).mono ?_
 rw [RY.out]
 rintro e w2 ⟨rfl,hb⟩
 have A2:=hid (A1.out.on hb)
 clear hb A1
 cases ry
 ·go_wp2
  go_ret
  exact ⟨zab (by rw [HV.out];simp),by rw [HK.out];exact A2.out.bel⟩
 have c0:=A2.out.fst.j0
 have c1:=A2.out.fst.j1
 have c2:=A2.out.fst.j2
 have c3:=A2.out.fst.j3
 have c4:=A2.out.fst.j4
 have c5:=A2.out.fst.j5
 have d0:=A2.out.snd.j0
 have d1:=A2.out.snd.j1
 have d2:=A2.out.snd.j2
 have d3:=A2.out.snd.j3
 have d4:=A2.out.snd.j4
 have d5:=A2.out.snd.j5
 cases nn
 ·go_wp2
  go_ret
  exact ⟨zab (by rw [HV.out];simp),by rw [HK.out];exact A2.out.bel⟩
 rcases Int.lt_or_le x.bal y.bal with hbal | hbal
 ·have HD:Hid (decide (y.bal≤x.bal)=false):=hid (decide_eq_false (by omega))
  go_wp2
  go_ret
  exact ⟨zab (by rw [HV.out,HD.out];simp),by rw [HK.out];exact A2.out.bel⟩
 have HD:Hid (decide (y.bal≤x.bal)=true):=hid (decide_eq_true hbal)
 have HF:Hid (zbf x y=rs):=hid (by rw [HV.out,HD.out];simp)
 rcases Decidable.em (y.st=3) with hy3 | hy3
 ·have hby:(y.st == 3)=true:=beq_iff_eq.2 hy3
  have HY:=hid hy3
  clear hy3
  rcases Decidable.em (x.st=3) with hx3 | hx3
  ·have hbx:(x.st == 3)=true:=beq_iff_eq.2 hx3
   have HX:=hid hx3
   clear hx3
   go_wp2_with (first
    | (with_reducible refine zaO (o:=⟨some 35,_,_,_,_,_⟩) (by kernel_rfl) 66 (.tmp 2) rfl k rfl 66 (rowJ x) (0,0) _ A2.out.fst.heap Tryz.underlying66 rfl L1.out ?_)
    | (with_reducible refine zaO (o:=⟨some 36,_,_,_,_,_⟩) (by kernel_rfl) 66 (.tmp 3) rfl (k+1) rfl 66 (rowJ y) (0,0) _ A2.out.snd.heap Tryz.underlying66 rfl L2.out ?_))
   with_reducible refine (zkk x y _).mono ?_
   rw [AL.out]
   rintro e w3 ⟨rfl,hb⟩
   have A3:=hid (A2.out.on hb)
   clear hb A2
   go_wp2
   go_ret
   exact ⟨zab (by rw [HF.out,HR.out,if_pos HY.out,HX.out];simp),by rw [HK.out];exact A3.out.bel⟩
  ·have hbx:(x.st == 3)=false:=beq_eq_false_iff_ne.2 hx3
   go_wp2
   go_ret
   exact ⟨zab (by rw [HF.out,HR.out,if_pos HY.out,hbx];simp),by rw [HK.out];exact A2.out.bel⟩
 have hby:(y.st == 3)=false:=beq_eq_false_iff_ne.2 hy3
 have HY:=hid hy3
 clear hy3
 rcases Decidable.em (x.st=3) with hx3 | hx3
 ·have hbx:(x.st == 3)=true:=beq_iff_eq.2 hx3
  have HX:=hid hx3
  clear hx3
  go_wp2
  go_ret
  exact ⟨zab (by rw [HF.out,HR.out,if_neg HY.out,if_pos HX.out]),by rw [HK.out];exact A2.out.bel⟩
 have hbx:(x.st == 3)=false:=beq_eq_false_iff_ne.2 hx3
 have HX:=hid hx3
 clear hx3
 rcases Decidable.em (x.vote=y.vote) with hv | hv
 ·have hbv:(x.vote != y.vote)=false:=by rw [hv];simp
  have HVT:=hid hv
  clear hv
  rcases Decidable.em (x.st=y.st) with hs | hs
  ·have hbs:(x.st != y.st)=false:=by rw [hs];simp
   have HS:=hid hs
   clear hs
   obtain ⟨sx,hsx⟩:∃a,(x.same == y.same)=a:=⟨_,rfl⟩
   have HSX:Hid (rs=(sx && al)):=hid (by rw [HR.out,if_neg HY.out,if_neg HX.out,if_pos HVT.out,if_pos HS.out,hsx])
   cases sx
   ·go_wp2
    go_ret
    exact ⟨zab (by rw [HF.out,HSX.out];simp),by rw [HK.out];exact A2.out.bel⟩
   ·go_wp2_with (first
     | (with_reducible refine zaO (o:=⟨some 71,_,_,_,_,_⟩) (by kernel_rfl) 66 (.tmp 2) rfl k rfl 66 (rowJ x) (0,0) _ A2.out.fst.heap Tryz.underlying66 rfl L1.out ?_)
     | (with_reducible refine zaO (o:=⟨some 72,_,_,_,_,_⟩) (by kernel_rfl) 66 (.tmp 3) rfl (k+1) rfl 66 (rowJ y) (0,0) _ A2.out.snd.heap Tryz.underlying66 rfl L2.out ?_))
    with_reducible refine (zkk x y _).mono ?_
    rw [AL.out]
    rintro e w3 ⟨rfl,hb⟩
    have A3:=hid (A2.out.on hb)
    clear hb A2
    go_wp2
    go_ret
    exact ⟨zab (by rw [HF.out,HSX.out];simp),by rw [HK.out];exact A3.out.bel⟩
  ·have hbs:(x.st != y.st)=true:=bne_iff_ne.2 hs
   have HS:=hid hs
   clear hs
   go_wp2
   go_ret
   exact ⟨zab (by rw [HF.out,HR.out,if_neg HY.out,if_neg HX.out,if_pos HVT.out,if_neg HS.out]),by rw [HK.out];exact A2.out.bel⟩
 ·have hbv:(x.vote != y.vote)=true:=bne_iff_ne.2 hv
  have HVT:=hid hv
  clear hv
  go_wp2
  go_ret
  exact ⟨zab (by rw [HF.out,HR.out,if_neg HY.out,if_neg HX.out,if_neg HVT.out]),by rw [HK.out];exact A2.out.bel⟩
end Go.Proofs.YtnjdckoljmgcjaaGreatDoor
namespace Go.Proofs.YtnjdckoljmgcjaaGreatDoor
open Go.ChangeShapes Go.WideShapes Go.ChangeAt Go.RowKit
set_option linter.unusedVariables false
def zpf (base g:Nat) (l:List Nat) (w:World) (en:Ending) (w':World):Prop:=en=.returned (.tuple #[])∧zaB w' base g l∧Below base w w'∧za0 g w w'
theorem zaB.drew {w:World} {base g:Nat} {l:List Nat} (h:zaB w base g l):zaB w.drew base g l:=h.later (zag (Below.refl _ _))
theorem zjO (base g:Nat) (l L:List Nat) (a b:Nat) (w:World) (h:zaB w base g l) (ha:a<7) (hb:b<1024) (hlen:l.length+11≤140737488355328) (hL:L=(l ++ [a]) ++ zae b) :
  Calls Tryz.prog 234 #[nm a b,.pointer (some ⟨g,0,none⟩)] w (zpf base g L w):=by
 subst hL
 have hB:=h.base_le
 obtain ⟨W,hW⟩:∃W,w.alloc (.cells #[.int .i64 (a:Int),.int .i64 (b:Int)] 55)=W:=⟨_,rfl⟩
 obtain ⟨k,hk⟩:∃k,w.heap.size=k:=⟨_,rfl⟩
 have HO:Hid (zaB W base g l):=hid (hW ▸ h.alloc _)
 have HK:Hid (Blk W k 55 #[.int .i64 (a:Int),.int .i64 (b:Int)]):=hid (by rw [←hW,←hk];exact Blk.new _ _ _)
 have HB:Hid (Below base w W):=hid (by rw [←hW];exact (Below.refl _ _).alloc hB _)
 have HS:Hid (za0 g w W):=hid (by rw [←hW];exact za0.of_below ((Below.refl _ _).alloc (Nat.le_refl _) _))
 have hkg:k≠g:=by
  obtain ⟨_,v,h1,_⟩:=h
  have:=h1.lt
  omega
 have HA:=hid (show IntKind.u8.wrap (a:Int)=(a:Int) by rw [IntKind.wrap_u8];omega)
 have HB6:=hid (show IntKind.u64.wrap (b:Int)=(b:Int) by rw [IntKind.wrap_u64];omega)
 have hl1:(l ++ [a]).length+10≤140737488355328:=by simp;omega
 have HL1:=hid hl1
 clear h hB hl1
 go_enter Tryz.func234,Tryz.ntmps234
 go_wp2_with fail
 clear hW hk
 go_region_held3 (fun w'=>w'.cell? ⟨k,0,none⟩=some (.int .i64 (a:Int))∧w'.cell? ⟨k,1,none⟩=some (.int .i64 (b:Int)))
  (first | exact (blkn HK.out).1 | exact (blkn HK.out.drew).1 | exact (blkn K6.out).1 | exact (blkn K7.out).1)
  (first
   | (go_at_call 56;(with_reducible refine (zaT base g l a _ _ HO.out.drew HA.out (by omega)).mono ?_);rintro en w6 ⟨⟨rfl,ho6,hb6⟩,hs6⟩;have K6:=hid (hs6.2 k _ _ hkg (by decide) HK.out.drew))
   | (go_at_call 131;(with_reducible refine (zaz base g (l ++ [a]) b _ _ ho6 HB6.out (by omega) HL1.out).mono ?_);rintro en w7 ⟨⟨rfl,ho7,hb7⟩,hs7⟩;have K7:=hid (hs7.2 k _ _ hkg (by decide) K6.out)))
 have HR:Hid (zaB w7 base g ((l ++ [a]) ++ zae b)∧Below base w w7∧za0 g w w7):=hid ⟨ho7,(zag HB.out).trans (hb6.trans hb7),(HS.out.trans (za0.drew hs6)).trans hs7⟩
 clear ho6 hb6 hs6 ho7 hb7 hs7
 go_wp2
 go_end0
 exact ⟨rfl,HR.out⟩
theorem zd8 (base g:Nat) (l:List Nat) (v:Nat) (w:World) (h:zaB w base g l) (hv:v<4294967296) (hlen:l.length+10≤140737488355328) :
  Calls Tryz.prog 235 #[.int .u32 (v:Int),.pointer (some ⟨g,0,none⟩)] w (zpf base g (l ++ zae v) w):=by
 have HO:=hid h
 clear h
 go_enter Tryz.func235,Tryz.ntmps235
 go_wp2_with fail
 with_reducible refine (zaz base g l v _ _ HO.out rfl (by omega) hlen).mono ?_
 rintro en w2 ⟨⟨rfl,ho,hb⟩,hs⟩
 have HR:Hid (zaB w2 base g (l ++ zae v)∧Below base w w2∧za0 g w w2):=hid ⟨ho,hb,hs⟩
 clear ho hb hs
 go_wp2
 go_end0
 exact ⟨rfl,HR.out⟩
end Go.Proofs.YtnjdckoljmgcjaaGreatDoor
namespace Go.Proofs.YtnjdckoljmgcjaaGreatDoor
open Go.ChangeShapes Go.WideShapes Go.ChangeAt Go.RowKit Go.Lib
set_option linter.unusedVariables false
set_option linter.unusedSimpArgs false
def PutJ (w0 w:World) (base g b:Nat) (x:J) (l:List Nat):Prop:=zaB w base g l∧Blk w b 66 (rowJ x)∧g<b∧Below base w0 w∧za0 g w0 w
theorem PutJ.put {w0 w w':World} {base g b:Nat} {x:J} {l l':List Nat} (h:PutJ w0 w base g b x l) (ho:zaB w' base g l') (hb:Below base w w') (hs:za0 g w w'):PutJ w0 w' base g b x l' :=
 ⟨ho,hs.2 b _ _ (Nat.ne_of_gt h.2.2.1) (by decide) h.2.1,h.2.2.1,h.2.2.2.1.trans hb,h.2.2.2.2.trans hs⟩
theorem PutJ.oat {w0 w:World} {base g b:Nat} {x:J} {l:List Nat} (h:PutJ w0 w base g b x l):zaB w base g l:=h.1
theorem PutJ.blk {w0 w:World} {base g b:Nat} {x:J} {l:List Nat} (h:PutJ w0 w base g b x l):Blk w b 66 (rowJ x):=h.2.1
theorem PutJ.bel {w0 w:World} {base g b:Nat} {x:J} {l:List Nat} (h:PutJ w0 w base g b x l):Below base w0 w:=h.2.2.2.1
theorem PutJ.stays {w0 w:World} {base g b:Nat} {x:J} {l:List Nat} (h:PutJ w0 w base g b x l):za0 g w0 w:=h.2.2.2.2
theorem zaB.glt' {w:World} {base g:Nat} {l:List Nat} (h:zaB w base g l):g<w.heap.size:=by
 obtain ⟨_,v,h1,_⟩:=h
 exact h1.lt
theorem zmN {w W:World} {base g:Nat} {l:List Nat} {x:J} (h:zaB w base g l) (hW:w.alloc (.cells (rowJ x) 66)=W):Hid (PutJ w W base g w.heap.size x l):=by
 subst hW
 exact hid ⟨h.alloc _,Blk.new _ _ _,h.glt',(Below.refl _ _).alloc h.base_le _,za0.of_below ((Below.refl _ _).alloc (Nat.le_refl _) _)⟩
def zhH (l:List Nat) (a b v t:Nat):List Nat:=(((l ++ [a]) ++ zae b) ++ zae v) ++ [t]
theorem zrl (base g:Nat) (l:List Nat) (x:J) (a b v:Nat) (w:World) (h:zaB w base g l) (hr:x.r=a) (hs:x.s=b) (hbal:x.bal=v) (ht:x.st=0) (ha:a<7) (hb:b<1024) (hv:v<4294967296) (hlen:l.length≤1000000) :
  Calls Tryz.prog 241 #[.agg (rowJ x),.pointer (some ⟨g,0,none⟩)] w (zpf base g (zhH l a b v 0) w):=by
 have HI:=hid h
 have h1:((l ++ [a]) ++ zae b).length≤1000011:=by
  have:=zah (v:=b) (by omega)
  rw [List.length_append,List.length_append];simp;omega
 have h2:(((l ++ [a]) ++ zae b) ++ zae v).length≤1000021:=by
  have:=zah (v:=v) (by omega)
  rw [List.length_append];omega
 have HE:Hid (zhH l a b v 0=(((l ++ [a]) ++ zae b) ++ zae v) ++ [0]):=hid rfl
 obtain ⟨L1,hL1⟩:∃L,(l ++ [a]) ++ zae b=L:=⟨_,rfl⟩
 rw [hL1] at h1 h2 HE
 obtain ⟨L2,hL2⟩:∃L,L1 ++ zae v=L:=⟨_,rfl⟩
 rw [hL2] at h2 HE
 have HL1:=hid hL1
 have HL2:=hid hL2
 clear h hL1 hL2
 go_enter Tryz.func241,Tryz.ntmps241
 go_upto_region 1 with fail
 obtain ⟨W,hW⟩:∃W,w.alloc (.cells (rowJ x) 66)=W:=⟨_,rfl⟩
 rw [hW]
 have A0:=zmN HI.out hW
 clear hW HI
 obtain ⟨k,hk⟩:∃k,w.heap.size=k:=⟨_,rfl⟩
 rw [hk] at A0 ⊢
 clear hk
 have c0:=A0.out.blk.j0
 have c1:=A0.out.blk.j1
 rw [hr] at c0
 rw [hs] at c1
 go_wp2_with fail
 with_reducible refine (zjO base g l L1 a b _ A0.out.oat ha hb (by omega) HL1.out.symm).mono ?_
 rintro en w1 ⟨rfl,ho,hb1,hs1⟩
 have A1:=hid (A0.out.put ho hb1 hs1)
 clear ho hb1 hs1 A0 c0 c1
 have c3:=A1.out.blk.j3
 rw [hbal] at c3
 go_wp2_with fail
 with_reducible refine (zd8 base g L1 v _ A1.out.oat hv (by omega)).mono ?_
 rw [HL2.out]
 rintro en w2 ⟨rfl,ho,hb1,hs1⟩
 have A2:=hid (A1.out.put ho hb1 hs1)
 clear ho hb1 hs1 A1 c3
 have c2:=A2.out.blk.j2
 rw [ht] at c2
 go_wp2_with fail
 with_reducible refine (zaT base g L2 0 _ _ A2.out.oat (by omega) (by omega)).mono ?_
 rintro en w3 ⟨⟨rfl,ho,hb1⟩,hs1⟩
 have A3:=hid (A2.out.put ho hb1 hs1)
 clear ho hb1 hs1 A2 c2
 have c2:=A3.out.blk.j2
 rw [ht] at c2
 have R:Hid (zaB w3 base g (zhH l a b v 0)∧Below base w w3∧za0 g w w3):=hid ⟨by rw [HE.out];exact A3.out.oat,A3.out.bel,A3.out.stays⟩
 clear A3
 go_wp2
 go_end0
 exact ⟨rfl,R.out⟩
theorem Blk.j8 {w:World} {g:Nat} {T:TypeId} {x:J} (h:Blk w g T (rowJ x)):w.cell? ⟨g,8,none⟩=some (.string x.c.foot):=(h.cell 8).trans rfl
theorem Blk.j10 {w:World} {g:Nat} {T:TypeId} {x:J} (h:Blk w g T (rowJ x)):w.cell? ⟨g,10,none⟩=some (.string x.c.path):=(h.cell 10).trans rfl
end Go.Proofs.YtnjdckoljmgcjaaGreatDoor
namespace Go.Proofs.YtnjdckoljmgcjaaGreatDoor
open Go.ChangeShapes Go.WideShapes Go.ChangeAt Go.RowKit
def InAt (w:World) (g:Nat) (l:List Nat) (e:Nat):Prop :=
 ∃A c,Blk w g 190 #[.slice A l.length c,.int .i64 (e:Int)]∧(A=none→c=0)∧l.length≤c∧c≤9223372036854775807∧Held g w A l
theorem InAt.lt {w:World} {g:Nat} {l:List Nat} {e:Nat} (h:InAt w g l e):g<w.heap.size:=by
 obtain ⟨A,c,hb,_⟩:=h
 exact hb.lt
theorem InAt.keep {w w':World} {g:Nat} {l:List Nat} {e:Nat} (h:InAt w g l e) (hb:Below (g+1) w w'):InAt w' g l e:=by
 obtain ⟨A,c,hk,h1,h2,h3,h4⟩:=h
 exact ⟨A,c,hk.below hb (by omega),h1,h2,h3,h4.below (hb.mono (by omega))⟩
theorem blk2 {w:World} {g:Nat} {T:TypeId} {a b:Value} (h:Blk w g T #[a,b]) :
  w.cell? ⟨g,0,none⟩=some a∧w.cell? ⟨g,1,none⟩=some b∧w.frozen? ⟨g,0,none⟩=false∧w.frozen? ⟨g,1,none⟩=false :=
 ⟨(h.cell 0).trans rfl,(h.cell 1).trans rfl,h.frozen 0,h.frozen 1⟩
theorem zmi (g:Nat) (l:List Nat) (e:Nat) (w:World) (h:InAt w g l e) :
  Calls Tryz.prog 118 #[.pointer (some ⟨g,0,none⟩)] w fun en w'=>en=.returned (.int .i64 (l.length:Int))∧w=w':=by
 obtain ⟨A,c,hb,h1,h2,h3,h4⟩:=h
 have H4:=hid h4
 obtain ⟨c0,c1,f0,f1⟩:=blk2 hb
 clear hb h1 h4
 go_enter Tryz.func118,Tryz.ntmps118
 go_wp2
 go_ret
 exact ⟨rfl,rfl⟩
theorem zez (b:Bool) (g:Nat) (l:List Nat) (e:Nat) (w:World) (h:InAt w g l e) (hb:b=((e:Int) != 0)) :
  Calls Tryz.prog 116 #[.pointer (some ⟨g,0,none⟩)] w fun en w'=>en=.returned (.bool b)∧w=w':=by
 obtain ⟨A,c,hk,h1,h2,h3,h4⟩:=h
 obtain ⟨c0,c1,f0,f1⟩:=blk2 hk
 have HB:=hid hb
 clear hk h1 h4 hb
 go_enter Tryz.func116,Tryz.ntmps116
 go_wp2
 go_ret
 exact ⟨zab HB.out.symm,rfl⟩
theorem zcL (g:Nat) (l:List Nat) (w:World) (h:InAt w g l 0) :
  Calls Tryz.prog 116 #[.pointer (some ⟨g,0,none⟩)] w fun en w'=>en=.returned (.bool false)∧w=w':=zez false g l 0 w h (by simp)
theorem zaU (g:Nat) (l:List Nat) (e:Nat) (w:World) (h:InAt w g l e) (he:0<e) :
  Calls Tryz.prog 116 #[.pointer (some ⟨g,0,none⟩)] w fun en w'=>en=.returned (.bool true)∧w=w' :=
 zez true g l e w h (by have h1:((e:Int) != 0)=true:=by { rw [bne_iff_ne];omega };exact h1.symm)
def zay (e x:Nat):Nat:=if e=0 then x else e
def zbs (e x:Nat) (l:List Nat):List Nat:=if e=0∧0<x then [] else l
def zbE (P:Ending→Prop) (g:Nat) (l:List Nat) (e:Nat) (w:World) (en:Ending) (w':World):Prop:=P en∧InAt w' g l e∧w.grownBy w' (some g)
theorem zpt {w:World} {g:Nat} {x:Nat} {A:Option Addr} {n c:Nat} (hb:Blk w g 190 #[.slice A n c,.int .i64 0]) :
  InAt ((w.setCell ⟨g,1,none⟩ (.int .i64 (x:Int))).setCell ⟨g,0,none⟩ (.slice none 0 0)) g [] x∧w.grownBy ((w.setCell ⟨g,1,none⟩ (.int .i64 (x:Int))).setCell ⟨g,0,none⟩ (.slice none 0 0)) (some g):=by
 refine ⟨⟨none,0,?_,fun _=>rfl,Nat.le_refl _,by omega,Held.nil _ _ _⟩,zaD (p:=⟨g,0,none⟩) (zaD (p:=⟨g,1,none⟩) (World.grownBy.refl _ _) (.inl rfl) _) (.inl rfl) _⟩
 have h:=(hb.set_ 1 (.int .i64 (x:Int))).set_ 0 (.slice none 0 0)
 exact h
theorem zbI (g:Nat) (l:List Nat) (e x:Nat) (a:Int) (w:World) (h:InAt w g l e) (ha:a=(x:Int)) :
  Calls Tryz.prog 117 #[.pointer (some ⟨g,0,none⟩),.int .i64 a] w (zbE (fun en=>en=.returned (.tuple #[])) g (zbs e x l) (zay e x) w):=by
 subst ha
 by_cases he:e=0
 ·subst he
  by_cases hx:x=0
  ·subst hx
   have H:Hid (zbE (fun en=>en=.returned (.tuple #[])) g (zbs 0 0 l) (zay 0 0) w (.returned (.tuple #[])) w):=hid ⟨rfl,h,World.grownBy.refl _ _⟩
   have HI:=hid h
   clear h
   go_enter Tryz.func117,Tryz.ntmps117
   go_wp2_with ((go_at_call 116;((with_reducible refine (zcL g l _ HI.out).mono ?_);rintro e w' ⟨rfl,rfl⟩)))
   go_end0
   exact H.out
  ·have HI:=hid h
   obtain ⟨A,c,hk,h1,h2,h3,h4⟩:=h
   have H:Hid (zbE (fun en=>en=.returned (.tuple #[])) g (zbs 0 x l) (zay 0 x) w (.returned (.tuple #[])) ((w.setCell ⟨g,1,none⟩ (.int .i64 (x:Int))).setCell ⟨g,0,none⟩ (.slice none 0 0))):=hid (by
    have:=zpt (x:=x) hk
    refine ⟨rfl,?_,this.2⟩
    rw [zbs,zay,if_pos ⟨rfl,by omega⟩,if_pos rfl]
    exact this.1)
   obtain ⟨c0,c1,f0,f1⟩:=blk2 hk
   clear hk h1 h4
   go_enter Tryz.func117,Tryz.ntmps117
   go_wp2_with ((go_at_call 116;((with_reducible refine (zcL g l _ HI.out).mono ?_);rintro e w' ⟨rfl,rfl⟩)))
   go_end0
   exact H.out
 ·have H:Hid (zbE (fun en=>en=.returned (.tuple #[])) g (zbs e x l) (zay e x) w (.returned (.tuple #[])) w):=hid ⟨rfl,by rw [zbs,zay,if_neg (by omega),if_neg he];exact h,World.grownBy.refl _ _⟩
  have HI:=hid h
  have he':0<e:=by omega
  clear h
  go_enter Tryz.func117,Tryz.ntmps117
  go_wp2_with ((go_at_call 116;((with_reducible refine (zaU g l e _ HI.out he').mono ?_);rintro e w' ⟨rfl,rfl⟩)))
  go_end0
  exact H.out
def Cuts (l:List Nat) (g:Nat) (w':World) (en:Ending):Prop:=∃A1,en=.returned (.slice A1 l.length l.length)∧(A1=none→l.length=0)∧Held g w' A1 l
theorem zf2 (g:Nat) (l:List Nat) (e k:Nat) (a:Int) (w:World) (h:InAt w g l e) (ha:a=(k:Int)) (hk:k≤l.length) :
  Calls Tryz.prog 115 #[.pointer (some ⟨g,0,none⟩),.int .i64 a] w (fun en w'=>Cuts (l.take k) g w' en∧InAt w' g (l.drop k) e∧w.grownBy w' (some g)):=by
 subst ha
 obtain ⟨i0,hi,hz0,hz1,hz2⟩:=info_parts zcD
 obtain ⟨A,c,hb,h1,h2,h3,h4⟩:=h
 obtain ⟨A1,s1,n1,l1⟩:=zpW (P:=Tryz.prog) 45 5 i0 Tryz.underlying45 hi hk h2 h4 h1
 obtain ⟨A2,s2,n2,l2⟩:=zmu (P:=Tryz.prog) 45 5 i0 Tryz.underlying45 hi hz1 rfl hk h2 h4 h1
 have H:Hid (Cuts (l.take k) g (w.setCell ⟨g,0,none⟩ (.slice A2 (l.length - k) (c - k))) (.returned (.slice A1 k k))∧InAt (w.setCell ⟨g,0,none⟩ (.slice A2 (l.length - k) (c - k))) g (l.drop k) e∧w.grownBy (w.setCell ⟨g,0,none⟩ (.slice A2 (l.length - k) (c - k))) (some g)):=hid (by
  have hbe:Below g w (w.setCell ⟨g,0,none⟩ (.slice A2 (l.length - k) (c - k))):=Below.setCell (p:=⟨g,0,none⟩) (Below.refl _ _) (Nat.le_refl _) _
  have hl:(l.take k).length=k:=by rw [List.length_take];omega
  refine ⟨⟨A1,by rw [hl],by rw [hl];exact n1,l1.below hbe⟩,⟨A2,c - k,?_,n2,by rw [List.length_drop];omega,by omega,l2.below hbe⟩,zaD (p:=⟨g,0,none⟩) (World.grownBy.refl _ _) (.inl rfl) _⟩
  have:=hb.set_ 0 (.slice A2 (l.length - k) (c - k))
  rw [List.length_drop]
  exact this)
 obtain ⟨c0,c1,f0,f1⟩:=blk2 hb
 have hlen:l.length≤9223372036854775807:=by omega
 clear hb h1 h4 l1 l2 n1 n2 hz0 hz1 hz2 hi
 go_enter Tryz.func115,Tryz.ntmps115
 go_wp2
 go_ret
 exact H.out
theorem ziN (g:Nat) (l:List Nat) (e k:Nat) (a:Int) (w:World) (h:InAt w g l e) (ha:a=(k:Int)) (hk:l.length<k) :
  Calls Tryz.prog 115 #[.pointer (some ⟨g,0,none⟩),.int .i64 a] w (zbE (fun en=>en=.returned (.slice none 0 0)) g (zbs e 20 l) (zay e 20) w):=by
 subst ha
 have HI:=hid h
 obtain ⟨A,c,hb,h1,h2,h3,h4⟩:=h
 obtain ⟨c0,c1,f0,f1⟩:=blk2 hb
 clear hb h1 h4
 go_enter Tryz.func115,Tryz.ntmps115
 go_wp2_with ((go_at_call 117;((with_reducible refine (zbI g l e 20 _ _ HI.out (by omega)).mono ?_);rintro en w1 ⟨rfl,hin,hg⟩;have HT:=hid hin;have HG:=hid hg;clear hin hg)))
 go_ret
 exact ⟨rfl,HT.out,HG.out⟩
def endE (l:List Nat) (e:Nat):Nat:=if l=[] then e else 21
theorem zlI (g:Nat) (l:List Nat) (e:Nat) (w:World) (h:InAt w g l e) :
  Calls Tryz.prog 83 #[.pointer (some ⟨g,0,none⟩)] w fun en w'=>en=.returned (.int .i64 (endE l e:Int))∧w=w':=by
 have HI:=hid h
 obtain ⟨A,c,hb,h1,h2,h3,h4⟩:=h
 obtain ⟨c0,c1,f0,f1⟩:=blk2 hb
 clear hb h1 h4
 by_cases hl:l=[]
 ·subst hl
  have HE:Hid (endE [] e=e):=hid rfl
  go_enter Tryz.func83,Tryz.ntmps83
  go_wp2_with ((go_at_call 118;((with_reducible refine (zmi g [] e _ HI.out).mono ?_);rintro e w' ⟨rfl,rfl⟩)))
  go_ret
  exact ⟨zba (by rw [HE.out]),rfl⟩
 ·have hpos:0<l.length:=List.length_pos_iff.2 hl
  have HE:Hid (endE l e=21):=hid (by rw [endE,if_neg hl])
  clear hl
  go_enter Tryz.func83,Tryz.ntmps83
  go_wp2_with ((go_at_call 118;((with_reducible refine (zmi g l e _ HI.out).mono ?_);rintro e w' ⟨rfl,rfl⟩)))
  go_ret
  exact ⟨zba (by rw [HE.out];rfl),rfl⟩
end Go.Proofs.YtnjdckoljmgcjaaGreatDoor
