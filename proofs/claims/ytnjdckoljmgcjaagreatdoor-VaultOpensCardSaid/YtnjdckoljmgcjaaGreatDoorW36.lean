/-
  The document's own Follows of states (moothillref10).
-/
import Derived.Test.YtnjdckoljmgcjaaGreatDoorW35
set_option maxRecDepth 100000
set_option maxHeartbeats 4000000
namespace Go.Proofs.YtnjdckoljmgcjaaGreatDoor
open Go.ChangeShapes Go.WideShapes Go.ChangeAt Go.RowKit Go.Lib
set_option linter.unusedVariables false
set_option linter.unusedSimpArgs false
def zhV (w0:World) (k:Nat) (w:World) (x y:J):Prop:=Blk w k 83 (rowJ x)∧Blk w (k+1) 83 (rowJ y)∧Below k w0 w
theorem zhV.on {w0 w w':World} {k:Nat} {x y:J} (h:zhV w0 k w x y) (hb:Below w.heap.size w w'):zhV w0 k w' x y :=
 ⟨h.1.below hb h.1.lt,h.2.1.below hb h.2.1.lt,zaZ h.2.2 (by have:=h.1.lt;omega) hb⟩
theorem zhV.fst {w0 w:World} {k:Nat} {x y:J} (h:zhV w0 k w x y):Blk w k 83 (rowJ x):=h.1
theorem zhV.snd {w0 w:World} {k:Nat} {x y:J} (h:zhV w0 k w x y):Blk w (k+1) 83 (rowJ y):=h.2.1
theorem zhV.bel {w0 w:World} {k:Nat} {x y:J} (h:zhV w0 k w x y):Below k w0 w:=h.2.2
theorem zr3 (x y:J) (hox:okJ x) (hoy:okJ y) (hkx:okK x.c) (hky:okK y.c) (w:World) (hf:x.c.foot.size≤900) (hp:x.c.path.size≤900) (hf2:y.c.foot.size≤900) (hp2:y.c.path.size≤900) :
  Calls Tryz.prog 22 #[.agg (rowJ x),.agg (rowJ y)] w fun e w'=>e=.returned (.bool (zbf x y))∧Below w.heap.size w w':=by
 obtain ⟨rx,hrx⟩:∃a,zbr x=a:=⟨_,rfl⟩
 obtain ⟨ry,hry⟩:∃a,zbr y=a:=⟨_,rfl⟩
 obtain ⟨nn,hnn⟩:∃a,(x.r == y.r && x.s == y.s)=a:=⟨_,rfl⟩
 obtain ⟨ek,hek⟩:∃a,decide (x.c=y.c)=a:=⟨_,rfl⟩
 obtain ⟨ea,hea⟩:∃a,eqA x.f y.f=a:=⟨_,rfl⟩
 obtain ⟨rs,hrs⟩:∃a,zqX x y=a:=⟨_,rfl⟩
 have HV:Hid (zbf x y=(rx && ry && nn && decide (y.bal≤x.bal) && rs)):=hid (by unfold zbf;rw [hrx,hry,hnn,hrs])
 have HR:Hid (rs=(if y.st=3 then x.st == 3 && (ek && ea) else if x.st=3 then true else if x.vote=y.vote then (if x.st=y.st then x.same == y.same && (ek && ea) else decide (y.st<x.st)) else decide (y.vote<x.vote))):=hid (by rw [←hrs];unfold zqX zg3;rw [hek,hea])
 have HCx:=hid (fun w=>zff x hox hkx w hf hp)
 have HCy:=hid (fun w=>zff y hoy hky w hf2 hp2)
 rw [hrx] at HCx
 rw [hry] at HCy
 have EQ:=zgR x.r x.s y.r y.s nn hnn
 have EG:=ze4
 have E1:=zoG x.c y.c ek hek
 have E2:=zlb x.f y.f ea hea
 have G1:=zh7
 have G2:=zfU
 clear hox hoy hkx hky hrx hry hnn hek hea hrs
 go_enter Tryz.func22,Tryz.ntmps22
 go_upto_region 1 with fail
 obtain ⟨W,hW⟩:∃W,(w.alloc (.cells (rowJ x) 83)).alloc (.cells (rowJ y) 83)=W:=⟨_,rfl⟩
 rw [hW]
 obtain ⟨K0,K1,KB⟩:=zcE hW
 clear hW
 obtain ⟨k,hk⟩:∃k,w.heap.size=k:=⟨_,rfl⟩
 rw [hk] at K0 K1 KB
 rw [hk]
 have HK:=hid hk
 clear hk
 have A0:Hid (zhV w k W x y):=hid ⟨K0.out,K1.out,KB.out⟩
 clear K0 K1 KB
 have L1:=hid (zd7 x)
 have L2:=hid (zd7 y)
 have c0:=A0.out.fst.j0
 have c1:=A0.out.fst.j1
 have d0:=A0.out.snd.j0
 have d1:=A0.out.snd.j1
 cases nn
 ·go_wp2
  go_ret
  exact ⟨zab (by rw [HV.out];simp),by rw [HK.out];exact A0.out.bel⟩
 go_wp2_with (with_reducible refine zaO (o:=⟨some 12,_,_,_,_,_⟩) (by kernel_rfl) 83 (.tmp 2) rfl k rfl 83 (rowJ x) (0,0) _ A0.out.fst.heap Tryz.underlying83 rfl L1.out ?_)
 with_reducible refine (HCx.out _).mono ?_
 rintro e w1 ⟨rfl,hb⟩
 have A1:=hid (A0.out.on hb)
 clear hb A0 c0 c1 d0 d1
 cases rx
 ·go_wp2
  go_ret
  exact ⟨zab (by rw [HV.out];simp),by rw [HK.out];exact A1.out.bel⟩
 go_wp2_with (with_reducible refine zaO (o:=⟨some 17,_,_,_,_,_⟩) (by kernel_rfl) 83 (.tmp 3) rfl (k+1) rfl 83 (rowJ y) (0,0) _ A1.out.snd.heap Tryz.underlying83 rfl L2.out ?_)
 with_reducible refine (HCy.out _).mono ?_
 rintro e w2 ⟨rfl,hb⟩
 have A2:=hid (A1.out.on hb)
 clear hb A1
 cases ry
 ·go_wp2
  go_ret
  exact ⟨zab (by rw [HV.out];simp),by rw [HK.out];exact A2.out.bel⟩
 have c2:=A2.out.fst.j2
 have c3:=A2.out.fst.j3
 have c4:=A2.out.fst.j4
 have c5:=A2.out.fst.j5
 have d2:=A2.out.snd.j2
 have d3:=A2.out.snd.j3
 have d4:=A2.out.snd.j4
 have d5:=A2.out.snd.j5
 have I1:=hid (zeG x.c)
 have I2:=hid (zeG y.c)
 have I3:=hid (zfN x.f)
 have I4:=hid (zfN y.f)
 rcases Int.lt_or_le x.bal y.bal with hbal | hbal
 ·have HD:Hid (decide (y.bal≤x.bal)=false):=hid (decide_eq_false (by omega))
  go_wp2
  go_ret
  exact ⟨zab (by rw [HV.out,HD.out];simp),by rw [HK.out];exact A2.out.bel⟩
 have hnb:¬x.bal<y.bal:=by omega
 have HD:Hid (decide (y.bal≤x.bal)=true):=hid (decide_eq_true hbal)
 have HF:Hid (zbf x y=rs):=hid (by rw [HV.out,HD.out];simp)
 have fin:∀b,rs=b→(Ending.returned (.bool b)=Ending.returned (.bool (zbf x y))∧Below w.heap.size w w2):=fun b e=>⟨by rw [HF.out,e],by rw [HK.out];exact A2.out.bel⟩
 have Fin:=hid fin
 clear fin
 have M1:=hid A2.out.fst.jc
 have M2:=hid A2.out.snd.jc
 have M3:=hid A2.out.fst.ja
 have M4:=hid A2.out.snd.ja
 cases ek
 all_goals (
  go_upto_region 4 with (first
   | (with_reducible refine zas (op:=⟨some 29,_,_,_,_,_⟩) (by kernel_rfl) 80 (.tmp 28) rfl k 6 rfl (lsK x.c) _ M1.out Tryz.underlying80 rfl I1.out ?_)
   | (with_reducible refine zas (op:=⟨some 31,_,_,_,_,_⟩) (by kernel_rfl) 80 (.tmp 30) rfl (k+1) 6 rfl (lsK y.c) _ M2.out Tryz.underlying80 rfl I2.out ?_)
   | (with_reducible refine zas (op:=⟨some 35,_,_,_,_,_⟩) (by kernel_rfl) 81 (.tmp 34) rfl k 14 rfl (ls8 x.f) _ M3.out Tryz.underlying81 rfl I3.out ?_)
   | (with_reducible refine zas (op:=⟨some 37,_,_,_,_,_⟩) (by kernel_rfl) 81 (.tmp 36) rfl (k+1) 14 rfl (ls8 y.f) _ M4.out Tryz.underlying81 rfl I4.out ?_))
  rcases Decidable.em (y.st=3) with hy3 | hy3
  ·have hby:(y.st == 3)=true:=beq_iff_eq.2 hy3
   have HY:=hid hy3
   rcases Decidable.em (x.st=3) with hx3 | hx3
   ·have hbx:(x.st == 3)=true:=beq_iff_eq.2 hx3
    clear hx3 hy3
    go_wp2
    go_ret
    exact Fin.out _ (by rw [HR.out,if_pos HY.out,hbx];simp)
   ·have hbx:(x.st == 3)=false:=beq_eq_false_iff_ne.2 hx3
    clear hx3 hy3
    go_wp2
    go_ret
    exact Fin.out _ (by rw [HR.out,if_pos HY.out,hbx];simp)
  ·have hby:(y.st == 3)=false:=beq_eq_false_iff_ne.2 hy3
   have HY:=hid hy3
   rcases Decidable.em (x.st=3) with hx3 | hx3
   ·have hbx:(x.st == 3)=true:=beq_iff_eq.2 hx3
    have HX:=hid hx3
    clear hx3 hy3
    go_wp2
    go_ret
    exact Fin.out _ (by rw [HR.out,if_neg HY.out,if_pos HX.out])
   ·have hbx:(x.st == 3)=false:=beq_eq_false_iff_ne.2 hx3
    have HX:=hid hx3
    clear hx3 hy3
    rcases Decidable.em (x.vote=y.vote) with hv | hv
    ·have hbv:(x.vote != y.vote)=false:=by rw [hv];simp
     have HVt:=hid hv
     clear hv
     rcases Int.lt_trichotomy y.st x.st with hs | hs | hs
     ·have HS:=hid hs
      have hne:Hid (¬x.st=y.st):=hid (by omega)
      go_wp2
      go_ret
      exact Fin.out _ (by rw [HR.out,if_neg HY.out,if_neg HX.out,if_pos HVt.out,if_neg hne.out];simp [HS.out])
     ·have hns:¬y.st<x.st:=by omega
      have hbs:(x.st == y.st)=true:=by rw [hs];simp
      have HS:Hid (x.st=y.st):=hid hs.symm
      clear hs
      obtain ⟨xs,hxs⟩:∃b,x.same=b:=⟨_,rfl⟩
      obtain ⟨ys,hys⟩:∃b,y.same=b:=⟨_,rfl⟩
      rw [hxs,hys] at HR
      rw [hxs] at c5
      rw [hys] at d5
      clear hxs hys
      cases ea <;> cases xs <;> cases ys <;> go_wp2 <;> go_ret <;> exact Fin.out _ (by rw [HR.out,if_neg HY.out,if_neg HX.out,if_pos HVt.out,if_pos HS.out];simp)
     ·have hns:¬y.st<x.st:=by omega
      have hne:¬x.st=y.st:=by omega
      have hbs:(x.st == y.st)=false:=beq_eq_false_iff_ne.2 hne
      have HN:=hid hne
      have HNs:=hid hns
      clear hne
      go_wp2
      go_ret
      exact Fin.out _ (by rw [HR.out,if_neg HY.out,if_neg HX.out,if_pos HVt.out,if_neg HN.out];simp;omega)
    ·have hbv:(x.vote != y.vote)=true:=by simpa using hv
     have HVt:=hid hv
     clear hv
     go_wp2
     go_ret
     exact Fin.out _ (by rw [HR.out,if_neg HY.out,if_neg HX.out,if_neg HVt.out]))
end Go.Proofs.YtnjdckoljmgcjaaGreatDoor
