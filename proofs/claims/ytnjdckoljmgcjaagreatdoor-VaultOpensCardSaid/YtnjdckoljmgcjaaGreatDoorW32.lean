/-
  The document's own Right of a state (moothillref10), and the laws' of.
-/
import Derived.Test.YtnjdckoljmgcjaaGreatDoorW31
set_option maxRecDepth 100000
set_option maxHeartbeats 4000000
namespace Go.Proofs.YtnjdckoljmgcjaaGreatDoor
open Go.ChangeShapes Go.WideShapes Go.ChangeAt Go.RowKit Go.Lib
set_option linter.unusedVariables false
set_option linter.unusedSimpArgs false
theorem zj9:(Tryz.prog.info? 83).map (·.size)=some 22:=by kernel_rfl
theorem zd7 (x:J):(Tryz.prog.info? 83).map (·.size)=some (rowJ x).size:=by rw [zdX];exact zj9
theorem zeG (c:K):(Tryz.prog.info? 80).map (·.size)=some (lsK c).length:=by kernel_rfl
theorem zfN (f:Nat→Int):(Tryz.prog.info? 81).map (·.size)=some (ls8 f).length:=by kernel_rfl
theorem zfF (b:Int) (w:World) (hb:0≤b∧b<4294967296) :
  Calls Tryz.prog 93 #[.int .u32 b] w fun e w'=>e=.returned (.bool (balB b))∧w=w':=by
 obtain ⟨n,rfl⟩:∃n:Nat,b=(n:Int):=⟨b.toNat,by omega⟩
 have:=zi5 n w (by omega)
 unfold balB
 rw [Int.toNat_natCast]
 exact this
theorem zh5 (f:Nat→Int) (w:World):Calls Tryz.prog 95 #[.agg (ls8 f).toArray] w fun e w'=>e=.returned (.bool (okB f))∧Below w.heap.size w w':=zjz f w
theorem zhe (c:K) (w:World) (ho:okK c) (hf:c.foot.size≤900) (hp:c.path.size≤900):Calls Tryz.prog 94 #[.agg (lsK c).toArray] w fun e w'=>e=.returned (.bool (zaF c))∧Below w.heap.size w w':=zbY c w ho hf hp
theorem Blk.jd {w:World} {g:Nat} {T:TypeId} {x:J} (h:Blk w g T (rowJ x)) {a:Nat} (ha:a<7):w.cell? ⟨g,15+a,none⟩=some (.int .i64 (x.f (1+a))):=by
 rw [h.cell]
 have e:a=0∨a=1∨a=2∨a=3∨a=4∨a=5∨a=6:=by omega
 rcases e with rfl | rfl | rfl | rfl | rfl | rfl | rfl <;> rfl
def docJ (x:J):Bool:=zds x.r x.s && balB x.bal && balB x.vote && decide (x.vote≤x.bal) && decide (0≤x.st) && decide (x.st≤3) &&
 (if x.st=0 then (x.vote == 0) && !x.same && decide (x.c=za8) && eqA x.f (fun _=>0) else
  !(x.same && ((x.st != 1) || (x.vote != 0))) && (zaF x.c && okB x.f && decide (x.f (1+x.r.toNat)=x.s)))
theorem zm4 (x:J) (hok:okJ x):docJ x=zbr x:=by
 obtain ⟨⟨b0,b1⟩,v0,v1⟩:=hok
 unfold docJ zbr valB eqJ zcK zf3 zhR ownB
 simp only
 cases zds x.r x.s <;> cases balB x.bal
 ·simp
 ·simp
 ·simp
 by_cases h0:x.st=0
 ·rw [if_pos h0,if_pos h0]
  by_cases hv:x.vote=0
  ·have hb:balB x.vote=true:=by rw [hv];decide
   have hle:decide (x.vote≤x.bal)=true:=decide_eq_true (by omega)
   rw [hb,hle,h0]
   simp [hv,Bool.and_assoc]
  ·have hvb:(x.vote == 0)=false:=beq_eq_false_iff_ne.2 hv
   rw [hvb];simp
 ·rw [if_neg h0,if_neg h0]
  cases balB x.vote <;> cases hle:decide (x.vote≤x.bal) <;> cases zaF x.c <;> cases okB x.f <;> cases x.same <;> simp
  all_goals (rw [Bool.eq_iff_iff];simp;try omega)
theorem zff (x:J) (hok:okJ x) (hK:okK x.c) (w:World) (hf:x.c.foot.size≤900) (hp:x.c.path.size≤900) :
  Calls Tryz.prog 53 #[.agg (rowJ x)] w fun e w'=>e=.returned (.bool (zbr x))∧Below w.heap.size w w':=by
 rw [←zm4 x hok]
 obtain ⟨nb,hnb⟩:∃a,zds x.r x.s=a:=⟨_,rfl⟩
 obtain ⟨ba,hba⟩:∃a,balB x.bal=a:=⟨_,rfl⟩
 obtain ⟨bv,hbv⟩:∃a,balB x.vote=a:=⟨_,rfl⟩
 obtain ⟨rk,hrk⟩:∃a,zaF x.c=a:=⟨_,rfl⟩
 obtain ⟨ob,hob⟩:∃a,okB x.f=a:=⟨_,rfl⟩
 obtain ⟨sm,hsm⟩:∃a,x.same=a:=⟨_,rfl⟩
 obtain ⟨ek,hek⟩:∃a,decide (x.c=za8)=a:=⟨_,rfl⟩
 obtain ⟨ea,hea⟩:∃a,eqA x.f (fun _=>0)=a:=⟨_,rfl⟩
 have HV:Hid (docJ x=(nb && ba && bv && decide (x.vote≤x.bal) && decide (0≤x.st) && decide (x.st≤3) &&
  (if x.st=0 then (x.vote == 0) && !sm && ek && ea else !(sm && ((x.st != 1) || (x.vote != 0))) && (rk && ob && decide (x.f (1+x.r.toNat)=x.s))))):=hid (by unfold docJ;rw [hnb,hba,hbv,hrk,hob,hsm,hek,hea])
 have HO:=hid hok
 have NB:=hid hnb
 have BA:=hid hba
 have BV:=hid hbv
 have RK:=hid hrk
 have OB:=hid hob
 have SM:=hid hsm
 have EK:=hid hek
 have EA:=hid hea
 have HK:=hid hK
 clear hok hnb hba hbv hrk hob hsm hek hea hK
 go_enter Tryz.func53,Tryz.ntmps53
 go_upto_region 1 with fail
 obtain ⟨W,hW⟩:∃W,w.alloc (.cells (rowJ x) 83)=W:=⟨_,rfl⟩
 rw [hW]
 obtain ⟨K0,KB⟩:=za1 hW
 clear hW
 obtain ⟨k,hk⟩:∃k,w.heap.size=k:=⟨_,rfl⟩
 rw [hk] at K0 KB
 rw [hk]
 have HKK:=hid hk
 clear hk
 have c0:=K0.out.j0
 have c1:=K0.out.j1
 have HKL:=hid (show k≤W.heap.size by have:=K0.out.lt;omega)
 go_wp2_with fail
 with_reducible refine (zfi x.r x.s _).mono ?_
 rw [NB.out]
 rintro e w1 ⟨rfl,hb⟩
 have D0:=hid (K0.out.below hb K0.out.lt)
 have DB:=hid (zaZ KB.out HKL.out hb)
 have DL:=hid (show k≤w1.heap.size by have:=D0.out.lt;omega)
 clear hb c0 c1 K0 KB HKL
 have c2:=D0.out.j2
 have c3:=D0.out.j3
 have c4:=D0.out.j4
 have c5:=D0.out.j5
 rw [SM.out] at c5
 cases nb
 ·go_wp2
  go_ret
  exact ⟨zab (by rw [HV.out];simp),by rw [HKK.out];exact DB.out⟩
 go_wp2_with fail
 with_reducible refine (zfF x.bal _ HO.out.bal').mono ?_
 rw [BA.out]
 rintro e w2 ⟨rfl,rfl⟩
 cases ba
 ·go_wp2
  go_ret
  exact ⟨zab (by rw [HV.out];simp),by rw [HKK.out];exact DB.out⟩
 go_wp2_with fail
 with_reducible refine (zfF x.vote _ HO.out.vote).mono ?_
 rw [BV.out]
 rintro e w2 ⟨rfl,rfl⟩
 cases bv
 ·go_wp2
  go_ret
  exact ⟨zab (by rw [HV.out];simp),by rw [HKK.out];exact DB.out⟩
 rcases Int.lt_or_le x.bal x.vote with hle | hle
 ·have HD:Hid (decide (x.vote≤x.bal)=false):=hid (decide_eq_false (by omega))
  go_wp2
  go_ret
  exact ⟨zab (by rw [HV.out,HD.out];simp),by rw [HKK.out];exact DB.out⟩
 have HD:Hid (decide (x.vote≤x.bal)=true):=hid (decide_eq_true hle)
 rcases Int.lt_or_le x.st 0 with hs0 | hs0
 ·have HD2:Hid (decide (0≤x.st)=false):=hid (decide_eq_false (by omega))
  go_wp2
  go_ret
  exact ⟨zab (by rw [HV.out,HD.out,HD2.out];simp),by rw [HKK.out];exact DB.out⟩
 have HD2:Hid (decide (0≤x.st)=true):=hid (decide_eq_true hs0)
 rcases Int.lt_or_le 3 x.st with hs3 | hs3
 ·have HD3:Hid (decide (x.st≤3)=false):=hid (decide_eq_false (by omega))
  go_wp2
  go_ret
  exact ⟨zab (by rw [HV.out,HD.out,HD2.out,HD3.out];simp),by rw [HKK.out];exact DB.out⟩
 have HD3:Hid (decide (x.st≤3)=true):=hid (decide_eq_true hs3)
 have I1:=hid (zeG x.c)
 have I2:=hid (zfN x.f)
 rcases Decidable.em (x.st=0) with h0 | h0
 ·have HZ:=hid h0
  have hb0:(x.st == 0)=true:=beq_iff_eq.2 h0
  clear h0
  rcases Decidable.em (x.vote=0) with hv | hv
  ·have hbv:(x.vote == 0)=true:=beq_iff_eq.2 hv
   have HVV:Hid ((x.vote == 0)=true):=hid hbv
   clear hv
   cases sm
   ·have EQ1:=zoG x.c za8 ek EK.out
    have EQ2:=zlb x.f (fun _=>0) ea EA.out
    dsimp only [val,za8] at EQ1
    have G1:=zh7
    have G2:=zfU
    cases ek
    ·go_wp2_with (with_reducible refine zas (op:=⟨some 49,_,_,_,_,_⟩) (by kernel_rfl) 80 (.tmp 48) rfl k 6 rfl (lsK x.c) _ D0.out.jc Tryz.underlying80 rfl I1.out ?_)
     go_ret
     exact ⟨zab (by rw [HV.out,HD.out,HD2.out,HD3.out,if_pos HZ.out,HVV.out];simp),by rw [HKK.out];exact DB.out⟩
    ·go_wp2_with (first
      | (with_reducible refine zas (op:=⟨some 49,_,_,_,_,_⟩) (by kernel_rfl) 80 (.tmp 48) rfl k 6 rfl (lsK x.c) _ D0.out.jc Tryz.underlying80 rfl I1.out ?_)
      | (with_reducible refine zas (op:=⟨some 55,_,_,_,_,_⟩) (by kernel_rfl) 81 (.tmp 54) rfl k 14 rfl (ls8 x.f) _ D0.out.ja Tryz.underlying81 rfl I2.out ?_))
     go_ret
     exact ⟨zab (by rw [HV.out,HD.out,HD2.out,HD3.out,if_pos HZ.out,HVV.out];simp),by rw [HKK.out];exact DB.out⟩
   ·go_wp2
    go_ret
    exact ⟨zab (by rw [HV.out,HD.out,HD2.out,HD3.out,if_pos HZ.out,HVV.out];simp),by rw [HKK.out];exact DB.out⟩
  ·have hbv:(x.vote == 0)=false:=beq_eq_false_iff_ne.2 hv
   have HVV:Hid ((x.vote == 0)=false):=hid hbv
   clear hv
   go_wp2
   go_ret
   exact ⟨zab (by rw [HV.out,HD.out,HD2.out,HD3.out,if_pos HZ.out,HVV.out];simp),by rw [HKK.out];exact DB.out⟩
 have HZ:=hid h0
 have hb0:(x.st == 0)=false:=beq_eq_false_iff_ne.2 h0
 clear h0
 obtain ⟨sv,hsv⟩:∃a,(sm && ((x.st != 1) || (x.vote != 0)))=a:=⟨_,rfl⟩
 have HSV:=hid hsv
 have HF:Hid (docJ x=(!sv && (rk && ob && decide (x.f (1+x.r.toNat)=x.s)))):=hid (by rw [HV.out,HD.out,HD2.out,HD3.out,if_neg HZ.out,hsv];simp)
 clear hsv
 cases sv
 case' true =>
  obtain rfl:sm=true:=by have:=HSV.out;cases sm <;> simp_all
  have hor:(x.st != 1)=true∨((x.st != 1)=false∧(x.vote != 0)=true):=by
   have:=HSV.out
   cases h1:(x.st != 1) <;> simp_all
  rcases hor with h1 | ⟨h1,h2⟩
  ·go_wp2
   go_ret
   exact ⟨zab (by rw [HF.out];simp),by rw [HKK.out];exact DB.out⟩
  ·go_wp2
   go_ret
   exact ⟨zab (by rw [HF.out];simp),by rw [HKK.out];exact DB.out⟩
 have hcase:sm=false∨(sm=true∧(x.st != 1)=false∧(x.vote != 0)=false):=by
  have:=HSV.out
  cases sm
  ·exact .inl rfl
  ·refine .inr ⟨rfl,?_⟩
   simpa using this
 obtain ⟨a,b,ha,hb,ha7,hb10,_⟩:=ze9 NB.out
 have HA:=hid ha
 have HB:=hid hb
 have hai:(a:Int)<7:=by omega
 have HFF:Hid (docJ x=(rk && ob && decide (x.f (1+a)=x.s))):=hid (by rw [HF.out,HA.out,Int.toNat_natCast];simp)
 clear ha hb
 rcases hcase with rfl | ⟨rfl,h1,h2⟩
 all_goals
  cases rk
  ·go_upto_region 7 with fail
   clear c2 c3 c4 c5 hb0
   refine wp_region_held_drew (S:=(fun w'=>Blk w' k 83 (rowJ x))) (by kernel_rfl) (by exact D0.out.drew) (fun hHeld=>?_)
   refine ta 0 rfl hHeld ?_
   try simp only [Act.put,g1,g2,g3,g4,g5,g6]
   refine tk 1 (.agg (lsK x.c).toArray) rfl (fun _ _ _ h=>h) (yieldsIf_load_mid (by kernel_rfl) 80 (.tmp 71) rfl k 6 rfl (lsK x.c) _ (fun _ h=>Blk.jc h) Tryz.underlying80 rfl I1.out) hHeld ?_
   try simp only [Act.put,g1,g2,g3,g4,g5,g6]
   refine wpAnyH_ready (rs:=[2]) (by kernel_rfl) (by simp) ?_
   refine AllReadyH.cons (o:=_) rfl (fun K hK=>?_) AllReadyH.nil
   go_simp
   go_at_call 94
   with_reducible refine (zhe x.c _ HK.out hf hp).mono ?_
   rw [RK.out]
   rintro e w3 ⟨rfl,hb⟩
   have E0:=hid (D0.out.drew.below hb D0.out.drew.lt)
   have EB:=hid (zaZ (zag DB.out) DL.out hb)
   clear hb
   refine hK.out _ _ (by exact E0.out) (fun hHeld=>?_)
   clear hK K
   try simp only [Act.put,g1,g2,g3,g4,g5,g6]
   refine ta 3 rfl hHeld ?_
   refine tu 4 rfl hHeld ?_
   try simp only [Act.put,g1,g2,g3,g4,g5,g6]
   refine tu 5 rfl hHeld ?_
   try simp only [Act.put,g1,g2,g3,g4,g5,g6]
   refine tu 6 rfl hHeld ?_
   try simp only [Act.put,g1,g2,g3,g4,g5,g6]
   refine ta 7 rfl hHeld ?_
   refine ta 8 rfl hHeld ?_
   refine tu 9 rfl hHeld ?_
   try simp only [Act.put,g1,g2,g3,g4,g5,g6]
   refine tu 10 rfl hHeld ?_
   try simp only [Act.put,g1,g2,g3,g4,g5,g6]
   refine tu 11 rfl hHeld ?_
   try simp only [Act.put,g1,g2,g3,g4,g5,g6]
   refine tu 12 rfl hHeld ?_
   try simp only [Act.put,g1,g2,g3,g4,g5,g6]
   refine tu 13 rfl hHeld ?_
   try simp only [Act.put,g1,g2,g3,g4,g5,g6]
   refine tu 14 rfl hHeld ?_
   try simp only [Act.put,g1,g2,g3,g4,g5,g6]
   refine tu 15 rfl hHeld ?_
   try simp only [Act.put,g1,g2,g3,g4,g5,g6]
   refine tu 16 rfl hHeld ?_
   try simp only [Act.put,g1,g2,g3,g4,g5,g6]
   refine tu 17 rfl hHeld ?_
   try simp only [Act.put,g1,g2,g3,g4,g5,g6]
   refine tu 18 rfl hHeld ?_
   try simp only [Act.put,g1,g2,g3,g4,g5,g6]
   refine tu 19 rfl hHeld ?_
   try simp only [Act.put,g1,g2,g3,g4,g5,g6]
   refine ta 20 rfl hHeld ?_
   refine ta 21 rfl hHeld ?_
   try simp only [Act.put,g1,g2,g3,g4,g5,g6]
   refine wpAnyH_done (by kernel_rfl) ?_ _
   clear hHeld
   go_wp2
   go_ret
   exact ⟨zab (by rw [HFF.out];simp),by rw [HKK.out];exact EB.out⟩
  cases ob
  ·go_upto_region 7 with fail
   clear c2 c3 c4 c5 hb0
   refine wp_region_held_drew (S:=(fun w'=>Blk w' k 83 (rowJ x))) (by kernel_rfl) (by exact D0.out.drew) (fun hHeld=>?_)
   refine ta 0 rfl hHeld ?_
   try simp only [Act.put,g1,g2,g3,g4,g5,g6]
   refine tk 1 (.agg (lsK x.c).toArray) rfl (fun _ _ _ h=>h) (yieldsIf_load_mid (by kernel_rfl) 80 (.tmp 71) rfl k 6 rfl (lsK x.c) _ (fun _ h=>Blk.jc h) Tryz.underlying80 rfl I1.out) hHeld ?_
   try simp only [Act.put,g1,g2,g3,g4,g5,g6]
   refine wpAnyH_ready (rs:=[2]) (by kernel_rfl) (by simp) ?_
   refine AllReadyH.cons (o:=_) rfl (fun K hK=>?_) AllReadyH.nil
   go_simp
   go_at_call 94
   with_reducible refine (zhe x.c _ HK.out hf hp).mono ?_
   rw [RK.out]
   rintro e w3 ⟨rfl,hb⟩
   have E0:=hid (D0.out.drew.below hb D0.out.drew.lt)
   have EB:=hid (zaZ (zag DB.out) DL.out hb)
   clear hb
   refine hK.out _ _ (by exact E0.out) (fun hHeld=>?_)
   clear hK K
   try simp only [Act.put,g1,g2,g3,g4,g5,g6]
   refine ta 3 rfl hHeld ?_
   refine ta 4 rfl hHeld ?_
   try simp only [Act.put,g1,g2,g3,g4,g5,g6]
   refine tk 5 (.agg (ls8 x.f).toArray) rfl (fun _ _ _ h=>h) (yieldsIf_load_mid (by kernel_rfl) 81 (.tmp 75) rfl k 14 rfl (ls8 x.f) _ (fun _ h=>Blk.ja h) Tryz.underlying81 rfl I2.out) hHeld ?_
   try simp only [Act.put,g1,g2,g3,g4,g5,g6]
   refine wpAnyH_ready (rs:=[6]) (by kernel_rfl) (by simp) ?_
   refine AllReadyH.cons (o:=_) rfl (fun K hK=>?_) AllReadyH.nil
   go_simp
   go_at_call 95
   with_reducible refine (zh5 x.f _).mono ?_
   rw [OB.out]
   rintro e w4 ⟨rfl,hb⟩
   have F0:=hid (E0.out.below hb E0.out.lt)
   have FB:=hid (zaZ EB.out (by have:=E0.out.lt;omega) hb)
   clear hb
   refine hK.out _ _ (by exact F0.out) (fun hHeld=>?_)
   clear hK K
   try simp only [Act.put,g1,g2,g3,g4,g5,g6]
   refine ta 7 rfl hHeld ?_
   refine ta 8 rfl hHeld ?_
   refine tu 9 rfl hHeld ?_
   try simp only [Act.put,g1,g2,g3,g4,g5,g6]
   refine tu 10 rfl hHeld ?_
   try simp only [Act.put,g1,g2,g3,g4,g5,g6]
   refine tu 11 rfl hHeld ?_
   try simp only [Act.put,g1,g2,g3,g4,g5,g6]
   refine tu 12 rfl hHeld ?_
   try simp only [Act.put,g1,g2,g3,g4,g5,g6]
   refine tu 13 rfl hHeld ?_
   try simp only [Act.put,g1,g2,g3,g4,g5,g6]
   refine tu 14 rfl hHeld ?_
   try simp only [Act.put,g1,g2,g3,g4,g5,g6]
   refine tu 15 rfl hHeld ?_
   try simp only [Act.put,g1,g2,g3,g4,g5,g6]
   refine tu 16 rfl hHeld ?_
   try simp only [Act.put,g1,g2,g3,g4,g5,g6]
   refine tu 17 rfl hHeld ?_
   try simp only [Act.put,g1,g2,g3,g4,g5,g6]
   refine tu 18 rfl hHeld ?_
   try simp only [Act.put,g1,g2,g3,g4,g5,g6]
   refine tu 19 rfl hHeld ?_
   try simp only [Act.put,g1,g2,g3,g4,g5,g6]
   refine ta 20 rfl hHeld ?_
   refine ta 21 rfl hHeld ?_
   try simp only [Act.put,g1,g2,g3,g4,g5,g6]
   refine wpAnyH_done (by kernel_rfl) ?_ _
   clear hHeld
   go_wp2
   go_ret
   exact ⟨zab (by rw [HFF.out];simp),by rw [HKK.out];exact FB.out⟩
  ·go_upto_region 7 with fail
   clear c2 c3 c4 c5 hb0
   refine wp_region_held_drew (S:=(fun w'=>Blk w' k 83 (rowJ x))) (by kernel_rfl) (by exact D0.out.drew) (fun hHeld=>?_)
   refine ta 0 rfl hHeld ?_
   try simp only [Act.put,g1,g2,g3,g4,g5,g6]
   refine tk 1 (.agg (lsK x.c).toArray) rfl (fun _ _ _ h=>h) (yieldsIf_load_mid (by kernel_rfl) 80 (.tmp 71) rfl k 6 rfl (lsK x.c) _ (fun _ h=>Blk.jc h) Tryz.underlying80 rfl I1.out) hHeld ?_
   try simp only [Act.put,g1,g2,g3,g4,g5,g6]
   refine wpAnyH_ready (rs:=[2]) (by kernel_rfl) (by simp) ?_
   refine AllReadyH.cons (o:=_) rfl (fun K hK=>?_) AllReadyH.nil
   go_simp
   go_at_call 94
   with_reducible refine (zhe x.c _ HK.out hf hp).mono ?_
   rw [RK.out]
   rintro e w3 ⟨rfl,hb⟩
   have E0:=hid (D0.out.drew.below hb D0.out.drew.lt)
   have EB:=hid (zaZ (zag DB.out) DL.out hb)
   clear hb
   refine hK.out _ _ (by exact E0.out) (fun hHeld=>?_)
   clear hK K
   try simp only [Act.put,g1,g2,g3,g4,g5,g6]
   refine ta 3 rfl hHeld ?_
   refine ta 4 rfl hHeld ?_
   try simp only [Act.put,g1,g2,g3,g4,g5,g6]
   refine tk 5 (.agg (ls8 x.f).toArray) rfl (fun _ _ _ h=>h) (yieldsIf_load_mid (by kernel_rfl) 81 (.tmp 75) rfl k 14 rfl (ls8 x.f) _ (fun _ h=>Blk.ja h) Tryz.underlying81 rfl I2.out) hHeld ?_
   try simp only [Act.put,g1,g2,g3,g4,g5,g6]
   refine wpAnyH_ready (rs:=[6]) (by kernel_rfl) (by simp) ?_
   refine AllReadyH.cons (o:=_) rfl (fun K hK=>?_) AllReadyH.nil
   go_simp
   go_at_call 95
   with_reducible refine (zh5 x.f _).mono ?_
   rw [OB.out]
   rintro e w4 ⟨rfl,hb⟩
   have F0:=hid (E0.out.below hb E0.out.lt)
   have FB:=hid (zaZ EB.out (by have:=E0.out.lt;omega) hb)
   clear hb
   refine hK.out _ _ (by exact F0.out) (fun hHeld=>?_)
   clear hK K
   try simp only [Act.put,g1,g2,g3,g4,g5,g6]
   refine ta 7 rfl hHeld ?_
   refine ta 8 rfl hHeld ?_
   refine ta 9 rfl hHeld ?_
   refine ta 10 rfl hHeld ?_
   try simp only [Act.put,g1,g2,g3,g4,g5,g6]
   refine tl 11 ?_ rfl ?_ hHeld ?_
   rotate_left 1
   focus (intro w' hSw;(try dsimp only at hSw);have q0:=(Blk.j0 hSw).trans (by rw [HA.out]);go_simp;try with_reducible rfl)
   try simp only [Act.put,g1,g2,g3,g4,g5,g6]
   refine ta 12 rfl hHeld ?_
   refine ta 13 rfl hHeld ?_
   refine ta 14 rfl hHeld ?_
   try simp only [Act.put,g1,g2,g3,g4,g5,g6]
   refine tl 15 ?_ rfl ?_ hHeld ?_
   rotate_left 1
   focus (intro w' hSw;(try dsimp only at hSw);have q0:=Blk.jd hSw ha7;go_simp;try with_reducible rfl)
   try simp only [Act.put,g1,g2,g3,g4,g5,g6]
   refine ta 16 rfl hHeld ?_
   refine ta 17 rfl hHeld ?_
   try simp only [Act.put,g1,g2,g3,g4,g5,g6]
   refine tl 18 ?_ rfl ?_ hHeld ?_
   rotate_left 1
   focus (intro w' hSw;(try dsimp only at hSw);have q0:=Blk.j1 hSw;go_simp;try with_reducible rfl)
   try simp only [Act.put,g1,g2,g3,g4,g5,g6]
   refine ta 19 rfl hHeld ?_
   refine ta 20 rfl hHeld ?_
   refine ta 21 rfl hHeld ?_
   try simp only [Act.put,g1,g2,g3,g4,g5,g6]
   refine wpAnyH_done (by kernel_rfl) ?_ _
   clear hHeld
   go_wp2
   go_ret
   exact ⟨zab (by rw [HFF.out];rw [Bool.eq_iff_iff];simp),by rw [HKK.out];exact FB.out⟩
theorem ztC {w W:World} {x:J} (h:(w.alloc (.cells (rowJ x) 66)).alloc (.cells zrow 83)=W) :
  Hid (Blk W w.heap.size 66 (rowJ x))∧Hid (Blk W (w.heap.size+1) 83 (rowJ zau))∧Hid (Below w.heap.size w W):=zcE h
end Go.Proofs.YtnjdckoljmgcjaaGreatDoor
