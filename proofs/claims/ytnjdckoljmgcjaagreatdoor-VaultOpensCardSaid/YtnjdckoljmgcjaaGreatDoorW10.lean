/-
  The contract of the document's Right (moothillref07), kind by kind.
-/
import Derived.Test.YtnjdckoljmgcjaaGreatDoorW08
set_option maxRecDepth 100000
set_option maxHeartbeats 4000000
namespace Go.Proofs.YtnjdckoljmgcjaaGreatDoor
open Go.ChangeShapes Go.WideShapes Go.ChangeAt Go.RowKit Go.Lib
set_option linter.unusedSimpArgs false
set_option linter.unusedVariables false
theorem zu1 (u:Int) (f:ByteArray) (q:Int) (s:ByteArray) (m n t:Int) (w:World) (hf:f.size≤900) (hp:s.size≤900) (o1:0≤q) (o2:0≤n) :
  Calls Tryz.prog 94 #[val ⟨3,u,f,q,s,m,n,t⟩] w fun e w'=>e=.returned (.bool (docK ⟨3,u,f,q,s,m,n,t⟩))∧Below w.heap.size w w':=by
 have S0:Hid (h0 3=true):=hid rfl
 have S1:Hid (h1 3=true):=hid rfl
 have S2:Hid (h2 3=false):=hid rfl
 have S3:Hid (h3 3=false):=hid rfl
 have S4:Hid (h4 3=false):=hid rfl
 have S5:Hid (h5 3=true):=hid rfl
 have SK:Hid (isK 3=true):=hid rfl
 obtain ⟨x0,hx0⟩:∃x,right (L f)=x:=⟨_,rfl⟩
 obtain ⟨x2,hx2⟩:∃x,right (L s)=x:=⟨_,rfl⟩
 have X0:=hid hx0
 have X2:=hid hx2
 clear hx0 hx2
 have A0:Hid (zac w (w.alloc (.cells (cellsOf ⟨3,u,f,q,s,m,n,t⟩) 80)) w.heap.size ⟨3,u,f,q,s,m,n,t⟩):=hid (zac.start w ⟨3,u,f,q,s,m,n,t⟩)
 go_enter Tryz.func94,Tryz.ntmps94
 obtain ⟨⟨c0,c1,c2,c3,c4,c5,c6,c7⟩,f0,f1,f2,f3,f4,f5,f6,f7⟩:=zaa A0.out.1
 go_wp2_with fail
 rename_i Kr hKr
 have key0:∀(W:World) (h:Nat),Hid (zac w W w.heap.size ⟨3,u,f,q,s,m,n,t⟩)→Hid (za5 W h true true false false false true)→Kr ⟨#[val ⟨3,u,f,q,s,m,n,t⟩,.pointer (some ⟨w.heap.size,0,none⟩),.bool false,.pointer (some ⟨h,0,none⟩),.pointer (some ⟨w.heap.size,0,none⟩),.int .i64 3,.bool false,.bool false,.pointer (some ⟨w.heap.size,0,none⟩),.int .i64 3,.bool false,.bool false,.agg zaH,.pointer (some ⟨w.heap.size,0,none⟩),.int .i64 3,.agg #[.bool true,.bool true,.bool false,.bool false,.bool false,.bool true],undef,undef,undef,undef,undef,undef,undef,undef,undef,undef,undef,undef,undef,undef,undef,undef,undef,undef,undef,undef,undef,undef,undef,undef,undef,undef,undef,undef,undef,undef,undef,undef,undef,undef,undef,undef,undef,undef,undef,undef,undef,undef,undef,undef,undef,undef,undef,undef,undef,undef,undef,undef,undef,undef,undef,undef,undef,undef,undef,undef,undef,undef,undef,undef,undef,undef,undef,undef,undef,undef,undef,undef,undef,undef,undef,undef,undef,undef,undef,undef,undef,undef,undef,undef,undef,undef,undef,undef,undef,undef,undef,undef,undef,undef,undef,undef,undef,undef,undef,undef,undef,undef,undef,undef,undef,undef,undef,undef,undef,undef,undef,undef,undef,undef,undef,undef,undef,undef,undef,undef,undef,undef,undef,undef,undef,undef,undef,undef,undef,undef,undef,undef,undef,undef,undef,undef,undef,undef,undef,undef,undef,undef],[]⟩ W:=by
  intro W h A1 R1
  clear A0
  clear c0 c1 c2 c3 c4 c5 c6 c7 f0 f1 f2 f3 f4 f5 f6 f7
  obtain ⟨⟨c0,c1,c2,c3,c4,c5,c6,c7⟩,f0,f1,f2,f3,f4,f5,f6,f7⟩:=zaa A1.out.1
  obtain ⟨r0,r1,r2,r3,r4,r5⟩:=row7 R1.out
  rcases Decidable.em (L s=[]) with z1 | z1
  ·have y1:s.toList.isEmpty=true:=by rw [zbh,z1];rfl
   have y1b:s.toList=[]:=by rw [zbh,z1]
   have Z1:=hid z1
   clear z1
   rcases Decidable.em (m=0) with z2 | z2
   ·have y2:(m != 0)=false:=by rw [z2];rfl
    have Z2:=hid z2
    clear z2
    rcases Decidable.em (n=0) with z3 | z3
    ·have y3:(n != 0)=false:=by rw [z3];rfl
     have Z3:=hid z3
     clear z3
     cases x0
     ·go_wp2_with fail
      with_reducible refine (zap f _ hf).mono ?_
      rw [X0.out]
      rintro e w14 ⟨rfl,hb⟩
      have A14:=hid (A1.out.on hb)
      have R14:Hid (za5 w14 h true true false false false true):=hid (Blk.below R1.out hb (Blk.lt R1.out))
      clear hb A1 R1 r0 r1 r2 r3 r4 r5
      clear c0 c1 c2 c3 c4 c5 c6 c7 f0 f1 f2 f3 f4 f5 f6 f7
      obtain ⟨⟨c0,c1,c2,c3,c4,c5,c6,c7⟩,f0,f1,f2,f3,f4,f5,f6,f7⟩:=zaa A14.out.1
      obtain ⟨r0,r1,r2,r3,r4,r5⟩:=row7 R14.out
      have E:docK ⟨3,u,f,q,s,m,n,t⟩=false:=by simp [docK,zaG,SK.out,S0.out,S1.out,S2.out,S3.out,S4.out,S5.out,X0.out,X2.out,Z1.out,Z2.out,Z3.out] <;> omega
      have HE:=hid E
      clear E
      go_wp2
      go_ret
      exact ⟨zab (by first | exact HE.out.symm | (rw [HE.out];simp;omega)),A14.out.below⟩
     ·go_wp2_with fail
      with_reducible refine (zap f _ hf).mono ?_
      rw [X0.out]
      rintro e w14 ⟨rfl,hb⟩
      have A14:=hid (A1.out.on hb)
      have R14:Hid (za5 w14 h true true false false false true):=hid (Blk.below R1.out hb (Blk.lt R1.out))
      clear hb A1 R1 r0 r1 r2 r3 r4 r5
      clear c0 c1 c2 c3 c4 c5 c6 c7 f0 f1 f2 f3 f4 f5 f6 f7
      obtain ⟨⟨c0,c1,c2,c3,c4,c5,c6,c7⟩,f0,f1,f2,f3,f4,f5,f6,f7⟩:=zaa A14.out.1
      obtain ⟨r0,r1,r2,r3,r4,r5⟩:=row7 R14.out
      rcases Decidable.em (q=0) with z5 | z5
      ·have y5:(q == 0)=true:=by rw [z5];rfl
       have E:docK ⟨3,u,f,q,s,m,n,t⟩=false:=by simp [docK,zaG,SK.out,S0.out,S1.out,S2.out,S3.out,S4.out,S5.out,X0.out,X2.out,Z1.out,Z2.out,Z3.out,z5] <;> omega
       have HE:=hid E
       clear E
       go_wp2
       go_ret
       exact ⟨zab (by first | exact HE.out.symm | (rw [HE.out];simp;omega)),A14.out.below⟩
      ·have y5:(q == 0)=false:=beq_eq_false_iff_ne.2 z5
       rcases Decidable.em (0≤t) with z6 | z6
       ·rcases Decidable.em (t≤1099511627776) with z6b | z6b
        ·have y6:=z6
         have E:docK ⟨3,u,f,q,s,m,n,t⟩=true:=by simp [docK,zaG,SK.out,S0.out,S1.out,S2.out,S3.out,S4.out,S5.out,X0.out,X2.out,Z1.out,Z2.out,Z3.out,z5] <;> omega
         have HE:=hid E
         clear E
         go_wp2
         go_ret
         exact ⟨zab (by first | exact HE.out.symm | (rw [HE.out];simp;omega)),A14.out.below⟩
        ·have y6:=z6
         have E:docK ⟨3,u,f,q,s,m,n,t⟩=false:=by simp [docK,zaG,SK.out,S0.out,S1.out,S2.out,S3.out,S4.out,S5.out,X0.out,X2.out,Z1.out,Z2.out,Z3.out,z5] <;> omega
         have HE:=hid E
         clear E
         go_wp2
         go_ret
         exact ⟨zab (by first | exact HE.out.symm | (rw [HE.out];simp;omega)),A14.out.below⟩
       ·have y6:=z6
        have E:docK ⟨3,u,f,q,s,m,n,t⟩=false:=by simp [docK,zaG,SK.out,S0.out,S1.out,S2.out,S3.out,S4.out,S5.out,X0.out,X2.out,Z1.out,Z2.out,Z3.out,z5] <;> omega
        have HE:=hid E
        clear E
        go_wp2
        go_ret
        exact ⟨zab (by first | exact HE.out.symm | (rw [HE.out];simp;omega)),A14.out.below⟩
    ·have y3:(n != 0)=true:=bne_iff_ne.2 z3
     have E:docK ⟨3,u,f,q,s,m,n,t⟩=false:=by simp [docK,zaG,SK.out,S0.out,S1.out,S2.out,S3.out,S4.out,S5.out,X0.out,X2.out,Z1.out,Z2.out,z3] <;> omega
     have HE:=hid E
     clear E
     go_wp2
     go_ret
     exact ⟨zab (by first | exact HE.out.symm | (rw [HE.out];simp;omega)),A1.out.below⟩
   ·have y2:(m != 0)=true:=bne_iff_ne.2 z2
    have E:docK ⟨3,u,f,q,s,m,n,t⟩=false:=by simp [docK,zaG,SK.out,S0.out,S1.out,S2.out,S3.out,S4.out,S5.out,X0.out,X2.out,Z1.out,z2] <;> omega
    have HE:=hid E
    clear E
    go_wp2
    go_ret
    exact ⟨zab (by first | exact HE.out.symm | (rw [HE.out];simp;omega)),A1.out.below⟩
  ·have y1:s.toList.isEmpty=false:=(zbp (l:=L s) rfl z1).1
   have y1b:¬s.toList=[]:=(zbp (l:=L s) rfl z1).2
   have E:docK ⟨3,u,f,q,s,m,n,t⟩=false:=by simp [docK,zaG,SK.out,S0.out,S1.out,S2.out,S3.out,S4.out,S5.out,X0.out,X2.out,z1] <;> omega
   have HE:=hid E
   clear E
   go_wp2
   go_ret
   exact ⟨zab (by first | exact HE.out.symm | (rw [HE.out];simp;omega)),A1.out.below⟩
 have key:=hid key0
 clear key0 hKr
 obtain ⟨W0,hW0⟩:∃W0,w.alloc (.cells #[.int .i64 3,.int .u64 u,.string f,.int .u64 q,.string s,.int .i64 m,.int .u64 n,.int .i64 t] 80)=W0:=⟨_,rfl⟩
 have B0:Hid (zac w W0 w.heap.size ⟨3,u,f,q,s,m,n,t⟩):=hid (by rw [←hW0];exact A0.out)
 rw [hW0] at c0 c1 c2 c3 c4 c5 c6 c7 f0 f1 f2 f3 f4 f5 f6 f7 ⊢
 have hsz:Hid (w.heap.size<W0.heap.size):=hid B0.out.lt
 clear A0 hW0
 have IX:=zoD
 go_region_held3 (fun w'=>w'.cell? ⟨w.heap.size,0,none⟩=some (.int .i64 3))
  (first | with_reducible exact zac.kind (zac.drew B0.out) | with_reducible exact zac.kind (zac.drew (zac.alloc B0.out _)) | with_reducible exact zac.kind A1.out | with_reducible exact zac.kind (zac.alloc A1.out _) | with_reducible exact zac.kind (zac.row (zac.alloc A1.out _) (Nat.ne_of_lt (zac.lt A1.out)) (Nat.le_of_lt (zac.lt A1.out)) _ _ _ _ _ _) | with_reducible exact zac.kind (zac.row A1.out (Nat.ne_of_lt hsz.out) (Nat.le_of_lt hsz.out) _ _ _ _ _ _))
  (first
   | (go_at_call 132;(with_reducible refine (zbb _).mono ?_);rintro e w1 ⟨rfl,hb1⟩;have A1:=hid (zac.on (zac.drew B0.out) hb1))
   | (go_at_call 132;(with_reducible refine (zbb _).mono ?_);rintro e w1 ⟨rfl,hb1⟩;have A1:=hid (zac.on (zac.drew (zac.alloc B0.out _)) hb1);have R1:=hid (zcs hb1);obtain ⟨q0,q1,q2,q3,q4,q5⟩:=row7 R1.out;obtain ⟨v0,v1,v2,v3,v4,v5⟩:=ziL R1.out))
 all_goals change Kr _ _
 all_goals with_reducible refine key.out _ _ ?_ ?_
 ·exact hid (A1.out.alloc _)
 ·exact hid (Blk.new w1 203 #[.bool true,.bool true,.bool false,.bool false,.bool false,.bool true])
 ·exact hid (A1.out.alloc _)
 ·exact hid (Blk.new w1 203 #[.bool true,.bool true,.bool false,.bool false,.bool false,.bool true])
 ·exact hid (A1.out.row (Nat.ne_of_lt hsz.out) (Nat.le_of_lt hsz.out) _ _ _ _ _ _)
 ·exact hid (zc1 R1.out)
theorem zvo (u:Int) (f:ByteArray) (q:Int) (s:ByteArray) (m n t:Int) (w:World) (hf:f.size≤900) (hp:s.size≤900) (o1:0≤q) (o2:0≤n) :
  Calls Tryz.prog 94 #[val ⟨4,u,f,q,s,m,n,t⟩] w fun e w'=>e=.returned (.bool (docK ⟨4,u,f,q,s,m,n,t⟩))∧Below w.heap.size w w':=by
 have S0:Hid (h0 4=true):=hid rfl
 have S1:Hid (h1 4=true):=hid rfl
 have S2:Hid (h2 4=true):=hid rfl
 have S3:Hid (h3 4=true):=hid rfl
 have S4:Hid (h4 4=false):=hid rfl
 have S5:Hid (h5 4=false):=hid rfl
 have SK:Hid (isK 4=true):=hid rfl
 obtain ⟨x0,hx0⟩:∃x,right (L f)=x:=⟨_,rfl⟩
 obtain ⟨x2,hx2⟩:∃x,right (L s)=x:=⟨_,rfl⟩
 have X0:=hid hx0
 have X2:=hid hx2
 clear hx0 hx2
 have A0:Hid (zac w (w.alloc (.cells (cellsOf ⟨4,u,f,q,s,m,n,t⟩) 80)) w.heap.size ⟨4,u,f,q,s,m,n,t⟩):=hid (zac.start w ⟨4,u,f,q,s,m,n,t⟩)
 go_enter Tryz.func94,Tryz.ntmps94
 obtain ⟨⟨c0,c1,c2,c3,c4,c5,c6,c7⟩,f0,f1,f2,f3,f4,f5,f6,f7⟩:=zaa A0.out.1
 go_wp2_with fail
 rename_i Kr hKr
 have key0:∀(W:World) (h:Nat),Hid (zac w W w.heap.size ⟨4,u,f,q,s,m,n,t⟩)→Hid (za5 W h true true true true false false)→Kr ⟨#[val ⟨4,u,f,q,s,m,n,t⟩,.pointer (some ⟨w.heap.size,0,none⟩),.bool false,.pointer (some ⟨h,0,none⟩),.pointer (some ⟨w.heap.size,0,none⟩),.int .i64 4,.bool false,.bool false,.pointer (some ⟨w.heap.size,0,none⟩),.int .i64 4,.bool false,.bool false,.agg zaH,.pointer (some ⟨w.heap.size,0,none⟩),.int .i64 4,.agg #[.bool true,.bool true,.bool true,.bool true,.bool false,.bool false],undef,undef,undef,undef,undef,undef,undef,undef,undef,undef,undef,undef,undef,undef,undef,undef,undef,undef,undef,undef,undef,undef,undef,undef,undef,undef,undef,undef,undef,undef,undef,undef,undef,undef,undef,undef,undef,undef,undef,undef,undef,undef,undef,undef,undef,undef,undef,undef,undef,undef,undef,undef,undef,undef,undef,undef,undef,undef,undef,undef,undef,undef,undef,undef,undef,undef,undef,undef,undef,undef,undef,undef,undef,undef,undef,undef,undef,undef,undef,undef,undef,undef,undef,undef,undef,undef,undef,undef,undef,undef,undef,undef,undef,undef,undef,undef,undef,undef,undef,undef,undef,undef,undef,undef,undef,undef,undef,undef,undef,undef,undef,undef,undef,undef,undef,undef,undef,undef,undef,undef,undef,undef,undef,undef,undef,undef,undef,undef,undef,undef,undef,undef,undef,undef,undef,undef,undef,undef,undef,undef,undef,undef],[]⟩ W:=by
  intro W h A1 R1
  clear A0
  clear c0 c1 c2 c3 c4 c5 c6 c7 f0 f1 f2 f3 f4 f5 f6 f7
  obtain ⟨⟨c0,c1,c2,c3,c4,c5,c6,c7⟩,f0,f1,f2,f3,f4,f5,f6,f7⟩:=zaa A1.out.1
  obtain ⟨r0,r1,r2,r3,r4,r5⟩:=row7 R1.out
  rcases Decidable.em (n=0) with z1 | z1
  ·have y1:(n != 0)=false:=by rw [z1];rfl
   have Z1:=hid z1
   clear z1
   rcases Decidable.em (t=0) with z2 | z2
   ·have y2:(t != 0)=false:=by rw [z2];rfl
    have yt1:0≤t:=by omega
    have yt2:t≤1099511627776:=by omega
    have Z2:=hid z2
    clear z2
    cases x0
    ·go_wp2_with fail
     with_reducible refine (zap f _ hf).mono ?_
     rw [X0.out]
     rintro e w13 ⟨rfl,hb⟩
     have A13:=hid (A1.out.on hb)
     have R13:Hid (za5 w13 h true true true true false false):=hid (Blk.below R1.out hb (Blk.lt R1.out))
     clear hb A1 R1 r0 r1 r2 r3 r4 r5
     clear c0 c1 c2 c3 c4 c5 c6 c7 f0 f1 f2 f3 f4 f5 f6 f7
     obtain ⟨⟨c0,c1,c2,c3,c4,c5,c6,c7⟩,f0,f1,f2,f3,f4,f5,f6,f7⟩:=zaa A13.out.1
     obtain ⟨r0,r1,r2,r3,r4,r5⟩:=row7 R13.out
     have E:docK ⟨4,u,f,q,s,m,n,t⟩=false:=by simp [docK,zaG,SK.out,S0.out,S1.out,S2.out,S3.out,S4.out,S5.out,X0.out,X2.out,Z1.out,Z2.out] <;> omega
     have HE:=hid E
     clear E
     go_wp2
     go_ret
     exact ⟨zab (by first | exact HE.out.symm | (rw [HE.out];simp;omega)),A13.out.below⟩
    ·go_wp2_with fail
     with_reducible refine (zap f _ hf).mono ?_
     rw [X0.out]
     rintro e w13 ⟨rfl,hb⟩
     have A13:=hid (A1.out.on hb)
     have R13:Hid (za5 w13 h true true true true false false):=hid (Blk.below R1.out hb (Blk.lt R1.out))
     clear hb A1 R1 r0 r1 r2 r3 r4 r5
     clear c0 c1 c2 c3 c4 c5 c6 c7 f0 f1 f2 f3 f4 f5 f6 f7
     obtain ⟨⟨c0,c1,c2,c3,c4,c5,c6,c7⟩,f0,f1,f2,f3,f4,f5,f6,f7⟩:=zaa A13.out.1
     obtain ⟨r0,r1,r2,r3,r4,r5⟩:=row7 R13.out
     rcases Decidable.em (q=0) with z4 | z4
     ·have y4:(q == 0)=true:=by rw [z4];rfl
      have E:docK ⟨4,u,f,q,s,m,n,t⟩=false:=by simp [docK,zaG,SK.out,S0.out,S1.out,S2.out,S3.out,S4.out,S5.out,X0.out,X2.out,Z1.out,Z2.out,z4] <;> omega
      have HE:=hid E
      clear E
      go_wp2
      go_ret
      exact ⟨zab (by first | exact HE.out.symm | (rw [HE.out];simp;omega)),A13.out.below⟩
     ·have y4:(q == 0)=false:=beq_eq_false_iff_ne.2 z4
      cases x2
      ·go_wp2_with fail
       with_reducible refine (zap s _ hp).mono ?_
       rw [X2.out]
       rintro e w15 ⟨rfl,hb⟩
       have A15:=hid (A13.out.on hb)
       have R15:Hid (za5 w15 h true true true true false false):=hid (Blk.below R13.out hb (Blk.lt R13.out))
       clear hb A13 R13 r0 r1 r2 r3 r4 r5
       clear c0 c1 c2 c3 c4 c5 c6 c7 f0 f1 f2 f3 f4 f5 f6 f7
       obtain ⟨⟨c0,c1,c2,c3,c4,c5,c6,c7⟩,f0,f1,f2,f3,f4,f5,f6,f7⟩:=zaa A15.out.1
       obtain ⟨r0,r1,r2,r3,r4,r5⟩:=row7 R15.out
       have E:docK ⟨4,u,f,q,s,m,n,t⟩=false:=by simp [docK,zaG,SK.out,S0.out,S1.out,S2.out,S3.out,S4.out,S5.out,X0.out,X2.out,Z1.out,Z2.out,z4] <;> omega
       have HE:=hid E
       clear E
       go_wp2
       go_ret
       exact ⟨zab (by first | exact HE.out.symm | (rw [HE.out];simp;omega)),A15.out.below⟩
      ·go_wp2_with fail
       with_reducible refine (zap s _ hp).mono ?_
       rw [X2.out]
       rintro e w15 ⟨rfl,hb⟩
       have A15:=hid (A13.out.on hb)
       have R15:Hid (za5 w15 h true true true true false false):=hid (Blk.below R13.out hb (Blk.lt R13.out))
       clear hb A13 R13 r0 r1 r2 r3 r4 r5
       clear c0 c1 c2 c3 c4 c5 c6 c7 f0 f1 f2 f3 f4 f5 f6 f7
       obtain ⟨⟨c0,c1,c2,c3,c4,c5,c6,c7⟩,f0,f1,f2,f3,f4,f5,f6,f7⟩:=zaa A15.out.1
       obtain ⟨r0,r1,r2,r3,r4,r5⟩:=row7 R15.out
       rcases Decidable.em (m<1) with z6 | z6
       ·have y6:=z6
        have E:docK ⟨4,u,f,q,s,m,n,t⟩=false:=by simp [docK,zaG,SK.out,S0.out,S1.out,S2.out,S3.out,S4.out,S5.out,X0.out,X2.out,Z1.out,Z2.out,z4] <;> omega
        have HE:=hid E
        clear E
        go_wp2
        go_ret
        exact ⟨zab (by first | exact HE.out.symm | (rw [HE.out];simp;omega)),A15.out.below⟩
       ·rcases Decidable.em (2<m) with z6b | z6b
        ·have y6:=z6
         have E:docK ⟨4,u,f,q,s,m,n,t⟩=false:=by simp [docK,zaG,SK.out,S0.out,S1.out,S2.out,S3.out,S4.out,S5.out,X0.out,X2.out,Z1.out,Z2.out,z4] <;> omega
         have HE:=hid E
         clear E
         go_wp2
         go_ret
         exact ⟨zab (by first | exact HE.out.symm | (rw [HE.out];simp;omega)),A15.out.below⟩
        ·have y6:=z6
         have E:docK ⟨4,u,f,q,s,m,n,t⟩=true:=by simp [docK,zaG,SK.out,S0.out,S1.out,S2.out,S3.out,S4.out,S5.out,X0.out,X2.out,Z1.out,Z2.out,z4] <;> omega
         have HE:=hid E
         clear E
         go_wp2
         go_ret
         exact ⟨zab (by first | exact HE.out.symm | (rw [HE.out];simp;omega)),A15.out.below⟩
   ·have y2:(t != 0)=true:=bne_iff_ne.2 z2
    have E:docK ⟨4,u,f,q,s,m,n,t⟩=false:=by simp [docK,zaG,SK.out,S0.out,S1.out,S2.out,S3.out,S4.out,S5.out,X0.out,X2.out,Z1.out,z2] <;> omega
    have HE:=hid E
    clear E
    go_wp2
    go_ret
    exact ⟨zab (by first | exact HE.out.symm | (rw [HE.out];simp;omega)),A1.out.below⟩
  ·have y1:(n != 0)=true:=bne_iff_ne.2 z1
   have E:docK ⟨4,u,f,q,s,m,n,t⟩=false:=by simp [docK,zaG,SK.out,S0.out,S1.out,S2.out,S3.out,S4.out,S5.out,X0.out,X2.out,z1] <;> omega
   have HE:=hid E
   clear E
   go_wp2
   go_ret
   exact ⟨zab (by first | exact HE.out.symm | (rw [HE.out];simp;omega)),A1.out.below⟩
 have key:=hid key0
 clear key0 hKr
 obtain ⟨W0,hW0⟩:∃W0,w.alloc (.cells #[.int .i64 4,.int .u64 u,.string f,.int .u64 q,.string s,.int .i64 m,.int .u64 n,.int .i64 t] 80)=W0:=⟨_,rfl⟩
 have B0:Hid (zac w W0 w.heap.size ⟨4,u,f,q,s,m,n,t⟩):=hid (by rw [←hW0];exact A0.out)
 rw [hW0] at c0 c1 c2 c3 c4 c5 c6 c7 f0 f1 f2 f3 f4 f5 f6 f7 ⊢
 have hsz:Hid (w.heap.size<W0.heap.size):=hid B0.out.lt
 clear A0 hW0
 have IX:=zpE
 go_region_held3 (fun w'=>w'.cell? ⟨w.heap.size,0,none⟩=some (.int .i64 4))
  (first | with_reducible exact zac.kind (zac.drew B0.out) | with_reducible exact zac.kind (zac.drew (zac.alloc B0.out _)) | with_reducible exact zac.kind A1.out | with_reducible exact zac.kind (zac.alloc A1.out _) | with_reducible exact zac.kind (zac.row (zac.alloc A1.out _) (Nat.ne_of_lt (zac.lt A1.out)) (Nat.le_of_lt (zac.lt A1.out)) _ _ _ _ _ _) | with_reducible exact zac.kind (zac.row A1.out (Nat.ne_of_lt hsz.out) (Nat.le_of_lt hsz.out) _ _ _ _ _ _))
  (first
   | (go_at_call 132;(with_reducible refine (zbb _).mono ?_);rintro e w1 ⟨rfl,hb1⟩;have A1:=hid (zac.on (zac.drew B0.out) hb1))
   | (go_at_call 132;(with_reducible refine (zbb _).mono ?_);rintro e w1 ⟨rfl,hb1⟩;have A1:=hid (zac.on (zac.drew (zac.alloc B0.out _)) hb1);have R1:=hid (zcs hb1);obtain ⟨q0,q1,q2,q3,q4,q5⟩:=row7 R1.out;obtain ⟨v0,v1,v2,v3,v4,v5⟩:=ziL R1.out))
 all_goals change Kr _ _
 all_goals with_reducible refine key.out _ _ ?_ ?_
 ·exact hid (A1.out.alloc _)
 ·exact hid (Blk.new w1 203 #[.bool true,.bool true,.bool true,.bool true,.bool false,.bool false])
 ·exact hid (A1.out.alloc _)
 ·exact hid (Blk.new w1 203 #[.bool true,.bool true,.bool true,.bool true,.bool false,.bool false])
 ·exact hid (A1.out.row (Nat.ne_of_lt hsz.out) (Nat.le_of_lt hsz.out) _ _ _ _ _ _)
 ·exact hid (zc1 R1.out)
theorem zu5 (u:Int) (f:ByteArray) (q:Int) (s:ByteArray) (m n t:Int) (w:World) (hf:f.size≤900) (hp:s.size≤900) (o1:0≤q) (o2:0≤n) :
  Calls Tryz.prog 94 #[val ⟨5,u,f,q,s,m,n,t⟩] w fun e w'=>e=.returned (.bool (docK ⟨5,u,f,q,s,m,n,t⟩))∧Below w.heap.size w w':=by
 have S0:Hid (h0 5=true):=hid rfl
 have S1:Hid (h1 5=true):=hid rfl
 have S2:Hid (h2 5=true):=hid rfl
 have S3:Hid (h3 5=true):=hid rfl
 have S4:Hid (h4 5=false):=hid rfl
 have S5:Hid (h5 5=false):=hid rfl
 have SK:Hid (isK 5=true):=hid rfl
 obtain ⟨x0,hx0⟩:∃x,right (L f)=x:=⟨_,rfl⟩
 obtain ⟨x2,hx2⟩:∃x,right (L s)=x:=⟨_,rfl⟩
 have X0:=hid hx0
 have X2:=hid hx2
 clear hx0 hx2
 have A0:Hid (zac w (w.alloc (.cells (cellsOf ⟨5,u,f,q,s,m,n,t⟩) 80)) w.heap.size ⟨5,u,f,q,s,m,n,t⟩):=hid (zac.start w ⟨5,u,f,q,s,m,n,t⟩)
 go_enter Tryz.func94,Tryz.ntmps94
 obtain ⟨⟨c0,c1,c2,c3,c4,c5,c6,c7⟩,f0,f1,f2,f3,f4,f5,f6,f7⟩:=zaa A0.out.1
 go_wp2_with fail
 rename_i Kr hKr
 have key0:∀(W:World) (h:Nat),Hid (zac w W w.heap.size ⟨5,u,f,q,s,m,n,t⟩)→Hid (za5 W h true true true true false false)→Kr ⟨#[val ⟨5,u,f,q,s,m,n,t⟩,.pointer (some ⟨w.heap.size,0,none⟩),.bool false,.pointer (some ⟨h,0,none⟩),.pointer (some ⟨w.heap.size,0,none⟩),.int .i64 5,.bool false,.bool false,.pointer (some ⟨w.heap.size,0,none⟩),.int .i64 5,.bool false,.bool false,.agg zaH,.pointer (some ⟨w.heap.size,0,none⟩),.int .i64 5,.agg #[.bool true,.bool true,.bool true,.bool true,.bool false,.bool false],undef,undef,undef,undef,undef,undef,undef,undef,undef,undef,undef,undef,undef,undef,undef,undef,undef,undef,undef,undef,undef,undef,undef,undef,undef,undef,undef,undef,undef,undef,undef,undef,undef,undef,undef,undef,undef,undef,undef,undef,undef,undef,undef,undef,undef,undef,undef,undef,undef,undef,undef,undef,undef,undef,undef,undef,undef,undef,undef,undef,undef,undef,undef,undef,undef,undef,undef,undef,undef,undef,undef,undef,undef,undef,undef,undef,undef,undef,undef,undef,undef,undef,undef,undef,undef,undef,undef,undef,undef,undef,undef,undef,undef,undef,undef,undef,undef,undef,undef,undef,undef,undef,undef,undef,undef,undef,undef,undef,undef,undef,undef,undef,undef,undef,undef,undef,undef,undef,undef,undef,undef,undef,undef,undef,undef,undef,undef,undef,undef,undef,undef,undef,undef,undef,undef,undef,undef,undef,undef,undef,undef,undef],[]⟩ W:=by
  intro W h A1 R1
  clear A0
  clear c0 c1 c2 c3 c4 c5 c6 c7 f0 f1 f2 f3 f4 f5 f6 f7
  obtain ⟨⟨c0,c1,c2,c3,c4,c5,c6,c7⟩,f0,f1,f2,f3,f4,f5,f6,f7⟩:=zaa A1.out.1
  obtain ⟨r0,r1,r2,r3,r4,r5⟩:=row7 R1.out
  rcases Decidable.em (n=0) with z1 | z1
  ·have y1:(n != 0)=false:=by rw [z1];rfl
   have Z1:=hid z1
   clear z1
   rcases Decidable.em (t=0) with z2 | z2
   ·have y2:(t != 0)=false:=by rw [z2];rfl
    have yt1:0≤t:=by omega
    have yt2:t≤1099511627776:=by omega
    have Z2:=hid z2
    clear z2
    cases x0
    ·go_wp2_with fail
     with_reducible refine (zap f _ hf).mono ?_
     rw [X0.out]
     rintro e w13 ⟨rfl,hb⟩
     have A13:=hid (A1.out.on hb)
     have R13:Hid (za5 w13 h true true true true false false):=hid (Blk.below R1.out hb (Blk.lt R1.out))
     clear hb A1 R1 r0 r1 r2 r3 r4 r5
     clear c0 c1 c2 c3 c4 c5 c6 c7 f0 f1 f2 f3 f4 f5 f6 f7
     obtain ⟨⟨c0,c1,c2,c3,c4,c5,c6,c7⟩,f0,f1,f2,f3,f4,f5,f6,f7⟩:=zaa A13.out.1
     obtain ⟨r0,r1,r2,r3,r4,r5⟩:=row7 R13.out
     have E:docK ⟨5,u,f,q,s,m,n,t⟩=false:=by simp [docK,zaG,SK.out,S0.out,S1.out,S2.out,S3.out,S4.out,S5.out,X0.out,X2.out,Z1.out,Z2.out] <;> omega
     have HE:=hid E
     clear E
     go_wp2
     go_ret
     exact ⟨zab (by first | exact HE.out.symm | (rw [HE.out];simp;omega)),A13.out.below⟩
    ·go_wp2_with fail
     with_reducible refine (zap f _ hf).mono ?_
     rw [X0.out]
     rintro e w13 ⟨rfl,hb⟩
     have A13:=hid (A1.out.on hb)
     have R13:Hid (za5 w13 h true true true true false false):=hid (Blk.below R1.out hb (Blk.lt R1.out))
     clear hb A1 R1 r0 r1 r2 r3 r4 r5
     clear c0 c1 c2 c3 c4 c5 c6 c7 f0 f1 f2 f3 f4 f5 f6 f7
     obtain ⟨⟨c0,c1,c2,c3,c4,c5,c6,c7⟩,f0,f1,f2,f3,f4,f5,f6,f7⟩:=zaa A13.out.1
     obtain ⟨r0,r1,r2,r3,r4,r5⟩:=row7 R13.out
     rcases Decidable.em (q=0) with z4 | z4
     ·have y4:(q == 0)=true:=by rw [z4];rfl
      have E:docK ⟨5,u,f,q,s,m,n,t⟩=false:=by simp [docK,zaG,SK.out,S0.out,S1.out,S2.out,S3.out,S4.out,S5.out,X0.out,X2.out,Z1.out,Z2.out,z4] <;> omega
      have HE:=hid E
      clear E
      go_wp2
      go_ret
      exact ⟨zab (by first | exact HE.out.symm | (rw [HE.out];simp;omega)),A13.out.below⟩
     ·have y4:(q == 0)=false:=beq_eq_false_iff_ne.2 z4
      cases x2
      ·go_wp2_with fail
       with_reducible refine (zap s _ hp).mono ?_
       rw [X2.out]
       rintro e w15 ⟨rfl,hb⟩
       have A15:=hid (A13.out.on hb)
       have R15:Hid (za5 w15 h true true true true false false):=hid (Blk.below R13.out hb (Blk.lt R13.out))
       clear hb A13 R13 r0 r1 r2 r3 r4 r5
       clear c0 c1 c2 c3 c4 c5 c6 c7 f0 f1 f2 f3 f4 f5 f6 f7
       obtain ⟨⟨c0,c1,c2,c3,c4,c5,c6,c7⟩,f0,f1,f2,f3,f4,f5,f6,f7⟩:=zaa A15.out.1
       obtain ⟨r0,r1,r2,r3,r4,r5⟩:=row7 R15.out
       have E:docK ⟨5,u,f,q,s,m,n,t⟩=false:=by simp [docK,zaG,SK.out,S0.out,S1.out,S2.out,S3.out,S4.out,S5.out,X0.out,X2.out,Z1.out,Z2.out,z4] <;> omega
       have HE:=hid E
       clear E
       go_wp2
       go_ret
       exact ⟨zab (by first | exact HE.out.symm | (rw [HE.out];simp;omega)),A15.out.below⟩
      ·go_wp2_with fail
       with_reducible refine (zap s _ hp).mono ?_
       rw [X2.out]
       rintro e w15 ⟨rfl,hb⟩
       have A15:=hid (A13.out.on hb)
       have R15:Hid (za5 w15 h true true true true false false):=hid (Blk.below R13.out hb (Blk.lt R13.out))
       clear hb A13 R13 r0 r1 r2 r3 r4 r5
       clear c0 c1 c2 c3 c4 c5 c6 c7 f0 f1 f2 f3 f4 f5 f6 f7
       obtain ⟨⟨c0,c1,c2,c3,c4,c5,c6,c7⟩,f0,f1,f2,f3,f4,f5,f6,f7⟩:=zaa A15.out.1
       obtain ⟨r0,r1,r2,r3,r4,r5⟩:=row7 R15.out
       rcases Decidable.em (m<1) with z6 | z6
       ·have y6:=z6
        have E:docK ⟨5,u,f,q,s,m,n,t⟩=false:=by simp [docK,zaG,SK.out,S0.out,S1.out,S2.out,S3.out,S4.out,S5.out,X0.out,X2.out,Z1.out,Z2.out,z4] <;> omega
        have HE:=hid E
        clear E
        go_wp2
        go_ret
        exact ⟨zab (by first | exact HE.out.symm | (rw [HE.out];simp;omega)),A15.out.below⟩
       ·rcases Decidable.em (2<m) with z6b | z6b
        ·have y6:=z6
         have E:docK ⟨5,u,f,q,s,m,n,t⟩=false:=by simp [docK,zaG,SK.out,S0.out,S1.out,S2.out,S3.out,S4.out,S5.out,X0.out,X2.out,Z1.out,Z2.out,z4] <;> omega
         have HE:=hid E
         clear E
         go_wp2
         go_ret
         exact ⟨zab (by first | exact HE.out.symm | (rw [HE.out];simp;omega)),A15.out.below⟩
        ·have y6:=z6
         have E:docK ⟨5,u,f,q,s,m,n,t⟩=true:=by simp [docK,zaG,SK.out,S0.out,S1.out,S2.out,S3.out,S4.out,S5.out,X0.out,X2.out,Z1.out,Z2.out,z4] <;> omega
         have HE:=hid E
         clear E
         go_wp2
         go_ret
         exact ⟨zab (by first | exact HE.out.symm | (rw [HE.out];simp;omega)),A15.out.below⟩
   ·have y2:(t != 0)=true:=bne_iff_ne.2 z2
    have E:docK ⟨5,u,f,q,s,m,n,t⟩=false:=by simp [docK,zaG,SK.out,S0.out,S1.out,S2.out,S3.out,S4.out,S5.out,X0.out,X2.out,Z1.out,z2] <;> omega
    have HE:=hid E
    clear E
    go_wp2
    go_ret
    exact ⟨zab (by first | exact HE.out.symm | (rw [HE.out];simp;omega)),A1.out.below⟩
  ·have y1:(n != 0)=true:=bne_iff_ne.2 z1
   have E:docK ⟨5,u,f,q,s,m,n,t⟩=false:=by simp [docK,zaG,SK.out,S0.out,S1.out,S2.out,S3.out,S4.out,S5.out,X0.out,X2.out,z1] <;> omega
   have HE:=hid E
   clear E
   go_wp2
   go_ret
   exact ⟨zab (by first | exact HE.out.symm | (rw [HE.out];simp;omega)),A1.out.below⟩
 have key:=hid key0
 clear key0 hKr
 obtain ⟨W0,hW0⟩:∃W0,w.alloc (.cells #[.int .i64 5,.int .u64 u,.string f,.int .u64 q,.string s,.int .i64 m,.int .u64 n,.int .i64 t] 80)=W0:=⟨_,rfl⟩
 have B0:Hid (zac w W0 w.heap.size ⟨5,u,f,q,s,m,n,t⟩):=hid (by rw [←hW0];exact A0.out)
 rw [hW0] at c0 c1 c2 c3 c4 c5 c6 c7 f0 f1 f2 f3 f4 f5 f6 f7 ⊢
 have hsz:Hid (w.heap.size<W0.heap.size):=hid B0.out.lt
 clear A0 hW0
 have IX:=zp6
 go_region_held3 (fun w'=>w'.cell? ⟨w.heap.size,0,none⟩=some (.int .i64 5))
  (first | with_reducible exact zac.kind (zac.drew B0.out) | with_reducible exact zac.kind (zac.drew (zac.alloc B0.out _)) | with_reducible exact zac.kind A1.out | with_reducible exact zac.kind (zac.alloc A1.out _) | with_reducible exact zac.kind (zac.row (zac.alloc A1.out _) (Nat.ne_of_lt (zac.lt A1.out)) (Nat.le_of_lt (zac.lt A1.out)) _ _ _ _ _ _) | with_reducible exact zac.kind (zac.row A1.out (Nat.ne_of_lt hsz.out) (Nat.le_of_lt hsz.out) _ _ _ _ _ _))
  (first
   | (go_at_call 132;(with_reducible refine (zbb _).mono ?_);rintro e w1 ⟨rfl,hb1⟩;have A1:=hid (zac.on (zac.drew B0.out) hb1))
   | (go_at_call 132;(with_reducible refine (zbb _).mono ?_);rintro e w1 ⟨rfl,hb1⟩;have A1:=hid (zac.on (zac.drew (zac.alloc B0.out _)) hb1);have R1:=hid (zcs hb1);obtain ⟨q0,q1,q2,q3,q4,q5⟩:=row7 R1.out;obtain ⟨v0,v1,v2,v3,v4,v5⟩:=ziL R1.out))
 all_goals change Kr _ _
 all_goals with_reducible refine key.out _ _ ?_ ?_
 ·exact hid (A1.out.alloc _)
 ·exact hid (Blk.new w1 203 #[.bool true,.bool true,.bool true,.bool true,.bool false,.bool false])
 ·exact hid (A1.out.alloc _)
 ·exact hid (Blk.new w1 203 #[.bool true,.bool true,.bool true,.bool true,.bool false,.bool false])
 ·exact hid (A1.out.row (Nat.ne_of_lt hsz.out) (Nat.le_of_lt hsz.out) _ _ _ _ _ _)
 ·exact hid (zc1 R1.out)
end Go.Proofs.YtnjdckoljmgcjaaGreatDoor
