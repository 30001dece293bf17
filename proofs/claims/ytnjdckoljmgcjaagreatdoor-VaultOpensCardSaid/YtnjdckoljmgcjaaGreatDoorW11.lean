/-
  Bytes as a string; the contract of bytes.Clone.
-/
import Derived.Test.YtnjdckoljmgcjaaGreatDoorW08
import Derived.Laws.BytesArg
set_option maxRecDepth 100000
set_option maxHeartbeats 4000000
namespace Go.Proofs.YtnjdckoljmgcjaaGreatDoor
open Go.ChangeShapes Go.WideShapes Go.ChangeAt Go.RowKit Go.Lib
set_option linter.unusedSimpArgs false
set_option linter.unusedVariables false
theorem zvy (u:Int) (f:ByteArray) (q:Int) (s:ByteArray) (m n t:Int) (w:World) (hf:f.size≤900) (hp:s.size≤900) (o1:0≤q) (o2:0≤n) :
  Calls Tryz.prog 94 #[val ⟨6,u,f,q,s,m,n,t⟩] w fun e w'=>e=.returned (.bool (docK ⟨6,u,f,q,s,m,n,t⟩))∧Below w.heap.size w w':=by
 have S0:Hid (h0 6=true):=hid rfl
 have S1:Hid (h1 6=true):=hid rfl
 have S2:Hid (h2 6=true):=hid rfl
 have S3:Hid (h3 6=false):=hid rfl
 have S4:Hid (h4 6=false):=hid rfl
 have S5:Hid (h5 6=false):=hid rfl
 have SK:Hid (isK 6=true):=hid rfl
 obtain ⟨x0,hx0⟩:∃x,right (L f)=x:=⟨_,rfl⟩
 obtain ⟨x2,hx2⟩:∃x,right (L s)=x:=⟨_,rfl⟩
 have X0:=hid hx0
 have X2:=hid hx2
 clear hx0 hx2
 have A0:Hid (zac w (w.alloc (.cells (cellsOf ⟨6,u,f,q,s,m,n,t⟩) 80)) w.heap.size ⟨6,u,f,q,s,m,n,t⟩):=hid (zac.start w ⟨6,u,f,q,s,m,n,t⟩)
 go_enter Tryz.func94,Tryz.ntmps94
 obtain ⟨⟨c0,c1,c2,c3,c4,c5,c6,c7⟩,f0,f1,f2,f3,f4,f5,f6,f7⟩:=zaa A0.out.1
 go_wp2_with fail
 rename_i Kr hKr
 have key0:∀(W:World) (h:Nat),Hid (zac w W w.heap.size ⟨6,u,f,q,s,m,n,t⟩)→Hid (za5 W h true true true false false false)→Kr ⟨#[val ⟨6,u,f,q,s,m,n,t⟩,.pointer (some ⟨w.heap.size,0,none⟩),.bool false,.pointer (some ⟨h,0,none⟩),.pointer (some ⟨w.heap.size,0,none⟩),.int .i64 6,.bool false,.bool false,.pointer (some ⟨w.heap.size,0,none⟩),.int .i64 6,.bool false,.bool false,.agg zaH,.pointer (some ⟨w.heap.size,0,none⟩),.int .i64 6,.agg #[.bool true,.bool true,.bool true,.bool false,.bool false,.bool false],undef,undef,undef,undef,undef,undef,undef,undef,undef,undef,undef,undef,undef,undef,undef,undef,undef,undef,undef,undef,undef,undef,undef,undef,undef,undef,undef,undef,undef,undef,undef,undef,undef,undef,undef,undef,undef,undef,undef,undef,undef,undef,undef,undef,undef,undef,undef,undef,undef,undef,undef,undef,undef,undef,undef,undef,undef,undef,undef,undef,undef,undef,undef,undef,undef,undef,undef,undef,undef,undef,undef,undef,undef,undef,undef,undef,undef,undef,undef,undef,undef,undef,undef,undef,undef,undef,undef,undef,undef,undef,undef,undef,undef,undef,undef,undef,undef,undef,undef,undef,undef,undef,undef,undef,undef,undef,undef,undef,undef,undef,undef,undef,undef,undef,undef,undef,undef,undef,undef,undef,undef,undef,undef,undef,undef,undef,undef,undef,undef,undef,undef,undef,undef,undef,undef,undef,undef,undef,undef,undef,undef,undef],[]⟩ W:=by
  intro W h A1 R1
  clear A0
  clear c0 c1 c2 c3 c4 c5 c6 c7 f0 f1 f2 f3 f4 f5 f6 f7
  obtain ⟨⟨c0,c1,c2,c3,c4,c5,c6,c7⟩,f0,f1,f2,f3,f4,f5,f6,f7⟩:=zaa A1.out.1
  obtain ⟨r0,r1,r2,r3,r4,r5⟩:=row7 R1.out
  rcases Decidable.em (m=0) with z1 | z1
  ·have y1:(m != 0)=false:=by rw [z1];rfl
   have Z1:=hid z1
   clear z1
   rcases Decidable.em (n=0) with z2 | z2
   ·have y2:(n != 0)=false:=by rw [z2];rfl
    have Z2:=hid z2
    clear z2
    rcases Decidable.em (t=0) with z3 | z3
    ·have y3:(t != 0)=false:=by rw [z3];rfl
     have yt1:0≤t:=by omega
     have yt2:t≤1099511627776:=by omega
     have Z3:=hid z3
     clear z3
     cases x0
     ·go_wp2_with fail
      with_reducible refine (zap f _ hf).mono ?_
      rw [X0.out]
      rintro e w14 ⟨rfl,hb⟩
      have A14:=hid (A1.out.on hb)
      have R14:Hid (za5 w14 h true true true false false false):=hid (Blk.below R1.out hb (Blk.lt R1.out))
      clear hb A1 R1 r0 r1 r2 r3 r4 r5
      clear c0 c1 c2 c3 c4 c5 c6 c7 f0 f1 f2 f3 f4 f5 f6 f7
      obtain ⟨⟨c0,c1,c2,c3,c4,c5,c6,c7⟩,f0,f1,f2,f3,f4,f5,f6,f7⟩:=zaa A14.out.1
      obtain ⟨r0,r1,r2,r3,r4,r5⟩:=row7 R14.out
      have E:docK ⟨6,u,f,q,s,m,n,t⟩=false:=by simp [docK,zaG,SK.out,S0.out,S1.out,S2.out,S3.out,S4.out,S5.out,X0.out,X2.out,Z1.out,Z2.out,Z3.out] <;> omega
      have HE:=hid E
      clear E
      go_wp2
      go_ret
      exact ⟨zab (by first | exact HE.out.symm | (rw [HE.out];simp;omega)),A14.out.below⟩
     ·go_wp2_with fail
      with_reducible refine (zap f _ hf).mono ?_
      rw [X0.out]
      rintro e w14 ⟨rfl,hb⟩
      have A14:=hid (A1.out.on hb)
      have R14:Hid (za5 w14 h true true true false false false):=hid (Blk.below R1.out hb (Blk.lt R1.out))
      clear hb A1 R1 r0 r1 r2 r3 r4 r5
      clear c0 c1 c2 c3 c4 c5 c6 c7 f0 f1 f2 f3 f4 f5 f6 f7
      obtain ⟨⟨c0,c1,c2,c3,c4,c5,c6,c7⟩,f0,f1,f2,f3,f4,f5,f6,f7⟩:=zaa A14.out.1
      obtain ⟨r0,r1,r2,r3,r4,r5⟩:=row7 R14.out
      rcases Decidable.em (q=0) with z5 | z5
      ·have y5:(q == 0)=true:=by rw [z5];rfl
       have E:docK ⟨6,u,f,q,s,m,n,t⟩=false:=by simp [docK,zaG,SK.out,S0.out,S1.out,S2.out,S3.out,S4.out,S5.out,X0.out,X2.out,Z1.out,Z2.out,Z3.out,z5] <;> omega
       have HE:=hid E
       clear E
       go_wp2
       go_ret
       exact ⟨zab (by first | exact HE.out.symm | (rw [HE.out];simp;omega)),A14.out.below⟩
      ·have y5:(q == 0)=false:=beq_eq_false_iff_ne.2 z5
       cases x2
       ·go_wp2_with fail
        with_reducible refine (zap s _ hp).mono ?_
        rw [X2.out]
        rintro e w16 ⟨rfl,hb⟩
        have A16:=hid (A14.out.on hb)
        have R16:Hid (za5 w16 h true true true false false false):=hid (Blk.below R14.out hb (Blk.lt R14.out))
        clear hb A14 R14 r0 r1 r2 r3 r4 r5
        clear c0 c1 c2 c3 c4 c5 c6 c7 f0 f1 f2 f3 f4 f5 f6 f7
        obtain ⟨⟨c0,c1,c2,c3,c4,c5,c6,c7⟩,f0,f1,f2,f3,f4,f5,f6,f7⟩:=zaa A16.out.1
        obtain ⟨r0,r1,r2,r3,r4,r5⟩:=row7 R16.out
        have E:docK ⟨6,u,f,q,s,m,n,t⟩=false:=by simp [docK,zaG,SK.out,S0.out,S1.out,S2.out,S3.out,S4.out,S5.out,X0.out,X2.out,Z1.out,Z2.out,Z3.out,z5] <;> omega
        have HE:=hid E
        clear E
        go_wp2
        go_ret
        exact ⟨zab (by first | exact HE.out.symm | (rw [HE.out];simp;omega)),A16.out.below⟩
       ·go_wp2_with fail
        with_reducible refine (zap s _ hp).mono ?_
        rw [X2.out]
        rintro e w16 ⟨rfl,hb⟩
        have A16:=hid (A14.out.on hb)
        have R16:Hid (za5 w16 h true true true false false false):=hid (Blk.below R14.out hb (Blk.lt R14.out))
        clear hb A14 R14 r0 r1 r2 r3 r4 r5
        clear c0 c1 c2 c3 c4 c5 c6 c7 f0 f1 f2 f3 f4 f5 f6 f7
        obtain ⟨⟨c0,c1,c2,c3,c4,c5,c6,c7⟩,f0,f1,f2,f3,f4,f5,f6,f7⟩:=zaa A16.out.1
        obtain ⟨r0,r1,r2,r3,r4,r5⟩:=row7 R16.out
        have E:docK ⟨6,u,f,q,s,m,n,t⟩=true:=by simp [docK,zaG,SK.out,S0.out,S1.out,S2.out,S3.out,S4.out,S5.out,X0.out,X2.out,Z1.out,Z2.out,Z3.out,z5] <;> omega
        have HE:=hid E
        clear E
        go_wp2
        go_ret
        exact ⟨zab (by first | exact HE.out.symm | (rw [HE.out];simp;omega)),A16.out.below⟩
    ·have y3:(t != 0)=true:=bne_iff_ne.2 z3
     have E:docK ⟨6,u,f,q,s,m,n,t⟩=false:=by simp [docK,zaG,SK.out,S0.out,S1.out,S2.out,S3.out,S4.out,S5.out,X0.out,X2.out,Z1.out,Z2.out,z3] <;> omega
     have HE:=hid E
     clear E
     go_wp2
     go_ret
     exact ⟨zab (by first | exact HE.out.symm | (rw [HE.out];simp;omega)),A1.out.below⟩
   ·have y2:(n != 0)=true:=bne_iff_ne.2 z2
    have E:docK ⟨6,u,f,q,s,m,n,t⟩=false:=by simp [docK,zaG,SK.out,S0.out,S1.out,S2.out,S3.out,S4.out,S5.out,X0.out,X2.out,Z1.out,z2] <;> omega
    have HE:=hid E
    clear E
    go_wp2
    go_ret
    exact ⟨zab (by first | exact HE.out.symm | (rw [HE.out];simp;omega)),A1.out.below⟩
  ·have y1:(m != 0)=true:=bne_iff_ne.2 z1
   have E:docK ⟨6,u,f,q,s,m,n,t⟩=false:=by simp [docK,zaG,SK.out,S0.out,S1.out,S2.out,S3.out,S4.out,S5.out,X0.out,X2.out,z1] <;> omega
   have HE:=hid E
   clear E
   go_wp2
   go_ret
   exact ⟨zab (by first | exact HE.out.symm | (rw [HE.out];simp;omega)),A1.out.below⟩
 have key:=hid key0
 clear key0 hKr
 obtain ⟨W0,hW0⟩:∃W0,w.alloc (.cells #[.int .i64 6,.int .u64 u,.string f,.int .u64 q,.string s,.int .i64 m,.int .u64 n,.int .i64 t] 80)=W0:=⟨_,rfl⟩
 have B0:Hid (zac w W0 w.heap.size ⟨6,u,f,q,s,m,n,t⟩):=hid (by rw [←hW0];exact A0.out)
 rw [hW0] at c0 c1 c2 c3 c4 c5 c6 c7 f0 f1 f2 f3 f4 f5 f6 f7 ⊢
 have hsz:Hid (w.heap.size<W0.heap.size):=hid B0.out.lt
 clear A0 hW0
 have IX:=zpS
 go_region_held3 (fun w'=>w'.cell? ⟨w.heap.size,0,none⟩=some (.int .i64 6))
  (first | with_reducible exact zac.kind (zac.drew B0.out) | with_reducible exact zac.kind (zac.drew (zac.alloc B0.out _)) | with_reducible exact zac.kind A1.out | with_reducible exact zac.kind (zac.alloc A1.out _) | with_reducible exact zac.kind (zac.row (zac.alloc A1.out _) (Nat.ne_of_lt (zac.lt A1.out)) (Nat.le_of_lt (zac.lt A1.out)) _ _ _ _ _ _) | with_reducible exact zac.kind (zac.row A1.out (Nat.ne_of_lt hsz.out) (Nat.le_of_lt hsz.out) _ _ _ _ _ _))
  (first
   | (go_at_call 132;(with_reducible refine (zbb _).mono ?_);rintro e w1 ⟨rfl,hb1⟩;have A1:=hid (zac.on (zac.drew B0.out) hb1))
   | (go_at_call 132;(with_reducible refine (zbb _).mono ?_);rintro e w1 ⟨rfl,hb1⟩;have A1:=hid (zac.on (zac.drew (zac.alloc B0.out _)) hb1);have R1:=hid (zcs hb1);obtain ⟨q0,q1,q2,q3,q4,q5⟩:=row7 R1.out;obtain ⟨v0,v1,v2,v3,v4,v5⟩:=ziL R1.out))
 all_goals change Kr _ _
 all_goals with_reducible refine key.out _ _ ?_ ?_
 ·exact hid (A1.out.alloc _)
 ·exact hid (Blk.new w1 203 #[.bool true,.bool true,.bool true,.bool false,.bool false,.bool false])
 ·exact hid (A1.out.alloc _)
 ·exact hid (Blk.new w1 203 #[.bool true,.bool true,.bool true,.bool false,.bool false,.bool false])
 ·exact hid (A1.out.row (Nat.ne_of_lt hsz.out) (Nat.le_of_lt hsz.out) _ _ _ _ _ _)
 ·exact hid (zc1 R1.out)
theorem zvg (u:Int) (f:ByteArray) (q:Int) (s:ByteArray) (m n t:Int) (w:World) (hf:f.size≤900) (hp:s.size≤900) (o1:0≤q) (o2:0≤n) :
  Calls Tryz.prog 94 #[val ⟨7,u,f,q,s,m,n,t⟩] w fun e w'=>e=.returned (.bool (docK ⟨7,u,f,q,s,m,n,t⟩))∧Below w.heap.size w w':=by
 have S0:Hid (h0 7=true):=hid rfl
 have S1:Hid (h1 7=true):=hid rfl
 have S2:Hid (h2 7=true):=hid rfl
 have S3:Hid (h3 7=false):=hid rfl
 have S4:Hid (h4 7=true):=hid rfl
 have S5:Hid (h5 7=false):=hid rfl
 have SK:Hid (isK 7=true):=hid rfl
 obtain ⟨x0,hx0⟩:∃x,right (L f)=x:=⟨_,rfl⟩
 obtain ⟨x2,hx2⟩:∃x,right (L s)=x:=⟨_,rfl⟩
 have X0:=hid hx0
 have X2:=hid hx2
 clear hx0 hx2
 have A0:Hid (zac w (w.alloc (.cells (cellsOf ⟨7,u,f,q,s,m,n,t⟩) 80)) w.heap.size ⟨7,u,f,q,s,m,n,t⟩):=hid (zac.start w ⟨7,u,f,q,s,m,n,t⟩)
 go_enter Tryz.func94,Tryz.ntmps94
 obtain ⟨⟨c0,c1,c2,c3,c4,c5,c6,c7⟩,f0,f1,f2,f3,f4,f5,f6,f7⟩:=zaa A0.out.1
 go_wp2_with fail
 rename_i Kr hKr
 have key0:∀(W:World) (h:Nat),Hid (zac w W w.heap.size ⟨7,u,f,q,s,m,n,t⟩)→Hid (za5 W h true true true false true false)→Kr ⟨#[val ⟨7,u,f,q,s,m,n,t⟩,.pointer (some ⟨w.heap.size,0,none⟩),.bool false,.pointer (some ⟨h,0,none⟩),.pointer (some ⟨w.heap.size,0,none⟩),.int .i64 7,.bool false,.bool false,.pointer (some ⟨w.heap.size,0,none⟩),.int .i64 7,.bool false,.bool false,.agg zaH,.pointer (some ⟨w.heap.size,0,none⟩),.int .i64 7,.agg #[.bool true,.bool true,.bool true,.bool false,.bool true,.bool false],undef,undef,undef,undef,undef,undef,undef,undef,undef,undef,undef,undef,undef,undef,undef,undef,undef,undef,undef,undef,undef,undef,undef,undef,undef,undef,undef,undef,undef,undef,undef,undef,undef,undef,undef,undef,undef,undef,undef,undef,undef,undef,undef,undef,undef,undef,undef,undef,undef,undef,undef,undef,undef,undef,undef,undef,undef,undef,undef,undef,undef,undef,undef,undef,undef,undef,undef,undef,undef,undef,undef,undef,undef,undef,undef,undef,undef,undef,undef,undef,undef,undef,undef,undef,undef,undef,undef,undef,undef,undef,undef,undef,undef,undef,undef,undef,undef,undef,undef,undef,undef,undef,undef,undef,undef,undef,undef,undef,undef,undef,undef,undef,undef,undef,undef,undef,undef,undef,undef,undef,undef,undef,undef,undef,undef,undef,undef,undef,undef,undef,undef,undef,undef,undef,undef,undef,undef,undef,undef,undef,undef,undef],[]⟩ W:=by
  intro W h A1 R1
  clear A0
  clear c0 c1 c2 c3 c4 c5 c6 c7 f0 f1 f2 f3 f4 f5 f6 f7
  obtain ⟨⟨c0,c1,c2,c3,c4,c5,c6,c7⟩,f0,f1,f2,f3,f4,f5,f6,f7⟩:=zaa A1.out.1
  obtain ⟨r0,r1,r2,r3,r4,r5⟩:=row7 R1.out
  rcases Decidable.em (m=0) with z1 | z1
  ·have y1:(m != 0)=false:=by rw [z1];rfl
   have Z1:=hid z1
   clear z1
   rcases Decidable.em (t=0) with z2 | z2
   ·have y2:(t != 0)=false:=by rw [z2];rfl
    have yt1:0≤t:=by omega
    have yt2:t≤1099511627776:=by omega
    have Z2:=hid z2
    clear z2
    cases x0
    ·go_wp2_with fail
     with_reducible refine (zap f _ hf).mono ?_
     rw [X0.out]
     rintro e w13 ⟨rfl,hb⟩
     have A13:=hid (A1.out.on hb)
     have R13:Hid (za5 w13 h true true true false true false):=hid (Blk.below R1.out hb (Blk.lt R1.out))
     clear hb A1 R1 r0 r1 r2 r3 r4 r5
     clear c0 c1 c2 c3 c4 c5 c6 c7 f0 f1 f2 f3 f4 f5 f6 f7
     obtain ⟨⟨c0,c1,c2,c3,c4,c5,c6,c7⟩,f0,f1,f2,f3,f4,f5,f6,f7⟩:=zaa A13.out.1
     obtain ⟨r0,r1,r2,r3,r4,r5⟩:=row7 R13.out
     have E:docK ⟨7,u,f,q,s,m,n,t⟩=false:=by simp [docK,zaG,SK.out,S0.out,S1.out,S2.out,S3.out,S4.out,S5.out,X0.out,X2.out,Z1.out,Z2.out] <;> omega
     have HE:=hid E
     clear E
     go_wp2
     go_ret
     exact ⟨zab (by first | exact HE.out.symm | (rw [HE.out];simp;omega)),A13.out.below⟩
    ·go_wp2_with fail
     with_reducible refine (zap f _ hf).mono ?_
     rw [X0.out]
     rintro e w13 ⟨rfl,hb⟩
     have A13:=hid (A1.out.on hb)
     have R13:Hid (za5 w13 h true true true false true false):=hid (Blk.below R1.out hb (Blk.lt R1.out))
     clear hb A1 R1 r0 r1 r2 r3 r4 r5
     clear c0 c1 c2 c3 c4 c5 c6 c7 f0 f1 f2 f3 f4 f5 f6 f7
     obtain ⟨⟨c0,c1,c2,c3,c4,c5,c6,c7⟩,f0,f1,f2,f3,f4,f5,f6,f7⟩:=zaa A13.out.1
     obtain ⟨r0,r1,r2,r3,r4,r5⟩:=row7 R13.out
     rcases Decidable.em (q=0) with z4 | z4
     ·have y4:(q == 0)=true:=by rw [z4];rfl
      have E:docK ⟨7,u,f,q,s,m,n,t⟩=false:=by simp [docK,zaG,SK.out,S0.out,S1.out,S2.out,S3.out,S4.out,S5.out,X0.out,X2.out,Z1.out,Z2.out,z4] <;> omega
      have HE:=hid E
      clear E
      go_wp2
      go_ret
      exact ⟨zab (by first | exact HE.out.symm | (rw [HE.out];simp;omega)),A13.out.below⟩
     ·have y4:(q == 0)=false:=beq_eq_false_iff_ne.2 z4
      cases x2
      ·go_wp2_with fail
       with_reducible refine (zap s _ hp).mono ?_
       rw [X2.out]
       rintro e w15 ⟨rfl,hb⟩
       have A15:=hid (A13.out.on hb)
       have R15:Hid (za5 w15 h true true true false true false):=hid (Blk.below R13.out hb (Blk.lt R13.out))
       clear hb A13 R13 r0 r1 r2 r3 r4 r5
       clear c0 c1 c2 c3 c4 c5 c6 c7 f0 f1 f2 f3 f4 f5 f6 f7
       obtain ⟨⟨c0,c1,c2,c3,c4,c5,c6,c7⟩,f0,f1,f2,f3,f4,f5,f6,f7⟩:=zaa A15.out.1
       obtain ⟨r0,r1,r2,r3,r4,r5⟩:=row7 R15.out
       have E:docK ⟨7,u,f,q,s,m,n,t⟩=false:=by simp [docK,zaG,SK.out,S0.out,S1.out,S2.out,S3.out,S4.out,S5.out,X0.out,X2.out,Z1.out,Z2.out,z4] <;> omega
       have HE:=hid E
       clear E
       go_wp2
       go_ret
       exact ⟨zab (by first | exact HE.out.symm | (rw [HE.out];simp;omega)),A15.out.below⟩
      ·go_wp2_with fail
       with_reducible refine (zap s _ hp).mono ?_
       rw [X2.out]
       rintro e w15 ⟨rfl,hb⟩
       have A15:=hid (A13.out.on hb)
       have R15:Hid (za5 w15 h true true true false true false):=hid (Blk.below R13.out hb (Blk.lt R13.out))
       clear hb A13 R13 r0 r1 r2 r3 r4 r5
       clear c0 c1 c2 c3 c4 c5 c6 c7 f0 f1 f2 f3 f4 f5 f6 f7
       obtain ⟨⟨c0,c1,c2,c3,c4,c5,c6,c7⟩,f0,f1,f2,f3,f4,f5,f6,f7⟩:=zaa A15.out.1
       obtain ⟨r0,r1,r2,r3,r4,r5⟩:=row7 R15.out
       rcases Decidable.em (n=0) with z6 | z6
       ·have y6:(n == 0)=true:=by rw [z6];rfl
        have E:docK ⟨7,u,f,q,s,m,n,t⟩=false:=by simp [docK,zaG,SK.out,S0.out,S1.out,S2.out,S3.out,S4.out,S5.out,X0.out,X2.out,Z1.out,Z2.out,z4,z6] <;> omega
        have HE:=hid E
        clear E
        go_wp2
        go_ret
        exact ⟨zab (by first | exact HE.out.symm | (rw [HE.out];simp;omega)),A15.out.below⟩
       ·have y6:(n == 0)=false:=beq_eq_false_iff_ne.2 z6
        rcases Decidable.em (9223372036854775807<n) with z7 | z7
        ·have y7:=z7
         have E:docK ⟨7,u,f,q,s,m,n,t⟩=false:=by simp [docK,zaG,SK.out,S0.out,S1.out,S2.out,S3.out,S4.out,S5.out,X0.out,X2.out,Z1.out,Z2.out,z4,z6] <;> omega
         have HE:=hid E
         clear E
         go_wp2
         go_ret
         exact ⟨zab (by first | exact HE.out.symm | (rw [HE.out];simp;omega)),A15.out.below⟩
        ·have y7:=z7
         have E:docK ⟨7,u,f,q,s,m,n,t⟩=true:=by simp [docK,zaG,SK.out,S0.out,S1.out,S2.out,S3.out,S4.out,S5.out,X0.out,X2.out,Z1.out,Z2.out,z4,z6] <;> omega
         have HE:=hid E
         clear E
         go_wp2
         go_ret
         exact ⟨zab (by first | exact HE.out.symm | (rw [HE.out];simp;omega)),A15.out.below⟩
   ·have y2:(t != 0)=true:=bne_iff_ne.2 z2
    have E:docK ⟨7,u,f,q,s,m,n,t⟩=false:=by simp [docK,zaG,SK.out,S0.out,S1.out,S2.out,S3.out,S4.out,S5.out,X0.out,X2.out,Z1.out,z2] <;> omega
    have HE:=hid E
    clear E
    go_wp2
    go_ret
    exact ⟨zab (by first | exact HE.out.symm | (rw [HE.out];simp;omega)),A1.out.below⟩
  ·have y1:(m != 0)=true:=bne_iff_ne.2 z1
   have E:docK ⟨7,u,f,q,s,m,n,t⟩=false:=by simp [docK,zaG,SK.out,S0.out,S1.out,S2.out,S3.out,S4.out,S5.out,X0.out,X2.out,z1] <;> omega
   have HE:=hid E
   clear E
   go_wp2
   go_ret
   exact ⟨zab (by first | exact HE.out.symm | (rw [HE.out];simp;omega)),A1.out.below⟩
 have key:=hid key0
 clear key0 hKr
 obtain ⟨W0,hW0⟩:∃W0,w.alloc (.cells #[.int .i64 7,.int .u64 u,.string f,.int .u64 q,.string s,.int .i64 m,.int .u64 n,.int .i64 t] 80)=W0:=⟨_,rfl⟩
 have B0:Hid (zac w W0 w.heap.size ⟨7,u,f,q,s,m,n,t⟩):=hid (by rw [←hW0];exact A0.out)
 rw [hW0] at c0 c1 c2 c3 c4 c5 c6 c7 f0 f1 f2 f3 f4 f5 f6 f7 ⊢
 have hsz:Hid (w.heap.size<W0.heap.size):=hid B0.out.lt
 clear A0 hW0
 have IX:=zo1
 go_region_held3 (fun w'=>w'.cell? ⟨w.heap.size,0,none⟩=some (.int .i64 7))
  (first | with_reducible exact zac.kind (zac.drew B0.out) | with_reducible exact zac.kind (zac.drew (zac.alloc B0.out _)) | with_reducible exact zac.kind A1.out | with_reducible exact zac.kind (zac.alloc A1.out _) | with_reducible exact zac.kind (zac.row (zac.alloc A1.out _) (Nat.ne_of_lt (zac.lt A1.out)) (Nat.le_of_lt (zac.lt A1.out)) _ _ _ _ _ _) | with_reducible exact zac.kind (zac.row A1.out (Nat.ne_of_lt hsz.out) (Nat.le_of_lt hsz.out) _ _ _ _ _ _))
  (first
   | (go_at_call 132;(with_reducible refine (zbb _).mono ?_);rintro e w1 ⟨rfl,hb1⟩;have A1:=hid (zac.on (zac.drew B0.out) hb1))
   | (go_at_call 132;(with_reducible refine (zbb _).mono ?_);rintro e w1 ⟨rfl,hb1⟩;have A1:=hid (zac.on (zac.drew (zac.alloc B0.out _)) hb1);have R1:=hid (zcs hb1);obtain ⟨q0,q1,q2,q3,q4,q5⟩:=row7 R1.out;obtain ⟨v0,v1,v2,v3,v4,v5⟩:=ziL R1.out))
 all_goals change Kr _ _
 all_goals with_reducible refine key.out _ _ ?_ ?_
 ·exact hid (A1.out.alloc _)
 ·exact hid (Blk.new w1 203 #[.bool true,.bool true,.bool true,.bool false,.bool true,.bool false])
 ·exact hid (A1.out.alloc _)
 ·exact hid (Blk.new w1 203 #[.bool true,.bool true,.bool true,.bool false,.bool true,.bool false])
 ·exact hid (A1.out.row (Nat.ne_of_lt hsz.out) (Nat.le_of_lt hsz.out) _ _ _ _ _ _)
 ·exact hid (zc1 R1.out)
theorem zvj (u:Int) (f:ByteArray) (q:Int) (s:ByteArray) (m n t:Int) (w:World) (hf:f.size≤900) (hp:s.size≤900) (o1:0≤q) (o2:0≤n) :
  Calls Tryz.prog 94 #[val ⟨8,u,f,q,s,m,n,t⟩] w fun e w'=>e=.returned (.bool (docK ⟨8,u,f,q,s,m,n,t⟩))∧Below w.heap.size w w':=by
 have S0:Hid (h0 8=true):=hid rfl
 have S1:Hid (h1 8=false):=hid rfl
 have S2:Hid (h2 8=false):=hid rfl
 have S3:Hid (h3 8=false):=hid rfl
 have S4:Hid (h4 8=false):=hid rfl
 have S5:Hid (h5 8=true):=hid rfl
 have SK:Hid (isK 8=true):=hid rfl
 obtain ⟨x0,hx0⟩:∃x,right (L f)=x:=⟨_,rfl⟩
 obtain ⟨x2,hx2⟩:∃x,right (L s)=x:=⟨_,rfl⟩
 have X0:=hid hx0
 have X2:=hid hx2
 clear hx0 hx2
 have A0:Hid (zac w (w.alloc (.cells (cellsOf ⟨8,u,f,q,s,m,n,t⟩) 80)) w.heap.size ⟨8,u,f,q,s,m,n,t⟩):=hid (zac.start w ⟨8,u,f,q,s,m,n,t⟩)
 go_enter Tryz.func94,Tryz.ntmps94
 obtain ⟨⟨c0,c1,c2,c3,c4,c5,c6,c7⟩,f0,f1,f2,f3,f4,f5,f6,f7⟩:=zaa A0.out.1
 go_wp2_with fail
 rename_i Kr hKr
 have key0:∀(W:World) (h:Nat),Hid (zac w W w.heap.size ⟨8,u,f,q,s,m,n,t⟩)→Hid (za5 W h true false false false false true)→Kr ⟨#[val ⟨8,u,f,q,s,m,n,t⟩,.pointer (some ⟨w.heap.size,0,none⟩),.bool false,.pointer (some ⟨h,0,none⟩),.pointer (some ⟨w.heap.size,0,none⟩),.int .i64 8,.bool false,.bool false,.pointer (some ⟨w.heap.size,0,none⟩),.int .i64 8,.bool false,.bool false,.agg zaH,.pointer (some ⟨w.heap.size,0,none⟩),.int .i64 8,.agg #[.bool true,.bool false,.bool false,.bool false,.bool false,.bool true],undef,undef,undef,undef,undef,undef,undef,undef,undef,undef,undef,undef,undef,undef,undef,undef,undef,undef,undef,undef,undef,undef,undef,undef,undef,undef,undef,undef,undef,undef,undef,undef,undef,undef,undef,undef,undef,undef,undef,undef,undef,undef,undef,undef,undef,undef,undef,undef,undef,undef,undef,undef,undef,undef,undef,undef,undef,undef,undef,undef,undef,undef,undef,undef,undef,undef,undef,undef,undef,undef,undef,undef,undef,undef,undef,undef,undef,undef,undef,undef,undef,undef,undef,undef,undef,undef,undef,undef,undef,undef,undef,undef,undef,undef,undef,undef,undef,undef,undef,undef,undef,undef,undef,undef,undef,undef,undef,undef,undef,undef,undef,undef,undef,undef,undef,undef,undef,undef,undef,undef,undef,undef,undef,undef,undef,undef,undef,undef,undef,undef,undef,undef,undef,undef,undef,undef,undef,undef,undef,undef,undef,undef],[]⟩ W:=by
  intro W h A1 R1
  clear A0
  clear c0 c1 c2 c3 c4 c5 c6 c7 f0 f1 f2 f3 f4 f5 f6 f7
  obtain ⟨⟨c0,c1,c2,c3,c4,c5,c6,c7⟩,f0,f1,f2,f3,f4,f5,f6,f7⟩:=zaa A1.out.1
  obtain ⟨r0,r1,r2,r3,r4,r5⟩:=row7 R1.out
  rcases Decidable.em (q=0) with z1 | z1
  ·have y1:(q != 0)=false:=by rw [z1];rfl
   have Z1:=hid z1
   clear z1
   rcases Decidable.em (L s=[]) with z2 | z2
   ·have y2:s.toList.isEmpty=true:=by rw [zbh,z2];rfl
    have y2b:s.toList=[]:=by rw [zbh,z2]
    have Z2:=hid z2
    clear z2
    rcases Decidable.em (m=0) with z3 | z3
    ·have y3:(m != 0)=false:=by rw [z3];rfl
     have Z3:=hid z3
     clear z3
     rcases Decidable.em (n=0) with z4 | z4
     ·have y4:(n != 0)=false:=by rw [z4];rfl
      have Z4:=hid z4
      clear z4
      cases x0
      ·go_wp2_with fail
       with_reducible refine (zap f _ hf).mono ?_
       rw [X0.out]
       rintro e w15 ⟨rfl,hb⟩
       have A15:=hid (A1.out.on hb)
       have R15:Hid (za5 w15 h true false false false false true):=hid (Blk.below R1.out hb (Blk.lt R1.out))
       clear hb A1 R1 r0 r1 r2 r3 r4 r5
       clear c0 c1 c2 c3 c4 c5 c6 c7 f0 f1 f2 f3 f4 f5 f6 f7
       obtain ⟨⟨c0,c1,c2,c3,c4,c5,c6,c7⟩,f0,f1,f2,f3,f4,f5,f6,f7⟩:=zaa A15.out.1
       obtain ⟨r0,r1,r2,r3,r4,r5⟩:=row7 R15.out
       have E:docK ⟨8,u,f,q,s,m,n,t⟩=false:=by simp [docK,zaG,SK.out,S0.out,S1.out,S2.out,S3.out,S4.out,S5.out,X0.out,X2.out,Z1.out,Z2.out,Z3.out,Z4.out] <;> omega
       have HE:=hid E
       clear E
       go_wp2
       go_ret
       exact ⟨zab (by first | exact HE.out.symm | (rw [HE.out];simp;omega)),A15.out.below⟩
      ·go_wp2_with fail
       with_reducible refine (zap f _ hf).mono ?_
       rw [X0.out]
       rintro e w15 ⟨rfl,hb⟩
       have A15:=hid (A1.out.on hb)
       have R15:Hid (za5 w15 h true false false false false true):=hid (Blk.below R1.out hb (Blk.lt R1.out))
       clear hb A1 R1 r0 r1 r2 r3 r4 r5
       clear c0 c1 c2 c3 c4 c5 c6 c7 f0 f1 f2 f3 f4 f5 f6 f7
       obtain ⟨⟨c0,c1,c2,c3,c4,c5,c6,c7⟩,f0,f1,f2,f3,f4,f5,f6,f7⟩:=zaa A15.out.1
       obtain ⟨r0,r1,r2,r3,r4,r5⟩:=row7 R15.out
       rcases Decidable.em (0≤t) with z6 | z6
       ·rcases Decidable.em (t≤1099511627776) with z6b | z6b
        ·have y6:=z6
         have E:docK ⟨8,u,f,q,s,m,n,t⟩=true:=by simp [docK,zaG,SK.out,S0.out,S1.out,S2.out,S3.out,S4.out,S5.out,X0.out,X2.out,Z1.out,Z2.out,Z3.out,Z4.out] <;> omega
         have HE:=hid E
         clear E
         go_wp2
         go_ret
         exact ⟨zab (by first | exact HE.out.symm | (rw [HE.out];simp;omega)),A15.out.below⟩
        ·have y6:=z6
         have E:docK ⟨8,u,f,q,s,m,n,t⟩=false:=by simp [docK,zaG,SK.out,S0.out,S1.out,S2.out,S3.out,S4.out,S5.out,X0.out,X2.out,Z1.out,Z2.out,Z3.out,Z4.out] <;> omega
         have HE:=hid E
         clear E
         go_wp2
         go_ret
         exact ⟨zab (by first | exact HE.out.symm | (rw [HE.out];simp;omega)),A15.out.below⟩
       ·have y6:=z6
        have E:docK ⟨8,u,f,q,s,m,n,t⟩=false:=by simp [docK,zaG,SK.out,S0.out,S1.out,S2.out,S3.out,S4.out,S5.out,X0.out,X2.out,Z1.out,Z2.out,Z3.out,Z4.out] <;> omega
        have HE:=hid E
        clear E
        go_wp2
        go_ret
        exact ⟨zab (by first | exact HE.out.symm | (rw [HE.out];simp;omega)),A15.out.below⟩
     ·have y4:(n != 0)=true:=bne_iff_ne.2 z4
      have E:docK ⟨8,u,f,q,s,m,n,t⟩=false:=by simp [docK,zaG,SK.out,S0.out,S1.out,S2.out,S3.out,S4.out,S5.out,X0.out,X2.out,Z1.out,Z2.out,Z3.out,z4] <;> omega
      have HE:=hid E
      clear E
      go_wp2
      go_ret
      exact ⟨zab (by first | exact HE.out.symm | (rw [HE.out];simp;omega)),A1.out.below⟩
    ·have y3:(m != 0)=true:=bne_iff_ne.2 z3
     have E:docK ⟨8,u,f,q,s,m,n,t⟩=false:=by simp [docK,zaG,SK.out,S0.out,S1.out,S2.out,S3.out,S4.out,S5.out,X0.out,X2.out,Z1.out,Z2.out,z3] <;> omega
     have HE:=hid E
     clear E
     go_wp2
     go_ret
     exact ⟨zab (by first | exact HE.out.symm | (rw [HE.out];simp;omega)),A1.out.below⟩
   ·have y2:s.toList.isEmpty=false:=(zbp (l:=L s) rfl z2).1
    have y2b:¬s.toList=[]:=(zbp (l:=L s) rfl z2).2
    have E:docK ⟨8,u,f,q,s,m,n,t⟩=false:=by simp [docK,zaG,SK.out,S0.out,S1.out,S2.out,S3.out,S4.out,S5.out,X0.out,X2.out,Z1.out,z2] <;> omega
    have HE:=hid E
    clear E
    go_wp2
    go_ret
    exact ⟨zab (by first | exact HE.out.symm | (rw [HE.out];simp;omega)),A1.out.below⟩
  ·have y1:(q != 0)=true:=bne_iff_ne.2 z1
   have E:docK ⟨8,u,f,q,s,m,n,t⟩=false:=by simp [docK,zaG,SK.out,S0.out,S1.out,S2.out,S3.out,S4.out,S5.out,X0.out,X2.out,z1] <;> omega
   have HE:=hid E
   clear E
   go_wp2
   go_ret
   exact ⟨zab (by first | exact HE.out.symm | (rw [HE.out];simp;omega)),A1.out.below⟩
 have key:=hid key0
 clear key0 hKr
 obtain ⟨W0,hW0⟩:∃W0,w.alloc (.cells #[.int .i64 8,.int .u64 u,.string f,.int .u64 q,.string s,.int .i64 m,.int .u64 n,.int .i64 t] 80)=W0:=⟨_,rfl⟩
 have B0:Hid (zac w W0 w.heap.size ⟨8,u,f,q,s,m,n,t⟩):=hid (by rw [←hW0];exact A0.out)
 rw [hW0] at c0 c1 c2 c3 c4 c5 c6 c7 f0 f1 f2 f3 f4 f5 f6 f7 ⊢
 have hsz:Hid (w.heap.size<W0.heap.size):=hid B0.out.lt
 clear A0 hW0
 have IX:=zoS
 go_region_held3 (fun w'=>w'.cell? ⟨w.heap.size,0,none⟩=some (.int .i64 8))
  (first | with_reducible exact zac.kind (zac.drew B0.out) | with_reducible exact zac.kind (zac.drew (zac.alloc B0.out _)) | with_reducible exact zac.kind A1.out | with_reducible exact zac.kind (zac.alloc A1.out _) | with_reducible exact zac.kind (zac.row (zac.alloc A1.out _) (Nat.ne_of_lt (zac.lt A1.out)) (Nat.le_of_lt (zac.lt A1.out)) _ _ _ _ _ _) | with_reducible exact zac.kind (zac.row A1.out (Nat.ne_of_lt hsz.out) (Nat.le_of_lt hsz.out) _ _ _ _ _ _))
  (first
   | (go_at_call 132;(with_reducible refine (zbb _).mono ?_);rintro e w1 ⟨rfl,hb1⟩;have A1:=hid (zac.on (zac.drew B0.out) hb1))
   | (go_at_call 132;(with_reducible refine (zbb _).mono ?_);rintro e w1 ⟨rfl,hb1⟩;have A1:=hid (zac.on (zac.drew (zac.alloc B0.out _)) hb1);have R1:=hid (zcs hb1);obtain ⟨q0,q1,q2,q3,q4,q5⟩:=row7 R1.out;obtain ⟨v0,v1,v2,v3,v4,v5⟩:=ziL R1.out))
 all_goals change Kr _ _
 all_goals with_reducible refine key.out _ _ ?_ ?_
 ·exact hid (A1.out.alloc _)
 ·exact hid (Blk.new w1 203 #[.bool true,.bool false,.bool false,.bool false,.bool false,.bool true])
 ·exact hid (A1.out.alloc _)
 ·exact hid (Blk.new w1 203 #[.bool true,.bool false,.bool false,.bool false,.bool false,.bool true])
 ·exact hid (A1.out.row (Nat.ne_of_lt hsz.out) (Nat.le_of_lt hsz.out) _ _ _ _ _ _)
 ·exact hid (zc1 R1.out)
end Go.Proofs.YtnjdckoljmgcjaaGreatDoor
namespace Go.Proofs.YtnjdckoljmgcjaaGreatDoor
open Go.RowKit
def zl3 (V:Nat) (base:Nat) (w:World) (n:Value) (s:Value) (wr:World):Prop :=
 ∃(m:Nat) (a:List Nat),n=.int .u64 m∧m<18446744073709551616∧a.length+(zae m).length=(zae V).length∧a ++ zae m=zae V ∧
  wr.ownsRow base 5 1 s a.length (a.map bv)∧Below base w wr
theorem zof {V base m:Nat} {a:List Nat} {w wr w1:World} {s v':Value} {o:Obj} {x:Int} (hsz:base≤wr.heap.size) (hx:x=((m % 128+128:Nat):Int))
  (hm:m<18446744073709551616) (h128:128≤m)
  (hlen:a.length+(zae m).length=(zae V).length) (happ:a ++ zae m=zae V) (hown:wr.ownsRow base 5 1 s a.length (a.map bv)) (hb:Below base w wr)
  (hown':w1.ownsRow base 5 1 v' (a.length+1) (a.map bv ++ [.int .u8 x])) (hg:(wr.alloc o).grownBy w1 s.ownBlock) :
  zl3 V base w (.int .u64 ((m / 128:Nat):Int)) v' w1:=by
 subst hx
 rw [zew h128] at hlen happ
 refine ⟨m / 128,a ++ [m % 128+128],rfl,by omega,?_,?_,?_,zdy hb hsz hown hg⟩
 ·rw [←hlen];simp;omega
 ·rw [←happ];simp
 ·simpa [bv] using hown'
theorem zpv {V m:Nat} {a:List Nat} {w wr w1:World} {s v':Value} {o:Obj} {x:Int} (hsz:w.heap.size≤wr.heap.size) (hx:x=(m:Int)) (h128:m<128)
  (happ:a ++ zae m=zae V) (hown:wr.ownsRow w.heap.size 5 1 s a.length (a.map bv)) (hb:Below w.heap.size w wr)
  (hown':w1.ownsRow w.heap.size 5 1 v' (a.length+1) (a.map bv ++ [.int .u8 x])) (hg:(wr.alloc o).grownBy w1 s.ownBlock) :
  zcy (zae V) w (.returned v') w1:=by
 subst hx
 rw [zcQ h128] at happ
 refine ⟨v',rfl,?_,zdy hb hsz hown hg⟩
 rw [←happ]
 simpa [bv] using hown'
theorem zkv (v:Nat) (w:World) (hv:v<18446744073709551616) :
  Calls Tryz.prog 129 #[.int .u64 v] w (zcy (zae v) w):=by
 obtain ⟨i0,hi,hz0,hz1,hz2⟩:=info_parts zcD
 have HL:=hid (zah hv)
 go_enter Tryz.func129,Tryz.ntmps129
 go_wp2
 go_loopw [0,3] (fun n s wr=>zl3 v w.heap.size w n s wr) (fun n _ _=>(intOf n).toNat)
 case atStart=>exact ⟨v,[],rfl,hv,by simp,by simp,World.ownsRow_nil _ _ _ _,Below.refl _ _⟩
 case round =>
  obtain ⟨m,a,rfl,hm,hlen,happ,hown,hbel⟩:=hrel
  have hsz:=hbel.size
  have hal:a.length≤10:=by have h1:=HL.out;have h2:=zeI m;omega
  have HA:=hid happ
  have HN:=hid hlen
  clear happ hlen
  by_cases h128:128≤m
  ·go_wp2_with (at_builtin;refine wpList_append_own _ rfl (.tmp 6) (.tmp 10) 45 rfl w.heap.size 5 i0 (.int .u8 0) 1 1 Tryz.underlying45 hi hz0 hz1 hz2 rfl (by decide) _ _ _ rfl (hown.alloc _) ⟨wr.heap.size,0,none⟩ 1 1 [.int .u8 (bits BinOp.or IntKind.u8 ((m:Int) % 256) 128)] rfl rfl (zl1 _) zl8 (by unfold maxLen;omega) (by omega) (by simp;omega) ?_)
   intro v' w1 hown' hgrow _
   have R:=hid (zof hsz (znc m) hm h128 HN.out HA.out hown hbel hown' hgrow)
   clear hown' hgrow hown
   go_wp2
   go_roundw
   case rel=>exact R.out
   case measure=>simp [intOf];omega
  ·go_wp2_with (at_builtin;refine wpList_append_own _ rfl (.tmp 14) (.tmp 17) 45 rfl w.heap.size 5 i0 (.int .u8 0) 1 1 Tryz.underlying45 hi hz0 hz1 hz2 rfl (by decide) _ _ _ rfl (hown.alloc _) ⟨wr.heap.size,0,none⟩ 1 1 [.int .u8 (m:Int)] rfl rfl (zl1 _) zl8 (by unfold maxLen;omega) (by omega) (by simp;omega) ?_)
   intro v' w1 hown' hgrow _
   have R:=hid (zpv hsz rfl (by omega) HA.out hown hbel hown' hgrow)
   clear hown' hgrow hown
   go_wp2
   go_ret
   exact R.out
theorem zli (v:Nat) (w:World) (hv:v<18446744073709551616):Calls Tryz.prog 129 #[.int .u64 v] w (zro (zae v) w) :=
 (zkv v w hv).mono fun _ _ h=>h.hands
def zld (t:Nat × Nat × Nat) (w:World) (e:Ending) (w':World):Prop :=
 e=.returned (.tuple #[.int .u64 (t.1:Int),.int .i64 (t.2.1:Int),.int .i64 (t.2.2:Int)])∧w=w'
theorem zfr {t:Nat × Nat × Nat} {w:World} {a b c:Int} {x y z:Nat} (h:t=(x,y,z)) (ha:a=x) (hb:b=y) (hc:c=z) :
  zld t w (.returned (.tuple #[.int .u64 a,.int .i64 b,.int .i64 c])) w:=by
 subst h;subst ha;subst hb;subst hc;exact ⟨rfl,rfl⟩
def zt3 (l:List Nat) (v i:Value):Prop :=
 ∃k n:Nat,k≤l.length∧k≤9∧n<128 ^ k∧i=.int .i64 k∧v=.int .u64 n∧zb9 k n (l.drop k)=zbQ l
theorem zcY (A:Option Addr) (l:List Nat) (ca:Nat) (w:World) (hl:l.length≤9223372036854775807) (h8:∀x∈l,x<256) (hA:Sees .u8 w A l) :
  Calls Tryz.prog 113 #[.slice A l.length ca] w (zld (zbQ l) w):=by
 have HA:=hid hA
 have H8:=hid h8
 clear hA h8
 go_enter Tryz.func113,Tryz.ntmps113
 go_wp2
 go_loop [2,9] (fun v i=>zt3 l v i) (fun _ i=>l.length - (intOf i).toNat)
 case atStart=>exact ⟨0,0,Nat.zero_le _,Nat.zero_le _,by decide,rfl,rfl,rfl⟩
 case round =>
  obtain ⟨k,n,hk,hk9,hn,rfl,rfl,hread⟩:=hrel
  have HR:=hid hread
  have HN:=hid hn
  clear hread hn
  by_cases hlt:k<l.length
  ·have hc256:=H8.out _ (List.getElem_mem hlt)
   have hd:=List.drop_eq_getElem_cons hlt
   obtain ⟨b,o,rfl,_,hc⟩:=HA.out k l[k] (List.getElem?_eq_getElem hlt)
   have HD:=hid hd
   clear hd
   generalize l[k]=c at *
   by_cases hk':k=9
   ·obtain rfl:k=9:=hk'
    by_cases h1:1<c
    ·go_wp2
     go_ret3
     exact zfr (by rw [←HR.out,HD.out,zf6 ⟨rfl,h1⟩]) rfl rfl rfl
    ·by_cases h3:c=0
     ·obtain rfl:c=0:=h3
      go_wp2
      go_ret3
      exact zfr (by rw [←HR.out,HD.out,zfd ⟨rfl,by omega⟩]) rfl rfl rfl
     ·obtain rfl:c=1:=by omega
      have HT:=hid (zm1 n 1 (by omega) HN.out)
      go_wp2
      go_ret3
      exact zfr (by rw [←HR.out,HD.out,zev (by omega) (by omega) (by omega)]) HT.out rfl rfl
   ·have hk8:k≤8:=by omega
    clear hk'
    have HT:=hid (zeK n c k hc256 (.inl hk8) HN.out)
    by_cases h2:128≤c
    ·go_wp2
     go_round
     case rel=>exact ⟨k+1,n+c % 128 * 128 ^ k,by omega,by omega,HT.out.2.2 hk8,by go_num,by rw [HT.out.1],by rw [←HR.out,HD.out,ze5 (by omega) h2]⟩
     case measure=>simp [intOf];omega
    ·by_cases h3:c=0
     ·obtain rfl:c=0:=h3
      by_cases h0:0<k
      ·go_wp2
       go_ret3
       exact zfr (by rw [←HR.out,HD.out,zfd ⟨rfl,h0⟩]) rfl rfl rfl
      ·go_wp2
       go_ret3
       exact zfr (by rw [←HR.out,HD.out,zev (by omega) (by omega) (by omega)]) HT.out.1 (by omega) rfl
     ·go_wp2
      go_ret3
      exact zfr (by rw [←HR.out,HD.out,zev (by omega) (by omega) (by omega)]) HT.out.1 (by omega) rfl
  ·go_wp2
   go_ret3
   exact zfr (by rw [←HR.out,List.drop_of_length_le (by omega),ziw]) rfl rfl rfl
theorem zck (A:Option Addr) (l:List Nat) (n ca:Nat) (w:World) (hl:n≤9223372036854775807) (hn:l.length=n) (h8:∀x∈l,x<256) (hA:Sees .u8 w A l) :
  Calls Tryz.prog 113 #[.slice A n ca] w (zld (zbQ l) w):=by
 subst hn;exact zcY A l ca w hl h8 hA
def zfs (V n base:Nat) (w:World) (v i:Value) (wr:World):Prop :=
 (∃(k m:Nat) (tail:List Nat),i=.int .i64 (k:Int)∧k<n∧v=.int .u64 (m:Int)∧m<18446744073709551616∧tail.length+(k+1)=n∧zar m (k+1) ++ tail=zar V n ∧
  wr.ownsRow base 5 1 (.slice (some ⟨base,0,none⟩) n n) n ((List.replicate (k+1) 0 ++ tail).map bv)∧Below base w wr) ∨
 (i=.int .i64 (-1)∧wr.ownsRow base 5 1 (.slice (some ⟨base,0,none⟩) n n) n ((zar V n).map bv)∧Below base w wr)
theorem ziu {V n base k m:Nat} {tail:List Nat} {w wr:World} {x a i:Int} (hk:k<n) (hm:m<18446744073709551616) (hlen:tail.length+(k+1)=n) (heq:zar m (k+1) ++ tail=zar V n)
  (hown:wr.ownsRow base 5 1 (.slice (some ⟨base,0,none⟩) n n) n ((List.replicate (k+1) 0 ++ tail).map bv)) (hb:Below base w wr) (hx:x=(m:Int) % 256) (ha:a=(m:Int) / 256) (hi:i=(k:Int) - 1) :
  zfs V n base w (.int .u64 a) (.int .i64 i) (wr.setCell ⟨base,k,none⟩ (.int .u8 x)):=by
 subst hx;subst ha;subst hi
 have hs:=(hown.stored k (.int .u8 ((m:Int) % 256))).1
 have ev:(Value.int .u8 ((m:Int) % 256))=bv (m % 256):=by unfold bv;congr 1
 rw [ev] at hs ⊢
 rw [←List.map_set,zfz] at hs
 have hb':Below base w (wr.setCell ⟨base,k,none⟩ (bv (m % 256))):=hb.setCell (Nat.le_refl _) _
 rw [zar,List.append_assoc,List.singleton_append] at heq
 cases k with
 | zero =>
  right
  refine ⟨by simp,?_,hb'⟩
  rw [←heq]
  simpa [zar] using hs
 | succ k =>
  left
  refine ⟨k,m / 256,m % 256 :: tail,?_,by omega,by congr 1,by omega,by simp;omega,heq,hs,hb'⟩
  congr 1
  omega
theorem ziR (n:Nat):(madeCells (Value.int .u8 0).cells (n * 1)).toList=(List.replicate n 0).map bv:=by
 rw [Nat.mul_one,show (Value.int IntKind.u8 0).cells=#[.int .u8 0] from rfl,toList_madeCells_one,List.map_replicate]
 rfl
theorem ze2 {V n:Nat} {w w1:World} (hV:V<18446744073709551616) (h:w1.ownsRow w.heap.size 5 1 (.slice (some ⟨w.heap.size,0,none⟩) n n) n (madeCells (Value.int .u8 0).cells (n * 1)).toList) (hg:w.grownBy w1 none) :
  zfs V n w.heap.size w (.int .u64 (V:Int)) (.int .i64 ((n:Int) - 1)) w1:=by
 have hb:Below w.heap.size w w1:=(Below.refl _ _).grown hg (Nat.le_refl _) (by intro k hk;cases hk)
 rw [ziR] at h
 cases n with
 | zero=>right;exact ⟨by simp,by simpa [zar] using h,hb⟩
 | succ n =>
  left
  refine ⟨n,V,[],?_,by omega,rfl,hV,by simp,by simp,by simpa using h,hb⟩
  congr 1
  omega
theorem zg4 {V n:Nat} {w wr:World} (h:wr.ownsRow w.heap.size 5 1 (.slice (some ⟨w.heap.size,0,none⟩) n n) n ((zar V n).map bv)) (hb:Below w.heap.size w wr):zcy (zar V n) w (.returned (.slice (some ⟨w.heap.size,0,none⟩) n n)) wr :=
 ⟨_,rfl,by rw [zbt];exact h,hb⟩
theorem zpz (V n:Nat) (a:Int) (w:World) (hV:V<18446744073709551616) (hn:n≤8) (ha:a<0∧n=0∨a=n∨8<a∧n=8) :
  Calls Tryz.prog 189 #[.int .u64 V,.int .i64 a] w (zcy (zar V n) w):=by
 obtain ⟨i0,hi,hz0,hz1,hz2⟩:=info_parts zcD
 have HV:=hid hV
 clear hV
 rcases ha with ⟨ha,hz⟩ | rfl | ⟨ha,hz⟩
 ·have hz0':n≤0:=by omega
  clear hz
  go_enter Tryz.func189,Tryz.ntmps189
  go_wp2_with (at_make;refine wpList_make_full _ rfl _ _ 45 rfl w.heap.size 5 i0 (.int .u8 0) 1 Tryz.underlying45 hi hz0 hz1 .i64 .i64 _ _ n rfl rfl (by omega) (by omega) (by rw [hz2];omega) (by unfold maxLen;omega) (Nat.le_refl _) ?_;intro w1 hown hg)
  have HR:=hid (ze2 HV.out hown hg)
  clear hown hg
  go_loopw [0,6] (fun v i wr=>zfs V n w.heap.size w v i wr) (fun _ i _=>(intOf i+1).toNat)
  case atStart=>exact HR.out
  case round =>
   rcases hrel with ⟨k,m,tail,rfl,hk,rfl,hm,hlen,heq,hown,hb⟩ | ⟨rfl,hown,hb⟩
   ·exact absurd hk (by omega)
   ·go_wp2
    go_ret
    exact zg4 hown hb
 ·go_enter Tryz.func189,Tryz.ntmps189
  go_wp2_with (at_make;refine wpList_make_full _ rfl _ _ 45 rfl w.heap.size 5 i0 (.int .u8 0) 1 Tryz.underlying45 hi hz0 hz1 .i64 .i64 _ _ n rfl rfl (by omega) (by omega) (by rw [hz2];omega) (by unfold maxLen;omega) (Nat.le_refl _) ?_;intro w1 hown hg)
  have HR:=hid (ze2 HV.out hown hg)
  clear hown hg
  go_loopw [0,6] (fun v i wr=>zfs V n w.heap.size w v i wr) (fun _ i _=>(intOf i+1).toNat)
  case atStart=>exact HR.out
  case round =>
   rcases hrel with ⟨k,m,tail,rfl,hk,rfl,hm,hlen,heq,hown,hb⟩ | ⟨rfl,hown,hb⟩
   ·have HS:=hid (ziu hk hm hlen heq hown hb rfl rfl rfl)
    obtain ⟨u,hc⟩:∃u,wr.cell? ⟨w.heap.size,k,none⟩=some u:=⟨_,(hown.cellAt k (by omega)).trans (List.getElem?_eq_getElem (by simp;omega))⟩
    have hf:=hown.frozenAt k
    have hmI:(m:Int)≤18446744073709551615:=by omega
    clear heq hown hm
    go_wp2
    go_roundw
    case rel=>exact HS.out
    case measure=>simp only [intOf];omega
   ·go_wp2
    go_ret
    exact zg4 hown hb
 ·have hz0':8≤n:=by omega
  clear hz
  go_enter Tryz.func189,Tryz.ntmps189
  go_wp2_with (at_make;refine wpList_make_full _ rfl _ _ 45 rfl w.heap.size 5 i0 (.int .u8 0) 1 Tryz.underlying45 hi hz0 hz1 .i64 .i64 _ _ n rfl rfl (by omega) (by omega) (by rw [hz2];omega) (by unfold maxLen;omega) (Nat.le_refl _) ?_;intro w1 hown hg)
  have HR:=hid (ze2 HV.out hown hg)
  clear hown hg
  go_loopw [0,6] (fun v i wr=>zfs V n w.heap.size w v i wr) (fun _ i _=>(intOf i+1).toNat)
  case atStart=>exact HR.out
  case round =>
   rcases hrel with ⟨k,m,tail,rfl,hk,rfl,hm,hlen,heq,hown,hb⟩ | ⟨rfl,hown,hb⟩
   ·have HS:=hid (ziu hk hm hlen heq hown hb rfl rfl rfl)
    obtain ⟨u,hc⟩:∃u,wr.cell? ⟨w.heap.size,k,none⟩=some u:=⟨_,(hown.cellAt k (by omega)).trans (List.getElem?_eq_getElem (by simp;omega))⟩
    have hf:=hown.frozenAt k
    have hmI:(m:Int)≤18446744073709551615:=by omega
    clear heq hown hm
    go_wp2
    go_roundw
    case rel=>exact HS.out
    case measure=>simp only [intOf];omega
   ·go_wp2
    go_ret
    exact zg4 hown hb
def zta (l:List Nat) (n:Nat) (w:World) (e:Ending) (w':World):Prop :=
 ∃A cap,e=.returned (.slice A n cap)∧(A=none→cap=0)∧n≤cap∧Sees .u8 w' A l∧Below w.heap.size w w'
theorem zro.named {l:List Nat} {n:Nat} {w:World} {e:Ending} {w':World} (h:zro l w e w') (hn:l.length=n):zta l n w e w':=by
 subst hn;exact h
theorem zlP (V n:Nat) (a:Int) (w:World) (hV:V<18446744073709551616) (hn:n≤8) (ha:a<0∧n=0∨a=n∨8<a∧n=8) :
  Calls Tryz.prog 189 #[.int .u64 V,.int .i64 a] w (zta (zar V n) n w):=(zpz V n a w hV hn ha).mono fun _ _ h=>h.hands.named (zbt n V)
theorem znt (A:Option Addr) (len ca n:Nat) (w:World) (h1:1≤n) (h8:n≤8) (hl:len<n) :
  Calls Tryz.prog 162 #[.slice A len ca,.int .i64 n] w (zld (0,0,20) w):=by
 go_enter Tryz.func162,Tryz.ntmps162
 go_wp2
 go_ret3
 exact zfr rfl rfl rfl rfl
def zuC (l:List Nat) (n:Nat) (v i:Value):Prop:=∃k:Nat,k≤n∧i=.int .i64 (k:Int)∧v=.int .u64 (numN (l.take k):Int)
theorem zsb (b o:Nat) (l:List Nat) (ca n:Nat) (w:World) (h1:1≤n) (h8:n≤8) (hl:n≤l.length) (hca:l.length≤ca) (hx:∀x∈l,x<256) (hA:Sees .u8 w (some ⟨b,o,none⟩) l) :
  Calls Tryz.prog 162 #[.slice (some ⟨b,o,none⟩) l.length ca,.int .i64 n] w (zld (numN (l.take n),n,0) w):=by
 have HA:=hid hA
 have HX:=hid hx
 have hc0:¬ca=0:=by omega
 clear hA hx
 go_enter Tryz.func162,Tryz.ntmps162
 go_wp2
 go_loop [4,23] (fun v i=>zuC l n v i) (fun _ i=>n - (intOf i).toNat)
 case atStart=>exact ⟨0,Nat.zero_le _,rfl,by simp [numN]⟩
 case round =>
  obtain ⟨k,hk,rfl,rfl⟩:=hrel
  by_cases hlt:k<n
  ·obtain ⟨b',o',hA',_,hc⟩:=HA.out k l[k] (List.getElem?_eq_getElem (by omega))
   injection hA' with hA'
   injection hA' with e1 e2
   subst e1;subst e2
   have hm:numN (l.take k)<72057594037927936:=by have:=zqW l HX.out k;have:=zuz (k:=k) (by omega);omega
   have HJ:=hid (znK (numN (l.take k)) l[k] hm (HX.out _ (List.getElem_mem _)))
   have HS:=hid (zkI (l:=l) (k:=k) (by omega))
   have hc8:=HX.out _ (List.getElem_mem (l:=l) (n:=k) (by omega))
   clear hm
   generalize numN (l.take k)=m at *
   generalize l[k]=c at *
   go_wp2
   go_round
   case rel=>exact ⟨k+1,by omega,by go_num,by rw [HS.out,←HJ.out]⟩
   case measure=>simp only [intOf];omega
  ·go_wp2
   go_ret3
   have e:k=n:=by omega
   exact zfr rfl (by rw [e]) rfl rfl
def strN (l:List Nat):ByteArray:=strOfNums (l.map fun x:Nat=>(x:Int))
theorem zfQ (P:Program) (w:World) (src dst e:TypeId) (hs:P.underlying src=some (.slice e)) (he:P.underlying e=some (.int .u8)) (hd:P.underlying dst=some .string) (A:Option Addr) (c:Nat) :
  (convert src dst (.slice A 0 c)).run P w=.ok (.string ByteArray.empty) w:=by
 rw [run_convert_bytes_string w src dst e _ 0 c hs he hd]
 cases A <;> simp [Conv.bytesToString,loadCells,loadCellsFrom]
theorem zdw {w:World} {A:Option Addr} {l:List Nat} {n:Nat} (hS:Sees .u8 w A l) (hn:l.length=n) (c:Nat) :
  (convert 45 9 (.slice A n c)).run Tryz.prog w=.ok (.string (strN l)) w:=by
 cases l with
 | nil =>
  simp at hn
  subst hn
  exact zfQ _ w _ _ 5 Tryz.underlying45 Tryz.underlying5 Tryz.underlying9 A c
 | cons x l =>
  obtain ⟨b,o,rfl,_,_⟩:=hS 0 x rfl
  refine run_convert_bytes_arg w 45 5 Tryz.underlying45 Tryz.underlying5 b o n c _ (by simpa using hn) ?_ 9 Tryz.underlying9
  intro i hi
  have hi':i<(x :: l).length:=by omega
  obtain ⟨b',o',he,_,hc⟩:=hS i _ (List.getElem?_eq_getElem hi')
  injection he with he
  injection he with h1 h2
  subst h1;subst h2
  rw [hc,List.getD_eq_getElem?_getD,List.getElem?_map,List.getElem?_eq_getElem hi']
  rfl
theorem zf1 (b o:Nat) (l:List Nat) (n c:Nat) (w:World) (hn:l.length=n) (hl:n≤140737488355328) (hA:Sees .u8 w (some ⟨b,o,none⟩) l) :
  Calls Tryz.prog 42 #[.slice (some ⟨b,o,none⟩) n c] w (zcy l w):=by
 obtain ⟨i0,hi,hz0,hz1,hz2⟩:=info_parts zcD
 have HA:=hid hA
 have HN:=hid hn
 clear hA hn
 have q22:∀(w:World) (a:Option Addr) (n c n' c':Nat),(binOp .eql 45 (.slice a n c) (.slice none n' c')).run Tryz.prog w=.ok (.bool a.isNone) w:=fun w a n c n' c'=>Lib.run_eql_slice_nil w _ _ a n c n' c' Tryz.underlying45
 go_enter Tryz.func42,Tryz.ntmps42
 go_wp2_with (first
  | ((with_reducible refine zdO (o:=⟨some 5,_,_,_,_,_⟩) rfl 45 5 rfl Tryz.underlying45 i0 hi w.heap.size (Nat.le_refl _) ?_);intro s5 w5 hown5 hb5;have z5:=hb5.size)
  | (at_builtin;refine zbM rfl (.tmp 5) (.tmp 6) 45 rfl w.heap.size 5 i0 (.int .u8 0) 1 Tryz.underlying45 hi hz0 hz1 hz2 rfl _ 0 [] rfl hown5 .u8 (some ⟨b,o,none⟩) c l n HN.out rfl (fun h=>nomatch h) (HA.out.below hb5) (by unfold maxLen;omega) (by omega) z5 ?_;intro s6 w6 hown6 hg6;simp only [Nat.zero_add,List.nil_append] at hown6;have HO:=hid hown6;have HB:=hid (hb5.grown hg6 z5 (fun k hk=>(hown5.lt k hk).1));clear hown6 hg6))
 go_ret
 exact ⟨_,rfl,by rw [HN.out];exact HO.out,HB.out⟩
theorem zn0 (w:World):Calls Tryz.prog 42 #[.slice none 0 0] w (zcy [] w):=by
 have q22:∀(w:World) (a:Option Addr) (n c n' c':Nat),(binOp .eql 45 (.slice a n c) (.slice none n' c')).run Tryz.prog w=.ok (.bool a.isNone) w:=fun w a n c n' c'=>Lib.run_eql_slice_nil w _ _ a n c n' c' Tryz.underlying45
 go_enter Tryz.func42,Tryz.ntmps42
 go_wp2
 go_ret
 exact ⟨_,rfl,World.ownsRow_nil _ _ _ _,Below.refl _ _⟩
theorem zpI {w:World} {a:Addr} {l:List Nat} (h:Sees .u8 w (some a) l):l=[]∨∃b o,a=⟨b,o,none⟩:=by
 cases l with
 | nil=>exact .inl rfl
 | cons x l =>
  obtain ⟨b,o,he,_⟩:=h 0 x rfl
  injection he with he
  exact .inr ⟨b,o,he⟩
theorem zlT (a:Addr) (c:Nat) (w:World):Calls Tryz.prog 42 #[.slice (some a) 0 c] w (zcy [] w):=by
 obtain ⟨i0,hi,hz0,hz1,hz2⟩:=info_parts zcD
 have q22:∀(w:World) (a:Option Addr) (n c n' c':Nat),(binOp .eql 45 (.slice a n c) (.slice none n' c')).run Tryz.prog w=.ok (.bool a.isNone) w:=fun w a n c n' c'=>Lib.run_eql_slice_nil w _ _ a n c n' c' Tryz.underlying45
 go_enter Tryz.func42,Tryz.ntmps42
 go_wp2_with (first
  | ((with_reducible refine zdO (o:=⟨some 5,_,_,_,_,_⟩) rfl 45 5 rfl Tryz.underlying45 i0 hi w.heap.size (Nat.le_refl _) ?_);intro s5 w5 hown5 hb5;have z5:=hb5.size)
  | (at_builtin;refine zbM rfl (.tmp 5) (.tmp 6) 45 rfl w.heap.size 5 i0 (.int .u8 0) 1 Tryz.underlying45 hi hz0 hz1 hz2 rfl _ 0 [] rfl hown5 .u8 (some a) c [] 0 rfl rfl (fun h=>nomatch h) (Sees.nil _ _ _) (by unfold maxLen;omega) (by omega) z5 ?_;intro s6 w6 hown6 hg6;simp only [Nat.zero_add,List.nil_append] at hown6;have HO:=hid hown6;have HB:=hid (hb5.grown hg6 z5 (fun k hk=>(hown5.lt k hk).1));clear hown6 hg6))
 go_ret
 exact ⟨_,rfl,HO.out,HB.out⟩
theorem zfu (A:Option Addr) (l:List Nat) (n c:Nat) (w:World) (hn:l.length=n) (hl:n≤140737488355328) (hc:A=none→c=0) (hA:Sees .u8 w A l) :
  Calls Tryz.prog 42 #[.slice A n c] w (zcy l w):=by
 cases A with
 | none =>
  have h0:l=[]:=by
   cases l with
   | nil=>rfl
   | cons x l=>obtain ⟨b,o,he,_⟩:=hA 0 x rfl;cases he
  subst h0
  rw [hc rfl,←hn]
  exact zn0 w
 | some a =>
  rcases zpI hA with rfl | ⟨b,o,rfl⟩
  ·rw [←hn]
   exact zlT a c w
  ·exact zf1 b o l n c w hn hl hA
end Go.Proofs.YtnjdckoljmgcjaaGreatDoor
