/-
  The law's own step: what is taken of both (moothilllaw03.take).
-/
import Derived.Test.YtjefhnhlkhnogaaRefT
import Derived.RegionTactic
import Derived.Deep.RegionHeld3
import Derived.Deep.DrawnRows
namespace Go.Proofs.Ytjefhnhlkhnogaa
open Go.ChangeShapes Go.WideShapes Go.ChangeAt Go.RowKit
attribute [local go_sem ↓] Go.wp_at_zero Go.wp_at_succ

/-- What the law's step tells: both are at the same place. -/
def TakeDoes (A : Option Addr) (n : Nat) (L : List Nat) (c g : Nat) (w : World) (en : Ending) (w' : World) : Prop :=
  ∃ p' e' : Nat, p' ≤ n ∧ en = .returned (.tuple #[reader A n c (p' : Int) (e' : Int), .bool true]) ∧ InAt w' g (rem L p' e') e' ∧ w.grownBy w' (some g)

theorem blk_three {w w1 : World} {a b d : Array Value} {T U V : TypeId} (h : Below (((w.alloc (.cells a T)).alloc (.cells b U)).alloc (.cells d V)).heap.size (((w.alloc (.cells a T)).alloc (.cells b U)).alloc (.cells d V)) w1) :
    Blk w1 w.heap.size T a ∧ Blk w1 (w.heap.size + 1) U b ∧ Blk w1 (w.heap.size + 2) V d ∧ Below w.heap.size w w1 ∧ w.heap.size + 3 ≤ w1.heap.size := by
  have h0 := Blk.new w T a
  have h1 := Blk.new (w.alloc (.cells a T)) U b
  have h2 := Blk.new ((w.alloc (.cells a T)).alloc (.cells b U)) V d
  have e1 : (w.alloc (.cells a T)).heap.size = w.heap.size + 1 := by simp
  have e2 : ((w.alloc (.cells a T)).alloc (.cells b U)).heap.size = w.heap.size + 2 := by simp
  have e3 : (((w.alloc (.cells a T)).alloc (.cells b U)).alloc (.cells d V)).heap.size = w.heap.size + 3 := by simp
  rw [e1] at h1
  rw [e2] at h2
  have hs := h.size
  rw [e3] at hs h
  exact ⟨((h0.alloc _).alloc _).below h (by omega), (h1.alloc _).below h (by omega), h2.below h (by omega),
    ((((Below.refl _ _).alloc (Nat.le_refl _) _).alloc (by rw [e1]; omega) _).alloc (by rw [e2]; omega) _).trans (h.mono (by omega)), hs⟩

theorem kept3 {w w' : World} {g r : Nat} {T : TypeId} {a b d : Value} (h : Blk w g T #[a, b, d]) (hg : w.grownBy w' (some r)) (hne : g ≠ r) :
    w'.cell? ⟨g, 0, none⟩ = some a ∧ w'.cell? ⟨g, 1, none⟩ = some b ∧ w'.cell? ⟨g, 2, none⟩ = some d := (blk3 (h.grown hg (by simpa using hne))).1

theorem InAt.put3 {w : World} {g : Nat} {l : List Nat} {e : Nat} (h : InAt w g l e) {r : Nat} (hr : g < r) (a b d : Value) : InAt (Go.Proofs.Ytjefhnhlkhnogaa.put3 w r a b d) g l e :=
  h.keep (below_put3 (Below.refl _ _) (by omega) a b d)

theorem only_put3 {a w : World} {g r : Nat} (h : a.grownBy w (some g)) (hr : a.heap.size ≤ r) (x y z : Value) : a.grownBy (Go.Proofs.Ytjefhnhlkhnogaa.put3 w r x y z) (some g) :=
  only_setCell (p := ⟨r, 2, none⟩) (only_setCell (p := ⟨r, 1, none⟩) (only_setCell (p := ⟨r, 0, none⟩) h (.inr hr) x) (.inr hr) y) (.inr hr) z

/-- The ends: called, then stored; stored, then called. -/
theorem take_endA {A : Option Addr} {L : List Nat} {n c g g6 p1 e' : Nat} {l' : List Nat} {w W w3 : World} (HW : Below w.heap.size w W) (hg : W.drew.grownBy w3 (some g)) (hin : InAt w3 g l' e') (hr : l' = rem L p1 e') (hg6 : g < g6) (hge : w.heap.size ≤ g6) (hp : p1 ≤ n) (x y z : Value) :
    TakeDoes A n L c g w (.returned (.tuple #[reader A n c (p1 : Int) (e' : Int), .bool true])) (put3 w3 g6 x y z) := by
  subst hr
  exact ⟨p1, e', hp, rfl, hin.put3 hg6 _ _ _, only_put3 ((only_drew (only_of_below HW (some g))).trans hg) hge _ _ _⟩
theorem take_endB {A : Option Addr} {L : List Nat} {n c g g6 p1 e' : Nat} {l' : List Nat} {w W w3 : World} {x y z : Value} (HW : Below w.heap.size w W) (hg : (put3 W g6 x y z).drew.grownBy w3 (some g)) (hin : InAt w3 g l' e') (hr : l' = rem L p1 e') (hge : w.heap.size ≤ g6) (hp : p1 ≤ n) :
    TakeDoes A n L c g w (.returned (.tuple #[reader A n c (p1 : Int) (e' : Int), .bool true])) w3 := by
  subst hr
  exact ⟨p1, e', hp, rfl, hin, (only_drew (only_put3 (only_of_below HW (some g)) hge x y z)).trans hg⟩

set_option maxRecDepth 100000 in
set_option maxHeartbeats 1000000 in
theorem take_byte (A : Option Addr) (L : List Nat) (n c p e g : Nat) (N : Nat) (s : ByteArray) (w : World) (hn : L.length = n) (hp : p ≤ n) (hl : n ≤ 9223372036854775807) (hN : (N : Int) ≤ 18446744073709551615) (hA : Sees .u8 w A L) (hI : InAt w g (rem L p e) e) :
    Calls Try.prog 7 #[.pointer (some ⟨g, 0, none⟩), reader A n c (p : Int) (e : Int), .agg #[.int .i64 1, .int .u64 (N : Int), .string s]] w (TakeDoes A n L c g w) := by
  obtain ⟨l', e', v, hs⟩ : ∃ l' e' v, sByte (rem L p e) e = (l', e', v) := ⟨_, _, _, rfl⟩
  have HA := hid hA
  have HN := hid hn
  have HS := hid hs
  have HI := hid hI
  have hgl := hI.lt
  clear hA hn hs hI
  go_enter Try.func7, Try.ntmps7
  go_wp2_with fail
  with_reducible refine (refbyte_any A L n c p e l' e' v _ HN.out hp hl (((HA.out.alloc_ _).alloc_ _).alloc_ _) HS.out).mono ?_
  rintro en w1 ⟨p1, hp1, hr, rfl, hb1⟩
  obtain ⟨B0, B1, B2, hW, hsz⟩ := blk_three hb1
  have HR := hid hr
  have hWa := hW.alloc (Nat.le_trans (Nat.le_add_right _ 3) hsz) (.cells #[.slice A n c, .int .i64 (p1 : Int), .int .i64 (e' : Int)] 28)
  have HB2 : Hid (Blk (w1.alloc (.cells #[.slice A n c, .int .i64 (p1 : Int), .int .i64 (e' : Int)] 28)) (w.heap.size + 1 + 1) 28 #[.slice none 0 0, .int .i64 0, .int .i64 0]) := hid (B2.alloc _)
  have HY := hid (Blk.new w1 28 #[.slice A n c, .int .i64 (p1 : Int), .int .i64 (e' : Int)])
  have HI1 := hid (HI.out.keep (hWa.mono hgl))
  have HW := hid hWa
  have hg6 : g < w.heap.size + 1 + 1 := by omega
  have hgy : w.heap.size + 1 + 1 < w1.heap.size := by omega
  have hge : w.heap.size ≤ w.heap.size + 1 + 1 := by omega
  clear hb1 hr B0 B1 B2 hW hWa
  go_wp2
  generalize w1.alloc (.cells #[.slice A n c, .int .i64 (p1 : Int), .int .i64 (e' : Int)] 28) = W at *
  generalize w.heap.size + 1 + 1 = g6 at *
  generalize w1.heap.size = gy at *
  obtain ⟨⟨y0, y1, y2⟩, _, _, _⟩ := blk3 HY.out
  obtain ⟨⟨d0, d1, d2⟩, k0, k1, k2⟩ := blk3 HB2.out
  have HIp := hid (HI1.out.put3 hg6 (.slice A n c) (.int .i64 (p1 : Int)) (.int .i64 (e' : Int)))
  have HYp := hid (HY.out.put3_far (g := g6) (by omega) (.slice A n c) (.int .i64 (p1 : Int)) (.int .i64 (e' : Int)))
  have hyg : gy ≠ g := by omega
  have hrg : some g6 ≠ some g := by simp; omega
  have hyr : some gy ≠ some g := by simp; omega
  have hy6 : gy ≠ g6 := by omega
  have HZp := hid (HB2.out.put3 (.slice A n c) (.int .i64 (p1 : Int)) (.int .i64 (e' : Int)))
  go_region_held3 (fun w' => w'.cell? ⟨gy, 0, none⟩ = some (.slice A n c) ∧ w'.cell? ⟨gy, 1, none⟩ = some (.int .i64 (p1 : Int)) ∧ w'.cell? ⟨gy, 2, none⟩ = some (.int .i64 (e' : Int)))
    (first | exact ⟨y0, y1, y2⟩ | exact (blk3 (HY3.out.put3_far hy6 _ _ _)).1 | exact (blk3 HYp.out).1 | exact kept3 (Blk.drew HY.out) hg3 hyg | exact kept3 (Blk.drew HYp.out) hg3 hyg | go_keep)
    ((go_at_call 18; refine (byte_any g _ _ l' e' v _ (by first | exact HI1.out | exact HIp.out) (rem_fine L p e) HS.out).mono ?_; rintro en w3 ⟨rfl, hin3, hg3⟩; first | (obtain ⟨⟨q0, q1, q2⟩, r0, r1, r2⟩ := blk3 (Blk.grown (Blk.drew HB2.out) hg3 hrg); have HY3 := hid (Blk.grown (Blk.drew HY.out) hg3 hyr)) | (obtain ⟨⟨q0, q1, q2⟩, r0, r1, r2⟩ := blk3 (Blk.grown (Blk.drew HZp.out) hg3 hrg))))
  all_goals
    go_wp2
    refine bodyPost_ret (v := .tuple #[reader A n c (p1 : Int) (e' : Int), .bool true]) (by simp [results, Try.results7, go_sem, q0, q1, q2]) rfl ?_
    first | exact take_endA HW.out hg3 hin3 HR.out hg6 hge hp1 _ _ _ | exact take_endB HW.out hg3 hin3 HR.out hge hp1

end Go.Proofs.Ytjefhnhlkhnogaa
