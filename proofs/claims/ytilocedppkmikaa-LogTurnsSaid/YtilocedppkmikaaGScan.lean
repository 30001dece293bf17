/-
  The contract of log.Scan: the records of the whole frames that bytes begin with, each new, and how many bytes those have.
-/
import Derived.Test.YtilocedppkmikaaGRows
namespace Go.Proofs.Ytilocedppkmikaa
open Go.ChangeShapes Go.WideShapes Go.ChangeAt Go.RowKit

/-- The row of the bytes' slice's type. -/
theorem info_row : (Try.prog.info? 22).map (fun i => (i.zero, i.size, i.bytes)) = some (some (.slice none 0 0), 1, 24) := by kernel_rfl
theorem one_slice {B : Option Addr} {n c : Nat} : ∀ u ∈ [Value.slice B n c], u.oneCell' = true := by
  intro u hu; simp at hu; subst hu; rfl

/-- From a place on: the run of the cut, in the walk's words. -/
theorem cut_behind {w0 : World} {A : Option Addr} {l : List Nat} {n c a : Nat} (hn : l.length = n) (hm : a ≤ n) (hc : n ≤ c) (h : Sees .u8 w0 A l) (hA : A = none → c = 0) :
    ∃ A1, (∀ w, (Instr.slice 22 (.slice A n c) (some (.int .i64 (a : Int))) none none).run Try.prog w = .ok (.slice A1 (n - a) (c - a)) w) ∧ (A1 = none → c - a = 0) ∧ Sees .u8 w0 A1 (l.drop a) := by
  obtain ⟨i0, hi, hz0, hz1, hz2⟩ := info_parts info_u8
  obtain ⟨A1, h1, h2, h3⟩ := cut_rest 22 5 i0 Try.underlying22 hi hz1 hn hm hc h.held hA
  exact ⟨A1, h1, h2, h3.sees (Nat.le_refl _)⟩

/-- What a scan hands back: a row of records, and how many bytes are good. -/
def ScansTo (rs : List (List Nat)) (w : World) (e : Ending) (w' : World) : Prop :=
  ∃ A c, e = .returned (.tuple #[.slice A rs.length c, .int .i64 ((framesN rs).length : Int)]) ∧ (A = none → c = 0) ∧ rs.length ≤ c ∧ SeesRows w' A rs ∧ NilBare w' A rs.length ∧ Below w.heap.size w w'

theorem scan_done {rs : List (List Nat)} {w wr : World} {v : Value} {k : Nat} {xs : List Value} {x : Int} (hk : k = rs.length) (h8 : ∀ r ∈ rs, ∀ x ∈ r, x < 256) (hl : ∀ r ∈ rs, r.length ≤ 16384) (hown : wr.ownsRow w.heap.size 22 1 v k xs) (hrec : Recs wr w.heap.size xs (rs.take k)) (hbel : Below w.heap.size w wr)
    (hx : x = ((framesN (rs.take k)).length : Int)) : ScansTo rs w (.returned (.tuple #[v, .int .i64 x])) wr := by
  rw [hk, List.take_length] at hrec hx
  obtain ⟨A, c, rfl, h1, h2, h3, h4⟩ := recs_rows hown hrec h8 (fun r hr => by have := hl r hr; omega)
  exact ⟨A, c, by rw [hx], h1, h2, h3, h4, hbel⟩

set_option maxRecDepth 100000 in
set_option maxHeartbeats 400000 in
theorem scan_any (A : Option Addr) (l m : List Nat) (rs : List (List Nat)) (n c : Nat) (w : World) (hln : l.length = n) (hl : n ≤ 1000000) (hc : n ≤ c) (hA0 : A = none → c = 0) (h8 : ∀ x ∈ l, x < 256) (hA : Sees .u8 w A l)
    (hrs : ∀ r ∈ rs, r.length ≤ 16384) (ht : Torn m) (e : l = framesN rs ++ m) :
    Calls Try.prog 12 #[.slice A n c] w (ScansTo rs w) := by
  obtain ⟨ir, hir, hr0, hr1, hr2⟩ := info_parts info_row
  have hcount := framesN_count rs
  have hle : (framesN rs).length ≤ n := by rw [← hln, e, List.length_append]; omega
  have x8 : ∀ r ∈ rs, ∀ x ∈ r, x < 256 := by
    intro r hr x hx
    refine h8 x ?_
    rw [e]
    refine List.mem_append_left _ (List.mem_flatten.2 ⟨frameN r, List.mem_map.2 ⟨r, hr, rfl⟩, ?_⟩)
    unfold frameN sealed
    simp [hx]
  have HA := hid hA
  have H8 := hid h8
  have HLN := hid hln
  have H0 := hid hA0
  have HRS := hid hrs
  have HT := hid ht
  have HE := hid e
  have X8 := hid x8
  clear hA h8 hln hA0 hrs ht e x8
  go_enter Try.func12, Try.ntmps12
  go_wp2
  go_loopw [2, 3] (fun v g wr => ScanRel rs w.heap.size w v g wr) (fun _ g _ => n - (intOf g).toNat)
  case atStart => exact ⟨0, [], Nat.zero_le _, by simp [framesN], World.ownsRow_nil _ _ _ _, Recs.nil _ _, Below.refl _ _⟩
  case round =>
    obtain ⟨k, xs, hk, rfl, hown, hrec, hbel⟩ := hrel
    obtain ⟨G, hG⟩ : ∃ G, (framesN (rs.take k)).length = G := ⟨_, rfl⟩
    have hGn : G ≤ n := by have := framesN_take_le rs k; omega
    have hdrop : l.drop G = framesN (rs.drop k) ++ m := by rw [HE.out, framesN_split rs k, List.append_assoc, List.drop_left' hG]
    obtain ⟨A1, hrun, hnil, hs1⟩ := cut_behind HLN.out hGn hc (HA.out.below hbel) H0.out
    have HS1 := hid hs1
    have HN1 := hid hnil
    have HL1 : Hid ((l.drop G).length = n - G) := hid (by rw [List.length_drop, HLN.out])
    have X1 : Hid (∀ x ∈ l.drop G, x < 256) := hid (fun x hx => H8.out x (List.mem_of_mem_drop hx))
    have HOW := hid hown
    have HRC := hid hrec
    have HBE := hid hbel
    have hcc : n - G ≤ c - G := by omega
    have hsz := hbel.size
    by_cases hlt : k < rs.length
    · obtain ⟨r, hr⟩ : ∃ r, r = rs[k] := ⟨_, rfl⟩
      have hfit : G + (frameN r).length ≤ n := by
        have h1 := framesN_take_len hlt
        have h2 := framesN_take_le rs (k + 1)
        rw [← hr, hG] at h1
        omega
      have hpos := frameN_ge r
      have HD : Hid (l.drop G = frameN r ++ (framesN (rs.drop (k + 1)) ++ m)) := hid (by rw [hdrop, framesN_drop hlt, ← hr, List.append_assoc])
      have HR := hid hr
      have HRL : Hid (r.length ≤ 16384) := hid (by rw [hr]; exact HRS.out _ (List.getElem_mem hlt))
      have HST := hid (fun (w2 w3 : World) (v' : Value) (B : Option Addr) (c2 : Nat) (g : Int) (o : Obj) => scan_step2 (w2 := w2) (w3 := w3) (v' := v') (B := B) (c := c2) (g := g) (o := o) hlt hr hown hrec hbel hsz)
      obtain ⟨F, hF⟩ : ∃ F, (frameN r).length = F := ⟨_, rfl⟩
      obtain ⟨q, hq⟩ : ∃ q, r.length = q := ⟨_, rfl⟩
      have HF := hid hF
      have HQ := hid hq
      have HG := hid hG
      rw [hG]
      rw [hF] at hfit hpos
      clear hown hrec hbel hs1 hnil hdrop hr hF hq hG
      go_wp2_with (first
        | (go_at_call 21; ((with_reducible refine (first_ok A1 (l.drop G) r (framesN (rs.drop (k + 1)) ++ m) (n - G) (c - G) _ HL1.out (by omega) hcc HN1.out X1.out HS1.out HRL.out HD.out).mono ?_); rintro e w2 ⟨s, rfl, hown2, hb2⟩; rw [HQ.out] at hown2; obtain ⟨B, c2, rfl, hk2, _, hs2, ht2⟩ := own_rec HQ.out hown2; rw [HF.out]; have HK2 := hid hk2; have HS2 := hid hs2; have HT2 := hid ht2; have HB2 := hid hb2; have HO2 := hid (row_below HOW.out hb2); have hsz2 : w.heap.size ≤ w2.heap.size := Nat.le_trans hsz hb2.size; clear hk2 hs2 ht2 hb2 hown2))
        | (at_builtin; refine wpList_append_own _ rfl (.tmp 19) (.tmp 21) 31 rfl w.heap.size 22 ir (.slice none 0 0) 1 24 Try.underlying31 hir hr0 hr1 hr2 rfl (by decide) _ _ _ rfl (HO2.out.alloc _) ⟨w2.heap.size, 0, none⟩ 1 1 [.slice B q c2] rfl rfl (one_at _) one_slice (by unfold maxLen; omega) (by omega) (by simp; omega) ?_; intro v' w3 hown3 hg3 _; have R := hid (HST.out w2 w3 v' B c2 _ _ HB2.out HK2.out HS2.out (fun b o h1 h2 => .inr (HT2.out b o h1 h2)) (by rw [HQ.out]; exact hown3) hg3 (by rw [HG.out, HF.out])); clear hown3 hg3))
      go_roundw
      case rel => exact R.out
      case measure => simp only [intOf]; omega
    · have hkl : k = rs.length := by omega
      have HTD : Hid (Torn (l.drop G)) := hid (by rw [hdrop, hkl, List.drop_length, framesN_nil, List.nil_append]; exact HT.out)
      have HG := hid hG
      have HD := hid (fun (w2 : World) (x : Int) (hb2 : Below wr.heap.size wr w2) => scan_done (rs := rs) (w := w) (wr := w2) (x := x) hkl X8.out HRS.out (row_below hown hb2) (hrec.below hb2) (hbel.trans (hb2.mono hsz)))
      rw [hG]
      clear hown hrec hbel hs1 hnil hdrop hG
      go_wp2_with (first
        | (go_at_call 21; ((with_reducible refine (first_no A1 (l.drop G) (n - G) (c - G) _ HL1.out (by omega) hcc HN1.out X1.out HS1.out HTD.out).mono ?_); rintro e w2 ⟨rfl, hb2⟩; have HB2 := hid hb2; clear hb2)))
      go_ret2
      exact HD.out _ _ HB2.out (by rw [HG.out])

end Go.Proofs.Ytilocedppkmikaa
