/- Joined: DmK, DmS, DmQ, DmM. -/
import Derived.Test.YthniccegnbadpaaDoorDb
import Derived.Lib.MinMax
import Derived.Test.YthniccegnbadpaaDoorGc
import Derived.Test.YthniccegnbadpaaDoorGb
import Derived.Test.YthniccegnbadpaaDoorLc
import Derived.Deep.CutRange


/- look. -/
set_option linter.unusedSimpArgs false
set_option linter.unusedVariables false
namespace Go.Proofs.YthniccegnbadpaaDoor
open Go.RowKit Go.Sort Go.Maps

/-- While v is looked at. -/
structure LkS (n pf br bl bf : Nat) (E : Nat → Nat → Prop) (par : Nat → Nat) (v : Nat) (A met : List Int) (w1 w wr : World) (vy vz : Value) (ls rt ft : Nat → Int) (i : Nat) (m : Int) (pr : Nat) (done : List Nat) : Prop where
  f : Fo n pf br bl bf w1 wr vz rt (updN ls v m) ft
  o : For n par (v + 1) rt (updN ls v m) ft
  p : LookP E par v done m pr
  d : ∀ (u : Nat) x, met[u]? = some x → x ∈ A.take i → u ∈ done
  t : Tch (pf :: br :: bl :: bf :: blks vy) w wr
  b : ∀ q ∈ blks vz, q ∈ blks vy ∨ w.heap.size ≤ q
theorem updN_upd (f : Nat → Int) (v : Nat) (a b : Int) : updN (updN f v a) v b = updN f v b := by funext j; unfold updN; split <;> rfl
theorem updN_id (f : Nat → Int) (v : Nat) (a : Int) (h : f v = a) : updN f v a = f := by funext j; unfold updN; split; rename_i e; rw [e, h]; rfl
section
variable {n pf br bl bf : Nat} {E : Nat → Nat → Prop} {par : Nat → Nat} {v : Nat} {A met : List Int} {w1 w wr x0 x2 w5 : World} {vy vz vy2 : Value} {ls rt ft rt2 ft2 : Nat → Int} {i : Nat} {m : Int} {pr u b : Nat} {done : List Nat} {x : Int}
theorem LkS.next {pr2 : Nat} (h : LkS n pf br bl bf E par v A met w1 w wr vy vz ls rt ft i m pr done) (hd : Dfo n E par) (hv : v < n) (hl : Lsd n E (v + 1) ls) (he : E u v) (hu : met[u]? = some x ∧ A[i]? = some x ∧ met.Nodup) (t1 : Tch [] wr x0)
    (f2 : Fo n pf br bl bf w1 x2 vy2 rt2 (updN ls v m) ft2) (o2 : For n par (v + 1) rt2 (updN ls v m) ft2) (bp : BestP par (v + 1) (updN ls v m) u b) (t2 : Tch (pf :: br :: bf :: blks vz) x0 x2) (hb : ∀ q ∈ blks vy2, q ∈ blks vz ∨ x0.heap.size ≤ q)
    (f3 : Fo n pf br bl bf w1 w5 vy2 rt2 (updN (updN ls v m) v (min m (updN ls v m b))) ft2) (t3 : Tch [bl] x2 w5) (hp : pr2 = if u < v then max pr u else pr) :
    LkS n pf br bl bf E par v A met w1 w w5 vy vy2 ls rt2 ft2 (i + 1) (min m (updN ls v m b)) pr2 (done ++ [u]) := by
  rw [updN_upd] at f3
  have hlv : Lsd n E (v + 1) (updN ls v v) := by rw [updN_id ls v v (hl.2 v (by omega))]; exact hl
  have o3 := o2.least (v := v) (by omega) (min m (updN ls v m b))
  rw [updN_upd] at o3
  have sz := h.t.size
  have sz1 := t1.size
  have tt : Tch (pf :: br :: bl :: bf :: blks vz) wr w5 := ((t1.mono (S' := pf :: br :: bl :: bf :: blks vz) (by simp)).trans (t2.mono (fun q hq => by
    simp only [List.mem_cons] at hq ⊢
    rcases hq with h | h | h | h
    · exact .inl h
    · exact .inr (.inl h)
    · exact .inr (.inr (.inr (.inl h)))
    · exact .inr (.inr (.inr (.inr h)))))).trans (t3.mono (by simp))
  refine ⟨f3, o3, by rw [hp]; exact h.p.step hd hlv he bp, fun u2 x2 h1 h2 => ?_, h.t.trans2 tt (fun q hq => ?_), fun q hq => ?_⟩
  · rw [List.take_succ_eq_append_getElem (List.getElem?_eq_some_iff.1 hu.2.1).1] at h2
    rcases List.mem_append.1 h2 with h2 | h2
    · exact List.mem_append_left _ (h.d u2 x2 h1 h2)
    · simp at h2
      obtain ⟨hi, hx⟩ := List.getElem?_eq_some_iff.1 hu.2.1
      rw [hx] at h2
      subst h2
      have := (List.getElem?_inj (List.getElem?_eq_some_iff.1 h1).1 hu.2.2).1 (h1.trans hu.1.symm)
      subst this; simp
  · simp only [List.mem_cons] at hq ⊢
    rcases hq with h1 | h1 | h1 | h1 | h1
    · exact .inl (.inl h1)
    · exact .inl (.inr (.inl h1))
    · exact .inl (.inr (.inr (.inl h1)))
    · exact .inl (.inr (.inr (.inr (.inl h1))))
    · rcases h.b q h1 with h1 | h1
      · exact .inl (.inr (.inr (.inr (.inr h1))))
      · exact .inr h1
  · rcases hb q hq with h1 | h1
    · exact h.b q h1
    · exact .inr (by omega)
theorem LkS.skip (h : LkS n pf br bl bf E par v A met w1 w wr vy vz ls rt ft i m pr done) (hi : A[i]? = some x) (hx : posN met x = none) : LkS n pf br bl bf E par v A met w1 w wr vy vz ls rt ft (i + 1) m pr done := by
  refine ⟨h.f, h.o, h.p, fun u2 x2 h1 h2 => ?_, h.t, h.b⟩
  obtain ⟨hil, hx2⟩ := List.getElem?_eq_some_iff.1 hi
  rw [List.take_succ_eq_append_getElem hil] at h2
  rcases List.mem_append.1 h2 with h2 | h2
  · exact h.d u2 x2 h1 h2
  · simp at h2
    rw [hx2] at h2
    subst h2
    unfold posN at hx
    rw [if_pos (List.mem_of_getElem? h1)] at hx
    simp at hx
end
/-- What look leaves. -/
def LokP (n pf br bl bf : Nat) (E : Nat → Nat → Prop) (par : Nat → Nat) (v : Nat) (w1 w w' : World) (vy : Value) (ls : Nat → Int) (e : Ending) : Prop := ∃ (s : Nat) (vz : Value) (rt ft : Nat → Int), e = .returned (.int .i64 (par v : Nat)) ∧ Fo n pf br bl bf w1 w' vz rt (updN ls v s) ft ∧ For n par (v + 1) rt (updN ls v s) ft ∧ Sd E v s ∧ Tch (pf :: br :: bl :: bf :: blks vy) w w' ∧ ∀ q ∈ blks vz, q ∈ blks vy ∨ w.heap.size ≤ q
set_option maxRecDepth 100000 in
set_option maxHeartbeats 4000000 in
/-- **look.** -/
theorem look_any {n pf br bl bf : Nat} {E : Nat → Nat → Prop} {par : Nat → Nat} {v : Nat} {A met : List Int} {w1 w : World} {vy va : Value} {ls rt ft : Nat → Int} {mb N sz : Nat} (hd : Dfo n E par) (hn : n ≤ 900) (h : Fo n pf br bl bf w1 w vy rt ls ft) (fo : For n par (v + 1) rt ls ft) (hl : Lsd n E (v + 1) ls) (h0 : 0 < v) (hv : v < n)
    (hm : MNum w mb N sz (posN met)) (hmn : met.Nodup) (hml : met.length = n) (hs : Sl w 3 1 va A.length (ivals A)) (hA : A.length ≤ 1000) (hAr : ∀ x ∈ A, 0 ≤ x ∧ x < 1000000) (hE : ∀ u, E u v ↔ ∃ x ∈ A, met[u]? = some x) (ap : ∀ q, q = mb ∨ q ∈ blks va → ¬ q ∈ pf :: br :: bl :: bf :: blks vy) :
    Calls Tryd.prog 67 #[.pointer (some ⟨pf, 0, none⟩), .int .i64 v, va, .map (some mb)] w fun e w' => LokP n pf br bl bf E par v w1 w w' vy ls e := by
  have hmo : Tryd.prog.follows .mixedOrders = true := by kernel_rfl
  obtain ⟨aa, ac, hva⟩ := hs.shape
  subst hva
  have L0 : Hid (LkS n pf br bl bf E par v A met w1 w w vy vy ls rt ft 0 v 0 []) := by
    have e := updN_id ls v v (hl.2 v (by omega))
    exact ⟨by rw [e]; exact h, by rw [e]; exact fo, look_0 E par v, by simp, Tch.refl _ _, fun q hq => .inl hq⟩
  have HD := hid hd
  have HLS := hid hl
  have HM := hid hm
  have HS := hid hs
  have HAR := hid hAr
  have HEE := hid hE
  have AP := hid ap
  have HMN := hid hmn
  have HML := hid hml
  clear h fo hl hm hs hAr hE ap hmn hml hd
  go_enter Tryd.func67, Tryd.ntmps67
  go_wp2_with fail
  go_loopw [9, 11, 12, 13, 16] (fun vp _ _ _ vi wr => ∃ (i pr : Nat) (vz : Value) (rt ft : Nat → Int) (m : Int) (done : List Nat), vi = .int .i64 i ∧ vp = .int .i64 pr ∧ i ≤ A.length ∧ Hid (LkS n pf br bl bf E par v A met w1 w wr vy vz ls rt ft i m pr done)) (fun _ _ _ _ vi _ => A.length - (intOf vi).toNat)
  case atStart => exact ⟨0, 0, vy, rt, ft, v, [], rfl, rfl, Nat.zero_le _, L0.out⟩
  case round =>
    obtain ⟨i, pr, vz, rt, ft, m, done, rfl, rfl, hi, HL⟩ := hrel
    clear L0
    by_cases hlt : i < A.length
    · have hx0 : A[i]? = some A[i] := by simp [hlt]
      have hxm : A[i] ∈ A := List.getElem_mem hlt
      have hxr := HAR.out A[i] hxm
      have HX := hid hx0
      have HXM := hid hxm
      generalize A[i] = x at *
      have wx : wfi x := wfi_of (by omega) (by omega)
      obtain ⟨b, off, c, hv2⟩ := HS.out.ptr (Nat.zero_lt_of_lt hlt)
      cases hv2
      have cx := ((HS.out.kept HL.out.t (fun q hq => AP.out q (.inr hq))).cell).2.1 i (.int .i64 x) (by simp [ivals, hx0])
      have hlk := (HM.out.kept HL.out.t (AP.out _ (.inl rfl))).lookOk wx
      clear hx0 hxm
      cases hp : posN met x with
      | none =>
        rw [hp] at hlk
        simp only [Option.getD_none, Option.isSome_none] at hlk
        have L2 := hid (HL.out.skip HX.out hp)
        clear hp HL
        go_wp2_with fail
        go_roundw
        case rel => exact ⟨i + 1, pr, vz, rt, ft, m, done, by go_num, rfl, by omega, L2.out⟩
        case measure => simp [intOf]; omega
      | some y =>
        rw [hp] at hlk
        obtain ⟨u, rfl, hu, hul⟩ := posN_inv hp
        have hun : u < n := by have := HML.out; omega
        have HE : Hid (E u v) := (HEE.out u).2 ⟨x, HXM.out, hu⟩
        have HU : Hid (met[u]? = some x ∧ A[i]? = some x ∧ met.Nodup) := ⟨hu, HX.out, HMN.out⟩
        simp only [Option.getD_some, Option.isSome_some] at hlk
        clear hp hu hul
        by_cases huv : u < v
        · have huv' : decide ((u : Int) < (v : Int)) = true := by simpa using huv
          have hmx : max (pr : Int) (u : Int) = ((max pr u : Nat) : Int) := by omega
          go_upto_region 9 with fail
          have F1 := hid (HL.out.f.tch ((Tch.refl [] wr).drew))
          have T1 := hid ((Tch.refl [] wr).drew)
          have HB := hid (best_any HD.out hn F1.out HL.out.o hun)
          have KS : Hid (∀ (W : World) (vq : Value) (r2 f2 : Nat → Int), Fo n pf br bl bf w1 W vq r2 (updN ls v m) f2 → W.cell? ⟨pf, 1, none⟩ = some (.slice (some ⟨bl, 0, none⟩) n n) ∧ Ar n W bl (updN ls v m)) := fun W vq r2 f2 h => ⟨h.cells.2.1, h.l⟩
          refine wp_region_z (fun w' => w'.cell? ⟨pf, 1, none⟩ = some (.slice (some ⟨bl, 0, none⟩) n n) ∧ Ar n w' bl (updN ls v m)) 23 hmo (KS.out _ _ _ _ F1.out) (fun hHeld => ?_)
          generalize hx0 : wr.drew = x0 at *
          refine wpAnyZ_take (i := 0) (v := ?_) rfl (by kernel_rfl) (by kernel_rfl) (by kernel_rfl) (by kernel_rfl) (fun _ _ _ h => h) (Or.inl ⟨by rfl, ?_⟩) (by assumption) ?_
          rotate_left
          (intro w hSw; (try dsimp only at hSw); go_simp; try (with_reducible rfl))
          try simp only [Act.put, List.setIfInBounds_toArray, List.set_cons_zero, List.set_cons_succ]
          refine wpAnyZ_take (i := 1) (v := ?_) rfl (by kernel_rfl) (by kernel_rfl) (by kernel_rfl) (by kernel_rfl) (fun _ _ _ h => h) (Or.inl ⟨by rfl, ?_⟩) (by assumption) ?_
          rotate_left
          (intro w hSw; (try dsimp only at hSw); go_simp; try (with_reducible rfl))
          try simp only [Act.put, List.setIfInBounds_toArray, List.set_cons_zero, List.set_cons_succ]
          refine wpAnyZ_take (i := 2) (v := ?_) rfl (by kernel_rfl) (by kernel_rfl) (by kernel_rfl) (by kernel_rfl) (fun _ _ _ h => h) (Or.inl ⟨by rfl, ?_⟩) (by assumption) ?_
          rotate_left
          (intro w hSw; (try dsimp only at hSw); go_simp; try (with_reducible rfl))
          try simp only [Act.put, List.setIfInBounds_toArray, List.set_cons_zero, List.set_cons_succ]
          refine wpAnyZ_take (i := 3) (v := ?_) rfl (by kernel_rfl) (by kernel_rfl) (by kernel_rfl) (by kernel_rfl) (fun _ _ _ h => h) (Or.inl ⟨by rfl, ?_⟩) (by assumption) ?_
          rotate_left
          (intro w hSw; (try dsimp only at hSw); go_simp; try (with_reducible rfl))
          try simp only [Act.put, List.setIfInBounds_toArray, List.set_cons_zero, List.set_cons_succ]
          refine wpAnyZ_take (i := 4) (v := ?_) rfl (by kernel_rfl) (by kernel_rfl) (by kernel_rfl) (by kernel_rfl) (fun _ _ _ h => h) (Or.inl ⟨by rfl, ?_⟩) (by assumption) ?_
          rotate_left
          (intro w hSw; (try dsimp only at hSw); go_simp; try (with_reducible rfl))
          try simp only [Act.put, List.setIfInBounds_toArray, List.set_cons_zero, List.set_cons_succ]
          refine wpAnyZ_take (i := 5) (v := ?_) rfl (by kernel_rfl) (by kernel_rfl) (by kernel_rfl) (by kernel_rfl) (fun _ _ _ h => h) (Or.inl ⟨by rfl, ?_⟩) (by assumption) ?_
          rotate_left
          (intro w hSw; (try dsimp only at hSw); go_simp; try (with_reducible rfl))
          try simp only [Act.put, List.setIfInBounds_toArray, List.set_cons_zero, List.set_cons_succ]
          refine wpAnyZ_take (i := 6) (v := ?_) rfl (by kernel_rfl) (by kernel_rfl) (by kernel_rfl) (by kernel_rfl) (fun _ _ _ h => h) (Or.inl ⟨by rfl, ?_⟩) (by assumption) ?_
          rotate_left
          (intro w hSw; (try dsimp only at hSw); go_simp; try (with_reducible rfl))
          try simp only [Act.put, List.setIfInBounds_toArray, List.set_cons_zero, List.set_cons_succ]
          refine wpAnyZ_take (i := 7) (v := ?_) rfl (by kernel_rfl) (by kernel_rfl) (by kernel_rfl) (by kernel_rfl) (fun _ _ _ h => h) (Or.inl ⟨by rfl, ?_⟩) (by assumption) ?_
          rotate_left
          (intro w hSw; (try dsimp only at hSw); go_simp; try (with_reducible rfl))
          try simp only [Act.put, List.setIfInBounds_toArray, List.set_cons_zero, List.set_cons_succ]
          refine wpAnyZ_take (i := 8) (v := ?_) rfl (by kernel_rfl) (by kernel_rfl) (by kernel_rfl) (by kernel_rfl) (fun _ _ _ h => h) (Or.inl ⟨by rfl, ?_⟩) (by assumption) ?_
          rotate_left
          (intro w hSw; (try dsimp only at hSw); go_simp; try (with_reducible rfl))
          try simp only [Act.put, List.setIfInBounds_toArray, List.set_cons_zero, List.set_cons_succ]
          refine wpAnyZ_take (i := 9) (v := ?_) rfl (by kernel_rfl) (by kernel_rfl) (by kernel_rfl) (by kernel_rfl) (fun _ _ _ h => h) (Or.inl ⟨by rfl, ?_⟩) (by assumption) ?_
          rotate_left
          (intro w hSw; (try dsimp only at hSw); go_simp; try (with_reducible rfl))
          try simp only [Act.put, List.setIfInBounds_toArray, List.set_cons_zero, List.set_cons_succ]
          refine wpAnyZ_take (i := 10) (v := ?_) rfl (by kernel_rfl) (by kernel_rfl) (by kernel_rfl) (by kernel_rfl) (fun _ _ _ h => h) (Or.inl ⟨by rfl, ?_⟩) (by assumption) ?_
          rotate_left
          (intro w hSw; (try dsimp only at hSw); go_simp; try (with_reducible rfl))
          try simp only [Act.put, List.setIfInBounds_toArray, List.set_cons_zero, List.set_cons_succ]
          refine wpAnyZ_take (i := 11) (v := .int .i64 m) rfl (by kernel_rfl) (by kernel_rfl) (by kernel_rfl) (by kernel_rfl) (fun _ _ _ h => h) (Or.inl ⟨by rfl, ?_⟩) (by assumption) ?_
          · intro w hSw
            (try dsimp only at hSw)
            have hc := hSw.2.cell hv
            rw [updN_same] at hc
            go_simp
          try simp only [Act.put, List.setIfInBounds_toArray, List.set_cons_zero, List.set_cons_succ]
          refine wpAnyZ_take (i := 12) (v := ?_) rfl (by kernel_rfl) (by kernel_rfl) (by kernel_rfl) (by kernel_rfl) (fun _ _ _ h => h) (Or.inl ⟨by rfl, ?_⟩) (by assumption) ?_
          rotate_left
          (intro w hSw; (try dsimp only at hSw); go_simp; try (with_reducible rfl))
          try simp only [Act.put, List.setIfInBounds_toArray, List.set_cons_zero, List.set_cons_succ]
          refine wpAnyZ_take (i := 13) (v := ?_) rfl (by kernel_rfl) (by kernel_rfl) (by kernel_rfl) (by kernel_rfl) (fun _ _ _ h => h) (Or.inl ⟨by rfl, ?_⟩) (by assumption) ?_
          rotate_left
          (intro w hSw; (try dsimp only at hSw); go_simp; try (with_reducible rfl))
          try simp only [Act.put, List.setIfInBounds_toArray, List.set_cons_zero, List.set_cons_succ]
          refine wpAnyZ_take (i := 14) (v := ?_) rfl (by kernel_rfl) (by kernel_rfl) (by kernel_rfl) (by kernel_rfl) (fun _ _ _ h => h) (Or.inl ⟨by rfl, ?_⟩) (by assumption) ?_
          rotate_left
          (intro w hSw; (try dsimp only at hSw); go_simp; try (with_reducible rfl))
          try simp only [Act.put, List.setIfInBounds_toArray, List.set_cons_zero, List.set_cons_succ]
          refine wpAnyZ_take (i := 15) (v := ?_) rfl (by kernel_rfl) (by kernel_rfl) (by kernel_rfl) (by kernel_rfl) (fun _ _ _ h => h) (Or.inl ⟨by rfl, ?_⟩) (by assumption) ?_
          rotate_left
          (intro w hSw; (try dsimp only at hSw); go_simp; try (with_reducible rfl))
          try simp only [Act.put, List.setIfInBounds_toArray, List.set_cons_zero, List.set_cons_succ]
          refine wpAnyZ_take (i := 16) (v := ?_) rfl (by kernel_rfl) (by kernel_rfl) (by kernel_rfl) (by kernel_rfl) (fun _ _ _ h => h) (Or.inl ⟨by rfl, ?_⟩) (by assumption) ?_
          rotate_left
          (intro w hSw; (try dsimp only at hSw); go_simp; try (with_reducible rfl))
          try simp only [Act.put, List.setIfInBounds_toArray, List.set_cons_zero, List.set_cons_succ]
          refine wpAnyZ_take (i := 17) (v := ?_) rfl (by kernel_rfl) (by kernel_rfl) (by kernel_rfl) (by kernel_rfl) (fun _ _ _ h => h) (Or.inl ⟨by rfl, ?_⟩) (by assumption) ?_
          rotate_left
          (intro w hSw; (try dsimp only at hSw); go_simp; try (with_reducible rfl))
          try simp only [Act.put, List.setIfInBounds_toArray, List.set_cons_zero, List.set_cons_succ]
          refine wpAnyZ_step (i := 18) (by kernel_rfl) rfl (fun Kq hK => ?_)
          go_simp
          go_at_call 86
          refine HB.out.mono ?_
          rintro e2 x2 ⟨b, vy2, rt2, ft2, rfl, fo2, or2, bp2, t2, hb2⟩
          refine hK.out _ _ (KS.out _ _ _ _ fo2) (fun hH2 => ?_)
          clear hHeld hK Kq
          have hHeld := hH2
          clear hH2
          try simp only [Act.put, List.setIfInBounds_toArray, List.set_cons_zero, List.set_cons_succ]
          have FO2 := hid fo2
          have OR2 := hid or2
          have BP2 := hid bp2
          have T2 := hid t2
          have HB2 := hid hb2
          have hbn : b < n := Nat.lt_of_le_of_lt (bp2.lt HD.out hun) hun
          clear fo2 or2 bp2 t2 hb2 HB
          refine wpAnyZ_take (i := 19) (v := ?_) rfl (by kernel_rfl) (by kernel_rfl) (by kernel_rfl) (by kernel_rfl) (fun _ _ _ h => h) (Or.inl ⟨by rfl, ?_⟩) (by assumption) ?_
          rotate_left
          (intro w hSw; (try dsimp only at hSw); go_simp; try (with_reducible rfl))
          try simp only [Act.put, List.setIfInBounds_toArray, List.set_cons_zero, List.set_cons_succ]
          refine wpAnyZ_take (i := 20) (v := .int .i64 (updN ls v m b)) rfl (by kernel_rfl) (by kernel_rfl) (by kernel_rfl) (by kernel_rfl) (fun _ _ _ h => h) (Or.inl ⟨by rfl, ?_⟩) (by assumption) ?_
          · intro w hSw
            (try dsimp only at hSw)
            have hc := hSw.2.cell hbn
            go_simp
          try simp only [Act.put, List.setIfInBounds_toArray, List.set_cons_zero, List.set_cons_succ]
          refine wpAnyZ_take (i := 21) (v := ?_) rfl (by kernel_rfl) (by kernel_rfl) (by kernel_rfl) (by kernel_rfl) (fun _ _ _ h => h) (Or.inl ⟨by rfl, ?_⟩) (by assumption) ?_
          rotate_left
          (intro w hSw; (try dsimp only at hSw); go_simp; try (with_reducible rfl))
          try simp only [Act.put, List.setIfInBounds_toArray, List.set_cons_zero, List.set_cons_succ]
          refine wpAnyZ_take (i := 22) (v := ?_) rfl (by kernel_rfl) (by kernel_rfl) (by kernel_rfl) (by kernel_rfl) (fun _ _ _ h => h) (Or.inl ⟨by rfl, ?_⟩) (by assumption) ?_
          rotate_left
          (intro w hSw; (try dsimp only at hSw); go_simp; try (with_reducible rfl))
          try simp only [Act.put, List.setIfInBounds_toArray, List.set_cons_zero, List.set_cons_succ]
          refine wpAnyZ_last (by kernel_rfl) rfl (fun Kq hK => ?_)
          have cz := hHeld.2.cell hv
          rw [updN_same] at cz
          have fz := hHeld.2.fro v
          go_simp
          refine hK.out _ _ ?_
          clear hK Kq
          try simp only [Act.put, List.setIfInBounds_toArray, List.set_cons_zero, List.set_cons_succ]
          clear hHeld cz fz
          refine wpAnyZ_done (by kernel_rfl) (NoPanic.normal ?_) _
          clear KS
          have F3 := hid (FO2.out.setL hv (min m (updN ls v m b)))
          have L3 : Hid (LkS n pf br bl bf E par v A met w1 w _ vy vy2 ls rt2 ft2 (i + 1) (min m (updN ls v m b)) (max pr u) (done ++ [u])) := HL.out.next HD.out hv HLS.out HE.out HU.out T1.out FO2.out OR2.out BP2.out T2.out HB2.out F3.out.1 F3.out.2 (by rw [if_pos huv])
          clear F1 T1 FO2 OR2 BP2 T2 HB2 F3 HL
          generalize x2.setCell ⟨bl, v, none⟩ (.int .i64 (min m (updN ls v m b))) = w5 at *
          go_wp2_with fail
          go_roundw
          case rel => exact ⟨i + 1, _, vy2, rt2, ft2, _, done ++ [u], by go_num, rfl, by omega, L3.out⟩
          case measure => simp [intOf]; omega
        · have huv' : decide ((u : Int) < (v : Int)) = false := by simpa using huv
          have huf : ¬ ((u : Int) < (v : Int)) := by omega
          go_upto_region 9 with fail
          have F1 := hid (HL.out.f.tch ((Tch.refl [] wr).drew))
          have T1 := hid ((Tch.refl [] wr).drew)
          have HB := hid (best_any HD.out hn F1.out HL.out.o hun)
          have KS : Hid (∀ (W : World) (vq : Value) (r2 f2 : Nat → Int), Fo n pf br bl bf w1 W vq r2 (updN ls v m) f2 → W.cell? ⟨pf, 1, none⟩ = some (.slice (some ⟨bl, 0, none⟩) n n) ∧ Ar n W bl (updN ls v m)) := fun W vq r2 f2 h => ⟨h.cells.2.1, h.l⟩
          refine wp_region_z (fun w' => w'.cell? ⟨pf, 1, none⟩ = some (.slice (some ⟨bl, 0, none⟩) n n) ∧ Ar n w' bl (updN ls v m)) 23 hmo (KS.out _ _ _ _ F1.out) (fun hHeld => ?_)
          generalize hx0 : wr.drew = x0 at *
          refine wpAnyZ_take (i := 0) (v := ?_) rfl (by kernel_rfl) (by kernel_rfl) (by kernel_rfl) (by kernel_rfl) (fun _ _ _ h => h) (Or.inl ⟨by rfl, ?_⟩) (by assumption) ?_
          rotate_left
          (intro w hSw; (try dsimp only at hSw); go_simp; try (with_reducible rfl))
          try simp only [Act.put, List.setIfInBounds_toArray, List.set_cons_zero, List.set_cons_succ]
          refine wpAnyZ_take (i := 1) (v := ?_) rfl (by kernel_rfl) (by kernel_rfl) (by kernel_rfl) (by kernel_rfl) (fun _ _ _ h => h) (Or.inl ⟨by rfl, ?_⟩) (by assumption) ?_
          rotate_left
          (intro w hSw; (try dsimp only at hSw); go_simp; try (with_reducible rfl))
          try simp only [Act.put, List.setIfInBounds_toArray, List.set_cons_zero, List.set_cons_succ]
          refine wpAnyZ_take (i := 2) (v := ?_) rfl (by kernel_rfl) (by kernel_rfl) (by kernel_rfl) (by kernel_rfl) (fun _ _ _ h => h) (Or.inl ⟨by rfl, ?_⟩) (by assumption) ?_
          rotate_left
          (intro w hSw; (try dsimp only at hSw); go_simp; try (with_reducible rfl))
          try simp only [Act.put, List.setIfInBounds_toArray, List.set_cons_zero, List.set_cons_succ]
          refine wpAnyZ_take (i := 3) (v := ?_) rfl (by kernel_rfl) (by kernel_rfl) (by kernel_rfl) (by kernel_rfl) (fun _ _ _ h => h) (Or.inl ⟨by rfl, ?_⟩) (by assumption) ?_
          rotate_left
          (intro w hSw; (try dsimp only at hSw); go_simp; try (with_reducible rfl))
          try simp only [Act.put, List.setIfInBounds_toArray, List.set_cons_zero, List.set_cons_succ]
          refine wpAnyZ_take (i := 4) (v := ?_) rfl (by kernel_rfl) (by kernel_rfl) (by kernel_rfl) (by kernel_rfl) (fun _ _ _ h => h) (Or.inl ⟨by rfl, ?_⟩) (by assumption) ?_
          rotate_left
          (intro w hSw; (try dsimp only at hSw); go_simp; try (with_reducible rfl))
          try simp only [Act.put, List.setIfInBounds_toArray, List.set_cons_zero, List.set_cons_succ]
          refine wpAnyZ_take (i := 5) (v := ?_) rfl (by kernel_rfl) (by kernel_rfl) (by kernel_rfl) (by kernel_rfl) (fun _ _ _ h => h) (Or.inl ⟨by rfl, ?_⟩) (by assumption) ?_
          rotate_left
          (intro w hSw; (try dsimp only at hSw); go_simp; try (with_reducible rfl))
          try simp only [Act.put, List.setIfInBounds_toArray, List.set_cons_zero, List.set_cons_succ]
          refine wpAnyZ_take (i := 6) (v := ?_) rfl (by kernel_rfl) (by kernel_rfl) (by kernel_rfl) (by kernel_rfl) (fun _ _ _ h => h) (Or.inl ⟨by rfl, ?_⟩) (by assumption) ?_
          rotate_left
          (intro w hSw; (try dsimp only at hSw); go_simp; try (with_reducible rfl))
          try simp only [Act.put, List.setIfInBounds_toArray, List.set_cons_zero, List.set_cons_succ]
          refine wpAnyZ_take (i := 7) (v := ?_) rfl (by kernel_rfl) (by kernel_rfl) (by kernel_rfl) (by kernel_rfl) (fun _ _ _ h => h) (Or.inl ⟨by rfl, ?_⟩) (by assumption) ?_
          rotate_left
          (intro w hSw; (try dsimp only at hSw); go_simp; try (with_reducible rfl))
          try simp only [Act.put, List.setIfInBounds_toArray, List.set_cons_zero, List.set_cons_succ]
          refine wpAnyZ_take (i := 8) (v := ?_) rfl (by kernel_rfl) (by kernel_rfl) (by kernel_rfl) (by kernel_rfl) (fun _ _ _ h => h) (Or.inl ⟨by rfl, ?_⟩) (by assumption) ?_
          rotate_left
          (intro w hSw; (try dsimp only at hSw); go_simp; try (with_reducible rfl))
          try simp only [Act.put, List.setIfInBounds_toArray, List.set_cons_zero, List.set_cons_succ]
          refine wpAnyZ_take (i := 9) (v := ?_) rfl (by kernel_rfl) (by kernel_rfl) (by kernel_rfl) (by kernel_rfl) (fun _ _ _ h => h) (Or.inl ⟨by rfl, ?_⟩) (by assumption) ?_
          rotate_left
          (intro w hSw; (try dsimp only at hSw); go_simp; try (with_reducible rfl))
          try simp only [Act.put, List.setIfInBounds_toArray, List.set_cons_zero, List.set_cons_succ]
          refine wpAnyZ_take (i := 10) (v := ?_) rfl (by kernel_rfl) (by kernel_rfl) (by kernel_rfl) (by kernel_rfl) (fun _ _ _ h => h) (Or.inl ⟨by rfl, ?_⟩) (by assumption) ?_
          rotate_left
          (intro w hSw; (try dsimp only at hSw); go_simp; try (with_reducible rfl))
          try simp only [Act.put, List.setIfInBounds_toArray, List.set_cons_zero, List.set_cons_succ]
          refine wpAnyZ_take (i := 11) (v := .int .i64 m) rfl (by kernel_rfl) (by kernel_rfl) (by kernel_rfl) (by kernel_rfl) (fun _ _ _ h => h) (Or.inl ⟨by rfl, ?_⟩) (by assumption) ?_
          · intro w hSw
            (try dsimp only at hSw)
            have hc := hSw.2.cell hv
            rw [updN_same] at hc
            go_simp
          try simp only [Act.put, List.setIfInBounds_toArray, List.set_cons_zero, List.set_cons_succ]
          refine wpAnyZ_take (i := 12) (v := ?_) rfl (by kernel_rfl) (by kernel_rfl) (by kernel_rfl) (by kernel_rfl) (fun _ _ _ h => h) (Or.inl ⟨by rfl, ?_⟩) (by assumption) ?_
          rotate_left
          (intro w hSw; (try dsimp only at hSw); go_simp; try (with_reducible rfl))
          try simp only [Act.put, List.setIfInBounds_toArray, List.set_cons_zero, List.set_cons_succ]
          refine wpAnyZ_take (i := 13) (v := ?_) rfl (by kernel_rfl) (by kernel_rfl) (by kernel_rfl) (by kernel_rfl) (fun _ _ _ h => h) (Or.inl ⟨by rfl, ?_⟩) (by assumption) ?_
          rotate_left
          (intro w hSw; (try dsimp only at hSw); go_simp; try (with_reducible rfl))
          try simp only [Act.put, List.setIfInBounds_toArray, List.set_cons_zero, List.set_cons_succ]
          refine wpAnyZ_take (i := 14) (v := ?_) rfl (by kernel_rfl) (by kernel_rfl) (by kernel_rfl) (by kernel_rfl) (fun _ _ _ h => h) (Or.inl ⟨by rfl, ?_⟩) (by assumption) ?_
          rotate_left
          (intro w hSw; (try dsimp only at hSw); go_simp; try (with_reducible rfl))
          try simp only [Act.put, List.setIfInBounds_toArray, List.set_cons_zero, List.set_cons_succ]
          refine wpAnyZ_take (i := 15) (v := ?_) rfl (by kernel_rfl) (by kernel_rfl) (by kernel_rfl) (by kernel_rfl) (fun _ _ _ h => h) (Or.inl ⟨by rfl, ?_⟩) (by assumption) ?_
          rotate_left
          (intro w hSw; (try dsimp only at hSw); go_simp; try (with_reducible rfl))
          try simp only [Act.put, List.setIfInBounds_toArray, List.set_cons_zero, List.set_cons_succ]
          refine wpAnyZ_take (i := 16) (v := ?_) rfl (by kernel_rfl) (by kernel_rfl) (by kernel_rfl) (by kernel_rfl) (fun _ _ _ h => h) (Or.inl ⟨by rfl, ?_⟩) (by assumption) ?_
          rotate_left
          (intro w hSw; (try dsimp only at hSw); go_simp; try (with_reducible rfl))
          try simp only [Act.put, List.setIfInBounds_toArray, List.set_cons_zero, List.set_cons_succ]
          refine wpAnyZ_take (i := 17) (v := ?_) rfl (by kernel_rfl) (by kernel_rfl) (by kernel_rfl) (by kernel_rfl) (fun _ _ _ h => h) (Or.inl ⟨by rfl, ?_⟩) (by assumption) ?_
          rotate_left
          (intro w hSw; (try dsimp only at hSw); go_simp; try (with_reducible rfl))
          try simp only [Act.put, List.setIfInBounds_toArray, List.set_cons_zero, List.set_cons_succ]
          refine wpAnyZ_step (i := 18) (by kernel_rfl) rfl (fun Kq hK => ?_)
          go_simp
          go_at_call 86
          refine HB.out.mono ?_
          rintro e2 x2 ⟨b, vy2, rt2, ft2, rfl, fo2, or2, bp2, t2, hb2⟩
          refine hK.out _ _ (KS.out _ _ _ _ fo2) (fun hH2 => ?_)
          clear hHeld hK Kq
          have hHeld := hH2
          clear hH2
          try simp only [Act.put, List.setIfInBounds_toArray, List.set_cons_zero, List.set_cons_succ]
          have FO2 := hid fo2
          have OR2 := hid or2
          have BP2 := hid bp2
          have T2 := hid t2
          have HB2 := hid hb2
          have hbn : b < n := Nat.lt_of_le_of_lt (bp2.lt HD.out hun) hun
          clear fo2 or2 bp2 t2 hb2 HB
          refine wpAnyZ_take (i := 19) (v := ?_) rfl (by kernel_rfl) (by kernel_rfl) (by kernel_rfl) (by kernel_rfl) (fun _ _ _ h => h) (Or.inl ⟨by rfl, ?_⟩) (by assumption) ?_
          rotate_left
          (intro w hSw; (try dsimp only at hSw); go_simp; try (with_reducible rfl))
          try simp only [Act.put, List.setIfInBounds_toArray, List.set_cons_zero, List.set_cons_succ]
          refine wpAnyZ_take (i := 20) (v := .int .i64 (updN ls v m b)) rfl (by kernel_rfl) (by kernel_rfl) (by kernel_rfl) (by kernel_rfl) (fun _ _ _ h => h) (Or.inl ⟨by rfl, ?_⟩) (by assumption) ?_
          · intro w hSw
            (try dsimp only at hSw)
            have hc := hSw.2.cell hbn
            go_simp
          try simp only [Act.put, List.setIfInBounds_toArray, List.set_cons_zero, List.set_cons_succ]
          refine wpAnyZ_take (i := 21) (v := ?_) rfl (by kernel_rfl) (by kernel_rfl) (by kernel_rfl) (by kernel_rfl) (fun _ _ _ h => h) (Or.inl ⟨by rfl, ?_⟩) (by assumption) ?_
          rotate_left
          (intro w hSw; (try dsimp only at hSw); go_simp; try (with_reducible rfl))
          try simp only [Act.put, List.setIfInBounds_toArray, List.set_cons_zero, List.set_cons_succ]
          refine wpAnyZ_take (i := 22) (v := ?_) rfl (by kernel_rfl) (by kernel_rfl) (by kernel_rfl) (by kernel_rfl) (fun _ _ _ h => h) (Or.inl ⟨by rfl, ?_⟩) (by assumption) ?_
          rotate_left
          (intro w hSw; (try dsimp only at hSw); go_simp; try (with_reducible rfl))
          try simp only [Act.put, List.setIfInBounds_toArray, List.set_cons_zero, List.set_cons_succ]
          refine wpAnyZ_last (by kernel_rfl) rfl (fun Kq hK => ?_)
          have cz := hHeld.2.cell hv
          rw [updN_same] at cz
          have fz := hHeld.2.fro v
          go_simp
          refine hK.out _ _ ?_
          clear hK Kq
          try simp only [Act.put, List.setIfInBounds_toArray, List.set_cons_zero, List.set_cons_succ]
          clear hHeld cz fz
          refine wpAnyZ_done (by kernel_rfl) (NoPanic.normal ?_) _
          clear KS
          have F3 := hid (FO2.out.setL hv (min m (updN ls v m b)))
          have L3 : Hid (LkS n pf br bl bf E par v A met w1 w _ vy vy2 ls rt2 ft2 (i + 1) (min m (updN ls v m b)) (pr) (done ++ [u])) := HL.out.next HD.out hv HLS.out HE.out HU.out T1.out FO2.out OR2.out BP2.out T2.out HB2.out F3.out.1 F3.out.2 (by rw [if_neg huv])
          clear F1 T1 FO2 OR2 BP2 T2 HB2 F3 HL
          generalize x2.setCell ⟨bl, v, none⟩ (.int .i64 (min m (updN ls v m b))) = w5 at *
          go_wp2_with fail
          go_roundw
          case rel => exact ⟨i + 1, _, vy2, rt2, ft2, _, done ++ [u], by go_num, rfl, by omega, L3.out⟩
          case measure => simp [intOf]; omega
    · have hiL : A.length = i := by omega
      have hif : ¬ ((i : Int) < (A.length : Int)) := by omega
      obtain ⟨e1, s, e2, e3⟩ := HL.out.p.fin HD.out h0 hv (fun u e => by
        obtain ⟨x, hx, hu⟩ := (HEE.out u).1 e
        exact HL.out.d u x hu (by rw [← hiL, List.take_length]; exact hx))
      subst e1 e2
      have SD := hid e3
      clear e3 hiL
      go_wp2_with fail
      go_ret
      exact ⟨s, vz, rt, ft, rfl, HL.out.f, HL.out.o, SD.out, HL.out.t, HL.out.b⟩
end Go.Proofs.YthniccegnbadpaaDoor


/- settle. -/
set_option linter.unusedSimpArgs false
set_option linter.unusedVariables false
namespace Go.Proofs.YthniccegnbadpaaDoor
open Go.RowKit Go.Sort Go.Maps

/-- While those that wait are told their nearest ones. -/
structure StS (n pf br bl bf nb : Nat) (E : Nat → Nat → Prop) (par : Nat → Nat) (k : Nat) (Wl : List Int) (w1 w wr : World) (vy vz : Value) (ls rt ft nr nr' : Nat → Int) (i : Nat) : Prop where
  f : Fo n pf br bl bf w1 wr vz rt ls ft
  o : For n par k rt ls ft
  a : Ar n wr nb nr'
  s : ∀ q : Nat, (q : Int) ∈ Wl.take i → Stl E par ls nr' q
  m : ∀ q : Nat, ¬ (q : Int) ∈ Wl.take i → nr' q = nr q
  t : Tch (nb :: pf :: br :: bf :: blks vy) w wr
  b : ∀ q ∈ blks vz, q ∈ blks vy ∨ w.heap.size ≤ q
theorem StS.next {n pf br bl bf nb : Nat} {E : Nat → Nat → Prop} {par : Nat → Nat} {k : Nat} {Wl : List Int} {w1 w wr wa wb wd : World} {vy vz vz2 : Value} {ls rt ft rt2 ft2 nr nr' nr2 : Nat → Int} {i q : Nat}
    (h : StS n pf br bl bf nb E par k Wl w1 w wr vy vz ls rt ft nr nr' i) (hq : Wl[i]? = some (q : Int)) (ta : Tch [nb] wr wa) (tb : Tch (pf :: br :: bf :: blks vz) wa wb) (hb : ∀ z ∈ blks vz2, z ∈ blks vz ∨ wa.heap.size ≤ z) (tc : Tch [nb] wb wd)
    (f2 : Fo n pf br bl bf w1 wd vz2 rt2 ls ft2) (o2 : For n par k rt2 ls ft2) (a2 : Ar n wd nb nr2) (hs : Stl E par ls nr2 q) (hn : ∀ z, ¬ z = q → nr2 z = nr' z) : StS n pf br bl bf nb E par k Wl w1 w wd vy vz2 ls rt2 ft2 nr nr2 (i + 1) := by
  obtain ⟨hil, hx⟩ := List.getElem?_eq_some_iff.1 hq
  have et := List.take_succ_eq_append_getElem hil
  rw [hx] at et
  have sz := h.t.size
  have sza := ta.size
  have tt : Tch (nb :: pf :: br :: bf :: blks vz) wr wd := ((ta.mono (S' := nb :: pf :: br :: bf :: blks vz) (by simp)).trans (tb.mono (fun z hz => by simp at hz ⊢; exact .inr hz))).trans (tc.mono (by simp))
  refine ⟨f2, o2, a2, fun z hz => ?_, fun z hz => ?_, h.t.trans2 tt (fun z hz => ?_), fun z hz => ?_⟩
  · rw [et] at hz
    by_cases e : z = q
    · subst e; exact hs
    · rcases List.mem_append.1 hz with hz | hz
      · have := h.s z hz
        unfold Stl at this ⊢
        rw [hn z e]; exact this
      · simp at hz; omega
  · rw [et] at hz
    simp only [List.mem_append, List.mem_singleton, not_or] at hz
    rw [hn z (by omega)]; exact h.m z hz.1
  · simp only [List.mem_cons] at hz ⊢
    rcases hz with h1 | h1 | h1 | h1 | h1
    · exact .inl (.inl h1)
    · exact .inl (.inr (.inl h1))
    · exact .inl (.inr (.inr (.inl h1)))
    · exact .inl (.inr (.inr (.inr (.inl h1))))
    · rcases h.b z h1 with h1 | h1
      · exact .inl (.inr (.inr (.inr (.inr h1))))
      · exact .inr h1
  · rcases hb z hz with h1 | h1
    · exact h.b z h1
    · exact .inr (by omega)
/-- What settle leaves. -/
def SttP (n pf br bl bf nb : Nat) (E : Nat → Nat → Prop) (par : Nat → Nat) (k : Nat) (Wl : List Int) (w1 w w' : World) (vy : Value) (ls nr : Nat → Int) (e : Ending) : Prop := ∃ vz rt ft nr', e = .returned (.tuple #[]) ∧ StS n pf br bl bf nb E par k Wl w1 w w' vy vz ls rt ft nr nr' Wl.length
set_option maxRecDepth 100000 in
set_option maxHeartbeats 4000000 in
/-- **settle.** -/
theorem settle_any {n pf br bl bf nb : Nat} {E : Nat → Nat → Prop} {par : Nat → Nat} {k : Nat} {Wl : List Int} {w1 w : World} {vy vw : Value} {ls rt ft nr : Nat → Int} (hd : Dfo n E par) (hn : n ≤ 900) (h : Fo n pf br bl bf w1 w vy rt ls ft) (fo : For n par k rt ls ft) (hl : Lsd n E k ls) (h0 : 0 < k) (hk : k < n)
    (hs : Sl w 3 1 vw Wl.length (ivals Wl)) (hWl : Wl.length ≤ 1000) (hW : ∀ x ∈ Wl, ∃ q : Nat, x = q ∧ k ≤ q ∧ q < n ∧ ls q = (par k : Nat)) (ha : Ar n w nb nr) (hb1 : w1.heap.size ≤ nb) (ap : ¬ nb ∈ pf :: br :: bl :: bf :: blks vy) (ap2 : ∀ q ∈ blks vw, ¬ q ∈ nb :: pf :: br :: bf :: blks vy) :
    Calls Tryd.prog 68 #[.pointer (some ⟨pf, 0, none⟩), .slice (some ⟨nb, 0, none⟩) n n, vw, .int .i64 (par k : Nat)] w fun e w' => SttP n pf br bl bf nb E par k Wl w1 w w' vy ls nr e := by
  obtain ⟨aa, ac, hva⟩ := hs.shape
  subst hva
  have HNBL := hid ha.lt
  have S0 : Hid (StS n pf br bl bf nb E par k Wl w1 w w vy vy ls rt ft nr nr 0) := ⟨h, fo, ha, by simp, fun _ _ => rfl, Tch.refl _ _, fun q hq => .inl hq⟩
  have HD := hid hd
  have HLS := hid hl
  have HS := hid hs
  have HW := hid hW
  have AP := hid ap
  have AP2 := hid ap2
  have HB1 := hid hb1
  clear h fo hl hs hW ap ap2 ha hb1 hd
  obtain ⟨pk, hpk⟩ : ∃ pk, par k = pk := ⟨_, rfl⟩
  have HPK := hid hpk
  rw [hpk]
  clear hpk
  go_enter Tryd.func68, Tryd.ntmps68
  go_wp2_with fail
  go_loopw [9, 10, 13] (fun _ _ vi wr => ∃ (i : Nat) (vz : Value) (rt ft nr' : Nat → Int), vi = .int .i64 i ∧ i ≤ Wl.length ∧ Hid (StS n pf br bl bf nb E par k Wl w1 w wr vy vz ls rt ft nr nr' i)) (fun _ _ vi _ => Wl.length - (intOf vi).toNat)
  case atStart => exact ⟨0, vy, rt, ft, nr, rfl, Nat.zero_le _, S0.out⟩
  case round =>
    obtain ⟨i, vz, rt, ft, nr', rfl, hi, HI⟩ := hrel
    clear S0
    by_cases hlt : i < Wl.length
    · have hx0 : Wl[i]? = some Wl[i] := by simp [hlt]
      obtain ⟨q, hq, hq1, hq2, hq3⟩ := HW.out Wl[i] (List.getElem_mem hlt)
      rw [hq] at hx0
      have HX := hid hx0
      have HQ1 := hid hq1
      have HQ3 := hid hq3
      obtain ⟨b, off, c, hv2⟩ := HS.out.ptr (Nat.zero_lt_of_lt hlt)
      cases hv2
      have cx := ((HS.out.kept HI.out.t (fun z hz => AP2.out z hz)).cell).2.1 i (.int .i64 q) (by simp [ivals, hx0])
      have cn := HI.out.a.cell hq2
      have fn := HI.out.a.fro q
      have NB : Hid (¬ nb ∈ blks vz) := fun h1 => by
        rcases HI.out.b nb h1 with h2 | h2
        · exact AP.out (by simp [h2])
        · have := HNBL.out; omega
      clear hx0 hq hq1 hq3
      go_upto_region 4 with fail
      obtain ⟨A2, ta⟩ := HI.out.a.set hq2 (pk : Int)
      have AA := hid A2
      have TA := hid ta
      have FA : Hid (Fo n pf br bl bf w1 (wr.setCell ⟨nb, q, none⟩ (.int .i64 (pk : Int))) vz rt ls ft) := HI.out.f.kept ta (fun z hz => by
        simp at hz; subst hz
        have := AP.out
        simp only [List.mem_cons, not_or] at this
        exact ⟨HB1.out, this.1, this.2.1, this.2.2.1, this.2.2.2.1, NB.out⟩)
      clear cx cn fn A2 ta
      generalize wr.setCell ⟨nb, q, none⟩ (.int .i64 (pk : Int)) = wa at *
      have HBB := hid (best_any HD.out hn FA.out HI.out.o hq2)
      go_upto_region 5 with (go_at_call 86; refine HBB.out.mono ?_; rintro e2 wb ⟨b2, vz2, rt2, ft2, rfl, f2, o2, bp, tb, hb2⟩; have F2 := hid f2; have O2 := hid o2; have BP := hid bp; have TB := hid tb; have HB2 := hid hb2; have hb2n : b2 < n := Nat.lt_of_le_of_lt (bp.lt HD.out hq2) hq2; clear f2 o2 bp tb hb2)
      clear HBB FA
      obtain ⟨c0, c1, c2, c3, cf⟩ := F2.out.cells
      have cb := F2.out.l.cell hb2n
      have cq := F2.out.l.cell hq2
      have AB := hid (AA.out.kept TB.out (fun h1 => by
        simp only [List.mem_cons] at h1
        have := AP.out
        simp only [List.mem_cons, not_or] at this
        rcases h1 with h1 | h1 | h1 | h1
        · exact this.1 h1
        · exact this.2.1 h1
        · exact this.2.2.2.1 h1
        · exact NB.out h1))
      have ST := hid (stl_of (k := k) HD.out HLS.out h0 HQ1.out hq2 HQ3.out hk BP.out (updN nr' q (pk : Int)))
      by_cases hless : ls b2 < ls q
      · have hdl : decide (ls b2 < ls q) = true := by simpa using hless
        have HLE := hid hless
        clear hless
        go_wp2_with fail
        go_quiet (fail)
        go_upto_region 6 with fail
        have F3 := hid (F2.out.tch ((Tch.refl [] wb).drewN nq))
        have A3 := hid (AB.out.kept ((Tch.refl [] wb).drewN nq) (by simp))
        have TC := hid ((Tch.refl [] wb).drewN nq)
        clear c0 c1 c2 c3 cf cb cq F2 AB AA
        generalize wb.drewN nq = wc at *
        have cn := A3.out.cell hq2
        have fn := A3.out.fro q
        obtain ⟨A4, td⟩ := A3.out.set hq2 (b2 : Int)
        have SN : Hid (StS n pf br bl bf nb E par k Wl w1 w (wc.setCell ⟨nb, q, none⟩ (.int .i64 (b2 : Int))) vy vz2 ls rt2 ft2 nr (updN (updN nr' q (pk : Int)) q (b2 : Int)) (i + 1)) := HI.out.next HX.out TA.out TB.out HB2.out ((TC.out.mono (by simp)).trans td) (F3.out.kept td (fun z hz => by
            simp at hz; subst hz
            have := AP.out
            simp only [List.mem_cons, not_or] at this
            refine ⟨HB1.out, this.1, this.2.1, this.2.2.1, this.2.2.2.1, fun h1 => ?_⟩
            rcases HB2.out z h1 with h2 | h2
            · exact NB.out h2
            · have := HNBL.out; have := HI.out.t.size; have := TA.out.size; omega)) O2.out A4 (by have := ST.out; rw [if_pos HLE.out] at this; exact this) (fun z hz => by rw [updN_other _ _ hz, updN_other _ _ hz])
        clear A4 td
        go_wp2_with fail
        go_roundw
        case rel => exact ⟨i + 1, vz2, rt2, ft2, _, by go_num, by omega, SN.out⟩
        case measure => simp [intOf]; omega
      · have hdl : decide (ls b2 < ls q) = false := by simpa using hless
        have HLE : Hid (¬ ls b2 < ls q) := hless
        clear hless
        go_wp2_with fail
        go_quiet (fail)
        have SN : Hid (StS n pf br bl bf nb E par k Wl w1 w (wb.drewN nq) vy vz2 ls rt2 ft2 nr (updN nr' q (pk : Int)) (i + 1)) := HI.out.next HX.out TA.out TB.out HB2.out ((Tch.refl _ wb).drewN nq) (F2.out.tch ((Tch.refl [] wb).drewN nq)) O2.out (AB.out.kept ((Tch.refl [] wb).drewN nq) (by simp)) (by
          have := ST.out
          rw [if_neg (by have := HLE.out; omega), HPK.out] at this
          have e : updN (updN nr' q (pk : Int)) q (pk : Int) = updN nr' q (pk : Int) := by funext z; unfold updN; split <;> rfl
          rw [e] at this; exact this) (fun z hz => by rw [updN_other _ _ hz])
        clear c0 c1 c2 c3 cf cb cq F2 AB AA
        go_wp2_with fail
        go_roundw
        case rel => exact ⟨i + 1, vz2, rt2, ft2, _, by go_num, by omega, SN.out⟩
        case measure => simp [intOf]; omega
    · have hiL : Wl.length = i := by omega
      have hif : ¬ ((i : Int) < (Wl.length : Int)) := by omega
      have HE := hid hiL
      clear hiL
      go_wp2_with fail
      go_end0
      exact ⟨vz, rt, ft, nr', rfl, by rw [HE.out]; exact HI.out⟩
end Go.Proofs.YthniccegnbadpaaDoor


/- planted. -/
set_option linter.unusedSimpArgs false
set_option linter.unusedVariables false
namespace Go.Proofs.YthniccegnbadpaaDoor
open Go.RowKit Go.Sort Go.Maps

theorem fo_made (n : Nat) (w : World) (br bl bf : Nat) (X : World)
    (hX : Tch [] ((((w.alloc (.cells (madeCells #[.int .i64 0] n) 3)).alloc (.cells (madeCells #[.int .i64 0] n) 3)).alloc (.cells (madeCells #[.int .i64 0] n) 3)).alloc (.cells #[.slice (some ⟨br, 0, none⟩) n n, .slice (some ⟨bl, 0, none⟩) n n, .slice (some ⟨bf, 0, none⟩) n n, .slice none 0 0] 128)) X) (hp : (br = w.heap.size ∧ bl = w.heap.size + 1 ∧ bf = w.heap.size + 1 + 1) ∨ (br = w.heap.size ∧ bl = w.heap.size + 1 + 1 ∧ bf = w.heap.size + 1) ∨ (br = w.heap.size + 1 ∧ bl = w.heap.size ∧ bf = w.heap.size + 1 + 1) ∨ (br = w.heap.size + 1 + 1 ∧ bl = w.heap.size ∧ bf = w.heap.size + 1) ∨ (br = w.heap.size + 1 ∧ bl = w.heap.size + 1 + 1 ∧ bf = w.heap.size) ∨ (br = w.heap.size + 1 + 1 ∧ bl = w.heap.size + 1 ∧ bf = w.heap.size)) :
    Fo n (w.heap.size + 1 + 1 + 1) br bl bf w X (.slice none 0 0) (fun _ => 0) (fun _ => 0) (fun _ => 0) := by
  have A : ∀ b, b = w.heap.size ∨ b = w.heap.size + 1 ∨ b = w.heap.size + 1 + 1 → Ar n X b (fun _ => 0) := fun b hb => by
    refine Ar.kept (S := []) (ar_made n ?_) hX (by simp)
    rcases hb with rfl | rfl | rfl
    · exact (((Tch.refl [] _).alloc _).alloc _).alloc _ |>.obj (heap_alloc_new w _) (by simp)
    · have := heap_alloc_new (w.alloc (.cells (madeCells #[.int .i64 0] n) 3)) (.cells (madeCells #[.int .i64 0] n) 3)
      rw [show (w.alloc (.cells (madeCells #[.int .i64 0] n) 3)).heap.size = w.heap.size + 1 by simp] at this
      exact ((Tch.refl [] _).alloc _).alloc _ |>.obj this (by simp)
    · have := heap_alloc_new ((w.alloc (.cells (madeCells #[.int .i64 0] n) 3)).alloc (.cells (madeCells #[.int .i64 0] n) 3)) (.cells (madeCells #[.int .i64 0] n) 3)
      rw [show ((w.alloc (.cells (madeCells #[.int .i64 0] n) 3)).alloc (.cells (madeCells #[.int .i64 0] n) 3)).heap.size = w.heap.size + 1 + 1 by simp] at this
      exact (Tch.refl [] _).alloc _ |>.obj this (by simp)
  have O := heap_alloc_new (((w.alloc (.cells (madeCells #[.int .i64 0] n) 3)).alloc (.cells (madeCells #[.int .i64 0] n) 3)).alloc (.cells (madeCells #[.int .i64 0] n) 3)) (.cells #[.slice (some ⟨br, 0, none⟩) n n, .slice (some ⟨bl, 0, none⟩) n n, .slice (some ⟨bf, 0, none⟩) n n, .slice none 0 0] 128)
  rw [show (((w.alloc (.cells (madeCells #[.int .i64 0] n) 3)).alloc (.cells (madeCells #[.int .i64 0] n) 3)).alloc (.cells (madeCells #[.int .i64 0] n) 3)).heap.size = w.heap.size + 1 + 1 + 1 by simp] at O
  have T : Tch [] w X := ((((Tch.refl [] w).alloc _).alloc _).alloc _).alloc _ |>.trans hX
  exact ⟨hX.obj O (by simp), A _ (by omega), A _ (by omega), A _ (by omega), ⟨0, [], Nat.zero_le _, Sl.nil _ _ _⟩, T, ⟨by omega, by omega, by omega, by omega⟩, ⟨⟨by omega, by omega, by omega⟩, by omega, by omega, by omega⟩, by simp [blks]⟩
/-- What planted leaves. -/
def PltP (n : Nat) (w w' : World) (e : Ending) : Prop := ∃ pf br bl bf, e = .returned (.pointer (some ⟨pf, 0, none⟩)) ∧ Fo n pf br bl bf w w' (.slice none 0 0) (fun _ => -1) (fun x => x) (fun x => x)
set_option maxRecDepth 100000 in
set_option maxHeartbeats 4000000 in
/-- **planted.** -/
theorem planted_any (n : Nat) (hn : n ≤ 900) (w : World) : Calls Tryd.prog 66 #[.int .i64 n] w fun e w' => PltP n w w' e := by
  have hmo : Tryd.prog.follows .mixedOrders = true := by kernel_rfl
  have hmk := fun w => run_make_row' (P := Tryd.prog) 40 3 (.int .i64 0) 8 Tryd.underlying40 (by kernel_rfl) rfl .i64 .i64 n (by omega) (by omega) w
  go_enter Tryd.func66, Tryd.ntmps66
  go_upto_region 1 with fail
  go_cut [3] from 5 to 12 (fun p wx => ∃ pf br bl bf, p = .pointer (some ⟨pf, 0, none⟩) ∧ Hid (Fo n pf br bl bf w wx (.slice none 0 0) (fun _ => 0) (fun _ => 0) (fun _ => 0)))
  case first =>
    go_region
    all_goals (go_wp2_with fail; go_meet)
    all_goals refine ⟨_, ?_, ?_, ?_, rfl, fo_made n w _ _ _ _ ?_ ?_⟩
    all_goals try (first | exact Tch.refl _ _ | exact (Tch.refl [] _).drew | exact (Tch.refl [] _).drew.drew | exact (Tch.refl [] _).drewN _)
    all_goals simp
  case rest =>
    obtain ⟨pf, br, bl, bf, rfl, F0⟩ := hcut
    clear hmk
    go_wp2_with fail
    go_loopw [4, 14] (fun _ vi wr => ∃ (i : Nat) (rt ls ft : Nat → Int), vi = .int .i64 i ∧ i ≤ n ∧ Hid (Fo n pf br bl bf w wr (.slice none 0 0) rt ls ft ∧ ∀ x, x < i → rt x = -1 ∧ ls x = x ∧ ft x = x)) (fun _ vi _ => n - (intOf vi).toNat)
    case atStart => exact ⟨0, _, _, _, rfl, Nat.zero_le _, F0.out, fun x hx => by omega⟩
    case round =>
      obtain ⟨i, rt, ls, ft, rfl, hi, HI⟩ := hrel
      clear F0
      by_cases hlt : i < n
      · go_upto_region 5 with fail
        have FA := hid (HI.out.1.tch ((Tch.refl [] wr).drew))
        have KS : Hid (∀ (W : World) (r2 l2 f2 : Nat → Int), Fo n pf br bl bf w W (.slice none 0 0) r2 l2 f2 → W.cell? ⟨pf, 0, none⟩ = some (.slice (some ⟨br, 0, none⟩) n n) ∧ W.cell? ⟨pf, 1, none⟩ = some (.slice (some ⟨bl, 0, none⟩) n n) ∧ W.cell? ⟨pf, 2, none⟩ = some (.slice (some ⟨bf, 0, none⟩) n n)) := fun W r2 l2 f2 h => ⟨h.cells.1, h.cells.2.1, h.cells.2.2.1⟩
        refine wp_region_z (fun w' => w'.cell? ⟨pf, 0, none⟩ = some (.slice (some ⟨br, 0, none⟩) n n) ∧ w'.cell? ⟨pf, 1, none⟩ = some (.slice (some ⟨bl, 0, none⟩) n n) ∧ w'.cell? ⟨pf, 2, none⟩ = some (.slice (some ⟨bf, 0, none⟩) n n)) 22 hmo (KS.out _ _ _ _ FA.out) (fun hHeld => ?_)
        generalize hx0 : wr.drew = x0 at *
        refine wpAnyZ_take (i := 0) (v := ?_) rfl (by kernel_rfl) (by kernel_rfl) (by kernel_rfl) (by kernel_rfl) (fun _ _ _ h => h) (Or.inl ⟨by rfl, ?_⟩) (by assumption) ?_
        rotate_left
        (intro w hSw; (try dsimp only at hSw); go_simp; try (with_reducible rfl))
        try simp only [Act.put, List.setIfInBounds_toArray, List.set_cons_zero, List.set_cons_succ]
        refine wpAnyZ_take (i := 1) (v := ?_) rfl (by kernel_rfl) (by kernel_rfl) (by kernel_rfl) (by kernel_rfl) (fun _ _ _ h => h) (Or.inl ⟨by rfl, ?_⟩) (by assumption) ?_
        rotate_left
        (intro w hSw; (try dsimp only at hSw); go_simp; try (with_reducible rfl))
        try simp only [Act.put, List.setIfInBounds_toArray, List.set_cons_zero, List.set_cons_succ]
        refine wpAnyZ_take (i := 2) (v := ?_) rfl (by kernel_rfl) (by kernel_rfl) (by kernel_rfl) (by kernel_rfl) (fun _ _ _ h => h) (Or.inl ⟨by rfl, ?_⟩) (by assumption) ?_
        rotate_left
        (intro w hSw; (try dsimp only at hSw); go_simp; try (with_reducible rfl))
        try simp only [Act.put, List.setIfInBounds_toArray, List.set_cons_zero, List.set_cons_succ]
        refine wpAnyZ_take (i := 3) (v := ?_) rfl (by kernel_rfl) (by kernel_rfl) (by kernel_rfl) (by kernel_rfl) (fun _ _ _ h => h) (Or.inl ⟨by rfl, ?_⟩) (by assumption) ?_
        rotate_left
        (intro w hSw; (try dsimp only at hSw); go_simp; try (with_reducible rfl))
        try simp only [Act.put, List.setIfInBounds_toArray, List.set_cons_zero, List.set_cons_succ]
        refine wpAnyZ_take (i := 4) (v := ?_) rfl (by kernel_rfl) (by kernel_rfl) (by kernel_rfl) (by kernel_rfl) (fun _ _ _ h => h) (Or.inl ⟨by rfl, ?_⟩) (by assumption) ?_
        rotate_left
        (intro w hSw; (try dsimp only at hSw); go_simp; try (with_reducible rfl))
        try simp only [Act.put, List.setIfInBounds_toArray, List.set_cons_zero, List.set_cons_succ]
        refine wpAnyZ_take (i := 5) (v := ?_) rfl (by kernel_rfl) (by kernel_rfl) (by kernel_rfl) (by kernel_rfl) (fun _ _ _ h => h) (Or.inl ⟨by rfl, ?_⟩) (by assumption) ?_
        rotate_left
        (intro w hSw; (try dsimp only at hSw); go_simp; try (with_reducible rfl))
        try simp only [Act.put, List.setIfInBounds_toArray, List.set_cons_zero, List.set_cons_succ]
        refine wpAnyZ_take (i := 6) (v := ?_) rfl (by kernel_rfl) (by kernel_rfl) (by kernel_rfl) (by kernel_rfl) (fun _ _ _ h => h) (Or.inl ⟨by rfl, ?_⟩) (by assumption) ?_
        rotate_left
        (intro w hSw; (try dsimp only at hSw); go_simp; try (with_reducible rfl))
        try simp only [Act.put, List.setIfInBounds_toArray, List.set_cons_zero, List.set_cons_succ]
        refine wpAnyZ_take (i := 7) (v := ?_) rfl (by kernel_rfl) (by kernel_rfl) (by kernel_rfl) (by kernel_rfl) (fun _ _ _ h => h) (Or.inl ⟨by rfl, ?_⟩) (by assumption) ?_
        rotate_left
        (intro w hSw; (try dsimp only at hSw); go_simp; try (with_reducible rfl))
        try simp only [Act.put, List.setIfInBounds_toArray, List.set_cons_zero, List.set_cons_succ]
        refine wpAnyZ_take (i := 8) (v := ?_) rfl (by kernel_rfl) (by kernel_rfl) (by kernel_rfl) (by kernel_rfl) (fun _ _ _ h => h) (Or.inl ⟨by rfl, ?_⟩) (by assumption) ?_
        rotate_left
        (intro w hSw; (try dsimp only at hSw); go_simp; try (with_reducible rfl))
        try simp only [Act.put, List.setIfInBounds_toArray, List.set_cons_zero, List.set_cons_succ]
        refine wpAnyZ_take (i := 9) (v := ?_) rfl (by kernel_rfl) (by kernel_rfl) (by kernel_rfl) (by kernel_rfl) (fun _ _ _ h => h) (Or.inl ⟨by rfl, ?_⟩) (by assumption) ?_
        rotate_left
        (intro w hSw; (try dsimp only at hSw); go_simp; try (with_reducible rfl))
        try simp only [Act.put, List.setIfInBounds_toArray, List.set_cons_zero, List.set_cons_succ]
        refine wpAnyZ_take (i := 10) (v := ?_) rfl (by kernel_rfl) (by kernel_rfl) (by kernel_rfl) (by kernel_rfl) (fun _ _ _ h => h) (Or.inl ⟨by rfl, ?_⟩) (by assumption) ?_
        rotate_left
        (intro w hSw; (try dsimp only at hSw); go_simp; try (with_reducible rfl))
        try simp only [Act.put, List.setIfInBounds_toArray, List.set_cons_zero, List.set_cons_succ]
        refine wpAnyZ_take (i := 11) (v := ?_) rfl (by kernel_rfl) (by kernel_rfl) (by kernel_rfl) (by kernel_rfl) (fun _ _ _ h => h) (Or.inl ⟨by rfl, ?_⟩) (by assumption) ?_
        rotate_left
        (intro w hSw; (try dsimp only at hSw); go_simp; try (with_reducible rfl))
        try simp only [Act.put, List.setIfInBounds_toArray, List.set_cons_zero, List.set_cons_succ]
        refine wpAnyZ_take (i := 12) (v := ?_) rfl (by kernel_rfl) (by kernel_rfl) (by kernel_rfl) (by kernel_rfl) (fun _ _ _ h => h) (Or.inl ⟨by rfl, ?_⟩) (by assumption) ?_
        rotate_left
        (intro w hSw; (try dsimp only at hSw); go_simp; try (with_reducible rfl))
        try simp only [Act.put, List.setIfInBounds_toArray, List.set_cons_zero, List.set_cons_succ]
        refine wpAnyZ_take (i := 13) (v := ?_) rfl (by kernel_rfl) (by kernel_rfl) (by kernel_rfl) (by kernel_rfl) (fun _ _ _ h => h) (Or.inl ⟨by rfl, ?_⟩) (by assumption) ?_
        rotate_left
        (intro w hSw; (try dsimp only at hSw); go_simp; try (with_reducible rfl))
        try simp only [Act.put, List.setIfInBounds_toArray, List.set_cons_zero, List.set_cons_succ]
        refine wpAnyZ_take (i := 14) (v := ?_) rfl (by kernel_rfl) (by kernel_rfl) (by kernel_rfl) (by kernel_rfl) (fun _ _ _ h => h) (Or.inl ⟨by rfl, ?_⟩) (by assumption) ?_
        rotate_left
        (intro w hSw; (try dsimp only at hSw); go_simp; try (with_reducible rfl))
        try simp only [Act.put, List.setIfInBounds_toArray, List.set_cons_zero, List.set_cons_succ]
        refine wpAnyZ_take (i := 15) (v := ?_) rfl (by kernel_rfl) (by kernel_rfl) (by kernel_rfl) (by kernel_rfl) (fun _ _ _ h => h) (Or.inl ⟨by rfl, ?_⟩) (by assumption) ?_
        rotate_left
        (intro w hSw; (try dsimp only at hSw); go_simp; try (with_reducible rfl))
        try simp only [Act.put, List.setIfInBounds_toArray, List.set_cons_zero, List.set_cons_succ]
        refine wpAnyZ_take (i := 16) (v := ?_) rfl (by kernel_rfl) (by kernel_rfl) (by kernel_rfl) (by kernel_rfl) (fun _ _ _ h => h) (Or.inl ⟨by rfl, ?_⟩) (by assumption) ?_
        rotate_left
        (intro w hSw; (try dsimp only at hSw); go_simp; try (with_reducible rfl))
        try simp only [Act.put, List.setIfInBounds_toArray, List.set_cons_zero, List.set_cons_succ]
        refine wpAnyZ_take (i := 17) (v := ?_) rfl (by kernel_rfl) (by kernel_rfl) (by kernel_rfl) (by kernel_rfl) (fun _ _ _ h => h) (Or.inl ⟨by rfl, ?_⟩) (by assumption) ?_
        rotate_left
        (intro w hSw; (try dsimp only at hSw); go_simp; try (with_reducible rfl))
        try simp only [Act.put, List.setIfInBounds_toArray, List.set_cons_zero, List.set_cons_succ]
        refine wpAnyZ_step (i := 18) (by kernel_rfl) rfl (fun Kq hK => ?_)
        have cz := FA.out.r.cell hlt
        have fz := FA.out.r.fro i
        go_simp
        refine hK.out _ _ (KS.out _ _ _ _ (FA.out.setR hlt (-1)).1) (fun hH2 => ?_)
        clear hHeld hK Kq
        have hHeld := hH2
        clear hH2
        try simp only [Act.put, List.setIfInBounds_toArray, List.set_cons_zero, List.set_cons_succ]
        have FB := hid (FA.out.setR hlt (-1)).1
        clear FA cz fz
        generalize x0.setCell ⟨br, i, none⟩ (.int .i64 (-1)) = x1 at *
        refine wpAnyZ_take (i := 19) (v := ?_) rfl (by kernel_rfl) (by kernel_rfl) (by kernel_rfl) (by kernel_rfl) (fun _ _ _ h => h) (Or.inl ⟨by rfl, ?_⟩) (by assumption) ?_
        rotate_left
        (intro w hSw; (try dsimp only at hSw); go_simp; try (with_reducible rfl))
        try simp only [Act.put, List.setIfInBounds_toArray, List.set_cons_zero, List.set_cons_succ]
        refine wpAnyZ_step (i := 20) (by kernel_rfl) rfl (fun Kq hK => ?_)
        have cz := FB.out.l.cell hlt
        have fz := FB.out.l.fro i
        go_simp
        refine hK.out _ _ (KS.out _ _ _ _ (FB.out.setL hlt (i : Int)).1) (fun hH2 => ?_)
        clear hHeld hK Kq
        have hHeld := hH2
        clear hH2
        try simp only [Act.put, List.setIfInBounds_toArray, List.set_cons_zero, List.set_cons_succ]
        have FC := hid (FB.out.setL hlt (i : Int)).1
        clear FB cz fz
        generalize x1.setCell ⟨bl, i, none⟩ (.int .i64 (i : Int)) = x2 at *
        refine wpAnyZ_take (i := 21) (v := ?_) rfl (by kernel_rfl) (by kernel_rfl) (by kernel_rfl) (by kernel_rfl) (fun _ _ _ h => h) (Or.inl ⟨by rfl, ?_⟩) (by assumption) ?_
        rotate_left
        (intro w hSw; (try dsimp only at hSw); go_simp; try (with_reducible rfl))
        try simp only [Act.put, List.setIfInBounds_toArray, List.set_cons_zero, List.set_cons_succ]
        refine wpAnyZ_last (by kernel_rfl) rfl (fun Kq hK => ?_)
        have cz := FC.out.f.cell hlt
        have fz := FC.out.f.fro i
        go_simp
        refine hK.out _ _ ?_
        clear hK Kq
        try simp only [Act.put, List.setIfInBounds_toArray, List.set_cons_zero, List.set_cons_succ]
        clear hHeld cz fz
        refine wpAnyZ_done (by kernel_rfl) (NoPanic.normal ?_) _
        clear KS
        have FD := hid (FC.out.setF hlt (i : Int)).1
        have FX := hid HI.out.2
        clear FC HI
        generalize x2.setCell ⟨bf, i, none⟩ (.int .i64 (i : Int)) = x3 at *
        go_wp2_with fail
        go_roundw
        case rel =>
          refine ⟨i + 1, _, _, _, by go_num, by omega, FD.out, fun x hx => ?_⟩
          by_cases e : x = i
          · subst e; simp [updN_same]
          · rw [updN_other _ _ e, updN_other _ _ e, updN_other _ _ e]; exact FX.out x (by omega)
        case measure => simp [intOf]; omega
      · have hif : ¬ ((i : Int) < (n : Int)) := by omega
        have HE := hid (show n ≤ i by omega)
        go_wp2_with fail
        go_ret
        obtain ⟨⟨o, r, l, f, y, t, g, ne, hy⟩, k⟩ := HI.out
        have hz := HE.out
        exact ⟨pf, br, bl, bf, rfl, o, r.cong (fun x hx => (k x (by omega)).1), l.cong (fun x hx => (k x (by omega)).2.1), f.cong (fun x hx => (k x (by omega)).2.2), y, t, g, ne, hy⟩
end Go.Proofs.YthniccegnbadpaaDoor


/- What nearest keeps in memory. -/
set_option linter.unusedSimpArgs false
set_option linter.unusedVariables false
namespace Go.Proofs.YthniccegnbadpaaDoor
open Go.RowKit Go.Sort Go.Maps

theorem Fo.base {n pf br bl bf : Nat} {w0 w1 w : World} {vy : Value} {rt ls ft : Nat → Int} (h : Fo n pf br bl bf w1 w vy rt ls ft) (t : Tch [] w0 w1) : Fo n pf br bl bf w0 w vy rt ls ft := by
  obtain ⟨o, r, l, f, y, t0, g, ne, hy⟩ := h
  have sz := t.size
  exact ⟨o, r, l, f, y, t.trans t0, ⟨by omega, by omega, by omega, by omega⟩, ne, fun k hk => ⟨by have := (hy k hk).1; omega, (hy k hk).2⟩⟩
/-- One list of a row of lists is another one. -/
theorem Rws.row {n lo : Nat} {w : World} {lb : Nat} {vL : Int → Value} {L : Int → List Int} {i : Nat} (h : Rws n lo w lb vL L) (hlb : lb < lo) (hls : lo ≤ w.heap.size) (hi : i < n) {v : Value} {l : List Int} {w1 : World} (s : Sl w1 3 1 v l.length (ivals l)) (t : Tch (blks (vL (i : Int))) w w1) (hb : ∀ k ∈ blks v, k ∈ blks (vL (i : Int)) ∨ w.heap.size ≤ k) :
    Rws n lo (w1.setCell ⟨lb, i, none⟩ v) lb (upd vL (i : Int) v) (upd L (i : Int) l) ∧ Tch (lb :: blks (vL (i : Int))) w (w1.setCell ⟨lb, i, none⟩ v) := by
  have lr : ∀ x, ∀ k ∈ blks (vL x), k < w.heap.size := fun x => (h.r x).lt
  have kv : ∀ k ∈ blks v, lo ≤ k := fun k hk => by
    rcases hb k hk with h3 | h3
    · exact h.k i k h3
    · omega
  have tt : Tch (lb :: blks (vL (i : Int))) w (w1.setCell ⟨lb, i, none⟩ v) := (t.mono (fun x hx => by simp [hx])).setCell (p := ⟨lb, i, none⟩) (.inl (by simp)) v
  have t2 : Tch [lb] w1 (w1.setCell ⟨lb, i, none⟩ v) := (Tch.refl _ w1).setCell (p := ⟨lb, i, none⟩) (.inl (by simp)) v
  obtain ⟨⟨cs, o1, o2, o3⟩, rr, rk, rl⟩ := h
  have lbw : ¬ lb ∈ blks (vL (i : Int)) := fun h3 => by have := rk i lb h3; omega
  refine ⟨⟨⟨cs.setIfInBounds i v, heap_setCell_same w1 lb i _ _ _ (t.obj o1 lbw), by simpa using o2, fun j hj => ?_⟩, fun x => ?_, fun x k hk => ?_, fun x y hxy k hk hm => ?_⟩, tt⟩
  · rw [Array.getElem?_setIfInBounds]
    by_cases e : i = j
    · subst e; rw [if_pos rfl, if_pos (by omega), upd_same]
    · rw [if_neg e, upd_other _ (by omega)]; exact o3 j hj
  · by_cases e : x = i
    · subst e; rw [upd_same, upd_same]
      exact s.kept t2 (fun k hk h3 => by simp at h3; have := kv k hk; omega)
    · rw [upd_other _ e, upd_other _ e]
      exact (rr x).kept tt (fun k hk h3 => by
        rcases List.mem_cons.1 h3 with rfl | h3
        · have := rk x _ hk; omega
        · exact rl x i e k hk h3)
  · by_cases e : x = i
    · subst e; rw [upd_same] at hk; exact kv k hk
    · rw [upd_other _ e] at hk; exact rk x k hk
  · by_cases e : x = i
    · subst e
      rw [upd_same] at hk
      rw [upd_other _ (fun e2 => hxy e2.symm)] at hm
      rcases hb k hk with h3 | h3
      · exact rl _ y hxy k h3 hm
      · have := lr y k hm; omega
    · rw [upd_other _ e] at hk
      by_cases e2 : y = i
      · subst e2
        rw [upd_same] at hm
        rcases hb k hm with h3 | h3
        · exact rl x _ hxy k hk h3
        · have := lr x k hk; omega
      · rw [upd_other _ e2] at hm; exact rl x y hxy k hk hm
/-- **What nearest keeps in memory**: a forest, nearest ones, what waits. -/
structure NC (n lo pf br bl bf nb lb : Nat) (w1 w : World) (vy : Value) (vL : Int → Value) (rt ls ft nr : Nat → Int) (W : Int → List Int) : Prop where
  f : Fo n pf br bl bf w1 w vy rt ls ft
  a : Ar n w nb nr
  r : Rws n lo w lb vL W
  l : (pf < lo ∧ br < lo ∧ bl < lo ∧ bf < lo) ∧ nb < lo ∧ lb < lo ∧ lo ≤ w.heap.size
  g : w1.heap.size ≤ nb ∧ w1.heap.size ≤ lb
  ne : (¬ nb = pf ∧ ¬ nb = br ∧ ¬ nb = bl ∧ ¬ nb = bf) ∧ (¬ lb = pf ∧ ¬ lb = br ∧ ¬ lb = bl ∧ ¬ lb = bf) ∧ ¬ nb = lb
  y : ∀ q ∈ blks vy, ¬ q = nb ∧ ¬ q = lb ∧ ∀ x, ¬ q ∈ blks (vL x)
section
variable {n lo pf br bl bf nb lb : Nat} {w1 w w' : World} {vy vz : Value} {vL : Int → Value} {rt ls ft nr rt2 ls2 ft2 nr2 : Nat → Int} {W : Int → List Int}
theorem NC.tch (h : NC n lo pf br bl bf nb lb w1 w vy vL rt ls ft nr W) (t : Tch [] w w') : NC n lo pf br bl bf nb lb w1 w' vy vL rt ls ft nr W := by
  obtain ⟨f, a, r, l, g, ne, y⟩ := h
  have := t.size
  exact ⟨f.tch t, a.kept t (by simp), r.kept t (by simp) (by simp), ⟨l.1, l.2.1, l.2.2.1, by omega⟩, g, ne, y⟩
theorem NC.apN (h : NC n lo pf br bl bf nb lb w1 w vy vL rt ls ft nr W) : ¬ nb ∈ pf :: br :: bl :: bf :: blks vy := fun h1 => by
  simp only [List.mem_cons] at h1
  rcases h1 with h1 | h1 | h1 | h1 | h1
  · exact h.ne.1.1 h1
  · exact h.ne.1.2.1 h1
  · exact h.ne.1.2.2.1 h1
  · exact h.ne.1.2.2.2 h1
  · exact (h.y _ h1).1 rfl
theorem NC.apL (h : NC n lo pf br bl bf nb lb w1 w vy vL rt ls ft nr W) : ¬ lb ∈ pf :: br :: bl :: bf :: blks vy := fun h1 => by
  simp only [List.mem_cons] at h1
  rcases h1 with h1 | h1 | h1 | h1 | h1
  · exact h.ne.2.1.1 h1
  · exact h.ne.2.1.2.1 h1
  · exact h.ne.2.1.2.2.1 h1
  · exact h.ne.2.1.2.2.2 h1
  · exact (h.y _ h1).2.1 rfl
theorem NC.apR (h : NC n lo pf br bl bf nb lb w1 w vy vL rt ls ft nr W) (x : Int) : ∀ k ∈ blks (vL x), ¬ k ∈ nb :: pf :: br :: bl :: bf :: blks vy := fun k hk h1 => by
  have := h.r.k x k hk
  have hl := h.l
  simp only [List.mem_cons] at h1
  rcases h1 with h1 | h1 | h1 | h1 | h1 | h1
  · omega
  · omega
  · omega
  · omega
  · omega
  · exact (h.y _ h1).2.2 x hk
theorem NC.yz (h : NC n lo pf br bl bf nb lb w1 w vy vL rt ls ft nr W) (hb : ∀ q ∈ blks vz, q ∈ blks vy ∨ w.heap.size ≤ q) : ∀ q ∈ blks vz, ¬ q = nb ∧ ¬ q = lb ∧ ∀ x, ¬ q ∈ blks (vL x) := fun q hq => by
  rcases hb q hq with h1 | h1
  · exact h.y q h1
  · have := h.a.lt
    have := h.r.lt
    exact ⟨by omega, by omega, fun x hx => by have := (h.r.r x).lt q hx; omega⟩
/-- The forest has changed. -/
theorem NC.fo (h : NC n lo pf br bl bf nb lb w1 w vy vL rt ls ft nr W) (f2 : Fo n pf br bl bf w1 w' vz rt2 ls2 ft2) (t : Tch (pf :: br :: bl :: bf :: blks vy) w w') (hb : ∀ q ∈ blks vz, q ∈ blks vy ∨ w.heap.size ≤ q) : NC n lo pf br bl bf nb lb w1 w' vz vL rt2 ls2 ft2 nr W := by
  have y2 := h.yz hb
  have := t.size
  exact ⟨f2, h.a.kept t h.apN, h.r.kept t h.apL (fun x k hk h1 => h.apR x k hk (List.mem_cons_of_mem _ h1)), ⟨h.l.1, h.l.2.1, h.l.2.2.1, by have := h.l.2.2.2; omega⟩, h.g, h.ne, y2⟩
/-- Nearest ones, too. -/
theorem NC.foN (h : NC n lo pf br bl bf nb lb w1 w vy vL rt ls ft nr W) (f2 : Fo n pf br bl bf w1 w' vz rt2 ls2 ft2) (a2 : Ar n w' nb nr2) (t : Tch (nb :: pf :: br :: bf :: blks vy) w w') (hb : ∀ q ∈ blks vz, q ∈ blks vy ∨ w.heap.size ≤ q) : NC n lo pf br bl bf nb lb w1 w' vz vL rt2 ls2 ft2 nr2 W := by
  have y2 := h.yz hb
  have := t.size
  have sub : ∀ k, k ∈ nb :: pf :: br :: bf :: blks vy → k = nb ∨ k ∈ pf :: br :: bl :: bf :: blks vy := fun k hk => by
    simp only [List.mem_cons] at hk ⊢
    rcases hk with h1 | h1 | h1 | h1 | h1
    · exact .inl h1
    · exact .inr (.inl h1)
    · exact .inr (.inr (.inl h1))
    · exact .inr (.inr (.inr (.inr (.inl h1))))
    · exact .inr (.inr (.inr (.inr (.inr h1))))
  refine ⟨f2, a2, h.r.kept t (fun h1 => ?_) (fun x k hk h1 => ?_), ⟨h.l.1, h.l.2.1, h.l.2.2.1, by have := h.l.2.2.2; omega⟩, h.g, h.ne, y2⟩
  · rcases sub _ h1 with h1 | h1
    · exact h.ne.2.2 h1.symm
    · exact h.apL h1
  · rcases sub _ h1 with h1 | h1
    · exact h.apR x k hk (by rw [h1]; simp)
    · exact h.apR x k hk (List.mem_cons_of_mem _ h1)
/-- A nearest one is told. -/
theorem NC.near (h : NC n lo pf br bl bf nb lb w1 w vy vL rt ls ft nr W) {i : Nat} (hi : i < n) (x : Int) : NC n lo pf br bl bf nb lb w1 (w.setCell ⟨nb, i, none⟩ (.int .i64 x)) vy vL rt ls ft (updN nr i x) W := by
  obtain ⟨a2, t⟩ := h.a.set hi x
  refine h.foN (h.f.kept t (fun k hk => ?_)) a2 (t.mono (by simp)) (fun q hq => .inl hq)
  simp at hk; subst hk
  have := h.apN
  simp only [List.mem_cons, not_or] at this
  exact ⟨h.g.1, this.1, this.2.1, this.2.2.1, this.2.2.2.1, this.2.2.2.2⟩
/-- One hangs on another one. -/
theorem NC.root (h : NC n lo pf br bl bf nb lb w1 w vy vL rt ls ft nr W) {i : Nat} (hi : i < n) (x : Int) : NC n lo pf br bl bf nb lb w1 (w.setCell ⟨br, i, none⟩ (.int .i64 x)) vy vL (updN rt i x) ls ft nr W := by
  obtain ⟨f2, t⟩ := h.f.setR hi x
  exact h.fo f2 (t.mono (by simp)) (fun q hq => .inl hq)
/-- What waits has changed. -/
theorem NC.row (h : NC n lo pf br bl bf nb lb w1 w vy vL rt ls ft nr W) {i : Nat} (hi : i < n) {v : Value} {l : List Int} {wq : World} (s : Sl wq 3 1 v l.length (ivals l)) (t : Tch (blks (vL (i : Int))) w wq) (hb : ∀ k ∈ blks v, k ∈ blks (vL (i : Int)) ∨ w.heap.size ≤ k) :
    NC n lo pf br bl bf nb lb w1 (wq.setCell ⟨lb, i, none⟩ v) vy (upd vL (i : Int) v) rt ls ft nr (upd W (i : Int) l) := by
  obtain ⟨r2, t2⟩ := h.r.row h.l.2.2.1 h.l.2.2.2 hi s t hb
  have hl := h.l
  have sz := h.f.t.size
  have nm : ∀ k, k < lo → ¬ k = lb → ¬ k ∈ lb :: blks (vL (i : Int)) := fun k h1 h2 h3 => by
    rcases List.mem_cons.1 h3 with h3 | h3
    · exact h2 h3
    · have := h.r.k i k h3; omega
  refine ⟨h.f.kept t2 (fun k hk => ?_), h.a.kept t2 (nm nb hl.2.1 h.ne.2.2), r2, ⟨hl.1, hl.2.1, hl.2.2.1, by have := t2.size; omega⟩, h.g, h.ne, fun q hq => ⟨(h.y q hq).1, (h.y q hq).2.1, fun x hx => ?_⟩⟩
  · rcases List.mem_cons.1 hk with rfl | hk
    · have := h.apL
      simp only [List.mem_cons, not_or] at this
      exact ⟨h.g.2, this.1, this.2.1, this.2.2.1, this.2.2.2.1, this.2.2.2.2⟩
    · have := h.apR i k hk
      simp only [List.mem_cons, not_or] at this
      exact ⟨by have := h.r.k i k hk; have := h.g.2; omega, this.2.1, this.2.2.1, this.2.2.2.1, this.2.2.2.2.1, this.2.2.2.2.2⟩
  · by_cases e : x = i
    · subst e
      rw [upd_same] at hx
      rcases hb q hx with h1 | h1
      · exact (h.y q hq).2.2 _ h1
      · have := h.f.lts.2.2.2.2 q hq; omega
    · rw [upd_other _ e] at hx; exact (h.y q hq).2.2 x hx
end
end Go.Proofs.YthniccegnbadpaaDoor

