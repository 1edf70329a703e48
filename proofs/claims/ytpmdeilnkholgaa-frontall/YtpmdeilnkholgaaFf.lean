/- Joined: FnR, FnA, FnW. -/
import Derived.Test.YtpmdeilnkholgaaDg
import Derived.Test.YtpmdeilnkholgaaFe
import Derived.Deep.RegionHeld3
import Derived.Test.YtpmdeilnkholgaaDh


/- The document's Front. -/
set_option linter.unusedSimpArgs false
set_option linter.unusedVariables false
namespace Go.Proofs.Ytpmdeilnkholgaa
open Go.RowKit Go.Sort Go.Maps

set_option maxRecDepth 100000 in
set_option maxHeartbeats 2000000 in
/-- **Ahead.** -/
theorem rahead_any {n lo : Nat} {w : World} {lb : Nat} {vL : Int → Value} {L : Int → List Int} (hr : Rws n lo w lb vL L) (a : Nat) (ha : a < n) (b : Int) (hn : n ≤ 900) (hl : (L a).length ≤ 1000) :
    Calls Try.prog 46 #[.slice (some ⟨lb, 0, none⟩) n n, .int .i64 a, .int .i64 b] w fun e w' => e = .returned (.bool (decide (b ∈ L a))) ∧ w = w' := by
  have c0 := (hr.cell ha).1
  have r0 := hr.r a
  obtain ⟨va, vc, hv⟩ := r0.shape
  rw [hv] at c0 r0
  have R0 := hid r0
  clear hr hv r0
  generalize hLa : L a = la at *
  clear hLa
  go_enter Try.func46, Try.ntmps46
  go_wp2_with fail
  go_loop [7] (fun vi => ∃ k : Nat, vi = .int .i64 k ∧ k ≤ la.length ∧ Hid (¬ b ∈ la.take k)) (fun vi => la.length - (intOf vi).toNat)
  case atStart => exact ⟨0, rfl, Nat.zero_le _, by simp [Hid]⟩
  case round =>
    obtain ⟨k, rfl, hk, HI⟩ := hrel
    by_cases hlt : k < la.length
    · obtain ⟨ab, ao, ac2, hab⟩ := R0.out.ptr (by omega)
      cases hab
      have ck := R0.out.cell.2.1 k (.int .i64 (la[k])) (by simp [ivals, hlt])
      have HTK : Hid (la.take (k + 1) = la.take k ++ [la[k]]) := List.take_succ_eq_append_getElem hlt
      have HMM : Hid (la[k] ∈ la) := List.getElem_mem hlt
      generalize la[k] = u at *
      by_cases hub : u = b
      · have hq : (u == b) = true := by simpa using hub
        have HF : Hid (decide (b ∈ la) = true) := by show decide (b ∈ la) = true; rw [← hub]; simpa using HMM.out
        clear hub
        go_wp2_with fail
        go_ret
        exact ⟨by rw [HF.out]; rfl, rfl⟩
      · have hq : (u == b) = false := by simpa using hub
        have HF : Hid (¬ b ∈ la.take (k + 1)) := by
          show ¬ _
          rw [HTK.out, List.mem_append, List.mem_singleton]
          rintro (h | h)
          · exact HI.out h
          · exact hub h.symm
        clear hub
        go_wp2_with fail
        go_round
        case rel => exact ⟨k + 1, by go_num, by omega, HF.out⟩
        case measure => simp [intOf]; omega
    · have hnk : ¬ ((k : Int) < (la.length : Int)) := by omega
      have HF : Hid (decide (b ∈ la) = false) := by
        have h1 := HI.out
        rw [List.take_of_length_le (by omega)] at h1
        show decide (b ∈ la) = false
        simpa using h1
      go_wp2_with fail
      go_ret
      exact ⟨by rw [HF.out]; rfl, rfl⟩
/-- What one place ahead of v gives. -/
def frC (L : Int → List Int) (n r v u : Nat) : Bool := decide ((v : Int) ∈ L u) && (tbB L n r u && (decide (r = v) || !tbB L n r v))
/-- .. the first k. -/
def frK (L : Int → List Int) (n r v : Nat) : Nat → Bool
  | 0 => false
  | k + 1 => frK L n r v k || frC L n r v k
/-- **Is v in r's front? The document's answer.** -/
def frB (L : Int → List Int) (n r v : Nat) : Bool := frK L n r v n
theorem frK_iff (L : Int → List Int) (n r v : Nat) : ∀ k, frK L n r v k = true ↔ ∃ u, u < k ∧ frC L n r v u = true
  | 0 => by simp [frK]
  | k + 1 => by
    rw [frK, Bool.or_eq_true, frK_iff L n r v k]
    constructor
    · rintro (⟨u, h1, h2⟩ | h)
      · exact ⟨u, by omega, h2⟩
      · exact ⟨k, by omega, h⟩
    · rintro ⟨u, h1, h2⟩
      by_cases e : u = k
      · subst e; exact .inr h2
      · exact .inl ⟨u, by omega, h2⟩
/-- What Front leaves. -/
def FrtP (L : Int → List Int) (n : Nat) (w w' : World) (e : Ending) : Prop := ∃ v vT, e = .returned v ∧ Tbs n n w w' v vT (frB L n)
set_option maxRecDepth 100000 in
set_option maxHeartbeats 16000000 in
/-- **Front.** -/
theorem rfront_any {n lo : Nat} {w : World} {lb : Nat} {vL : Int → Value} {L : Int → List Int} (hr : Rws n lo w lb vL L) (hF : ∀ p, ∀ x ∈ L p, 0 ≤ x ∧ x < n) (hn : 1 ≤ n ∧ n ≤ 900) (hl : ∀ x, (L x).length ≤ 1000) :
    Calls Try.prog 20 #[.slice (some ⟨lb, 0, none⟩) n n] w fun e w' => FrtP L n w w' e := by
  have hmk := fun w => run_make_row' (P := Try.prog) 42 4 (.bool false) 1 Try.underlying42 (by kernel_rfl) rfl .i64 .i64 n (by omega) (by omega) w
  have HAH : Hid (∀ W (u v : Nat), Tch [] w W → u < n → Calls Try.prog 46 #[.slice (some ⟨lb, 0, none⟩) n n, .int .i64 u, .int .i64 v] W fun e w' => e = .returned (.bool (decide ((v : Int) ∈ L u))) ∧ W = w') := fun W u v t hu => rahead_any (hr.kept t (by simp) (by simp)) u hu v hn.2 (hl u)
  have HTA := hid (table_any hr hF hn hl)
  clear hr hF hl
  go_enter Try.func20, Try.ntmps20
  go_upto_region 2 with (go_at_call 45; refine HTA.out.mono ?_; rintro e w1 ⟨v7, vT7, rfl, tb7⟩; have TB7 := hid tb7; have hs7 := tb7.s; obtain ⟨ob, oo, oc7, hv7⟩ := hs7.ptr (by omega); subst hv7; clear tb7 hs7)
  have T1 : Hid (Tch [] w w1) := TB7.out.t
  have HCO : Hid (∀ r u : Nat, r < n → u < n → ∃ q, ∀ W, Tch [] w1 W → W.cell? ⟨ob, oo + r, none⟩ = some (.slice (some ⟨q, 0, none⟩) n n) ∧ W.cell? ⟨q, u, none⟩ = some (.bool (tbB L n r u)) ∧ ∀ v, v < n → W.cell? ⟨q, v, none⟩ = some (.bool (tbB L n r v))) := fun r u hr hu => by
    obtain ⟨q, e1, e2, _⟩ := TB7.out.r r hr
    refine ⟨q, fun W t => ⟨t.val0 ?_, t.val0 (e2.cell hu), fun v hv => t.val0 (e2.cell hv)⟩⟩
    exact TB7.out.s.cell.2.1 r _ (by simp [hr, e1])
  have TB0 : Hid (Tbs n 0 w w1 (.slice none 0 0) (fun _ => .slice none 0 0) (frB L n)) := ⟨Sl.nil _ _ _, fun i hi => by omega, by simp [blks], T1.out⟩
  clear HTA TB7
  go_wp2_with fail
  go_loopw [4, 5, 6, 7, 8] (fun vo va _ _ _ wr => ∃ (a : Nat) (oa : Option Addr) (oc : Nat) (vT : Nat → Value), va = .int .i64 a ∧ vo = .slice oa a oc ∧ a ≤ n ∧ Hid (Tbs n a w wr (.slice oa a oc) vT (frB L n) ∧ Tch [] w1 wr ∧ ∀ k ∈ blks (.slice oa a oc), w1.heap.size ≤ k)) (fun _ va _ _ _ _ => n - (intOf va).toNat)
  case atStart => exact ⟨0, none, 0, _, rfl, rfl, Nat.zero_le _, TB0.out, Tch.refl _ _, by simp [blks]⟩
  case round =>
    obtain ⟨a, oa, oc, vT, rfl, rfl, ha, HA⟩ := hrel
    clear TB0
    by_cases hlt : a < n
    · have TB := hid HA.out.1
      have TW := hid HA.out.2.1
      have HLO := hid HA.out.2.2
      clear HA
      go_upto_region 7 with fail
      have T2 := hid ((Tch.refl [] wr).alloc (.cells (madeCells #[.bool false] n) 4))
      have B2 := hid (br_made n (heap_alloc_new wr (.cells (madeCells #[.bool false] n) 4)))
      generalize wr.alloc (.cells (madeCells #[.bool false] n) 4) = w2 at *
      have LQ : Hid (w.heap.size ≤ wr.heap.size) := TB.out.t.size
      have LO : Hid (∀ k ∈ blks (.slice oa a oc), k < wr.heap.size) := TB.out.s.lt
      have LOW : Hid (∀ k ∈ blks (.slice oa a oc), w1.heap.size ≤ k) := HLO.out
      have QLO : Hid (w1.heap.size ≤ wr.heap.size) := TW.out.size
      have TBq := hid (TB.out.tch T2.out)
      have TW2 := hid (TW.out.trans T2.out)
      have LR : Hid (∀ i, i < a → ∀ q, vT i = .slice (some ⟨q, 0, none⟩) n n → q < wr.heap.size) := fun i hi q hq => by
        obtain ⟨q2, e1, e2, _⟩ := TB.out.r i hi
        rw [e1] at hq
        cases hq
        exact e2.lt
      clear TB TW T2
      generalize wr.heap.size = qb at *
      /- how the round ends -/
      have FIN : Hid (∀ W, Tbs n a w W (.slice oa a oc) vT (frB L n) → Br n W qb (frB L n a) → ∀ oa2 oc2 (W2 : World), Sl W2 42 1 (.slice oa2 (a + 1) oc2) (a + 1) ((List.range a).map vT ++ [.slice (some ⟨qb, 0, none⟩) n n]) → Tch (blks (.slice oa a oc)) W W2 → (∀ k ∈ blks (.slice oa2 (a + 1) oc2), k ∈ blks (.slice oa a oc) ∨ W.heap.size ≤ k) → Tbs n (a + 1) w W2 (.slice oa2 (a + 1) oc2) (updN vT a (.slice (some ⟨qb, 0, none⟩) n n)) (frB L n)) := fun W tb bq oa2 oc2 W2 s t hb => by
        have hsz := tb.t.size
        refine ⟨?_, fun i hi => ?_, fun q hq => ?_, tb.t.trans2 t (fun k hk => .inr (tb.b k hk))⟩
        · rw [List.range_succ, List.map_append]
          have e1 : (List.range a).map (updN vT a (.slice (some ⟨qb, 0, none⟩) n n)) = (List.range a).map vT := List.map_congr_left (fun i hi => updN_other _ _ (by have := List.mem_range.1 hi; omega))
          rw [e1]
          simp only [List.map_cons, List.map_nil, updN_same]
          exact s
        · by_cases e : i = a
          · subst e
            refine ⟨qb, updN_same _ _ _, bq.kept t (fun h1 => by have := LO.out qb h1; omega), LQ.out, fun h1 => ?_⟩
            rcases hb qb h1 with h2 | h2
            · have := LO.out qb h2; omega
            · have := bq.lt; omega
          · obtain ⟨q, e1, e2, e3, e4⟩ := tb.r i (by omega)
            refine ⟨q, by rw [updN_other _ _ e]; exact e1, e2.kept t e4, e3, fun h1 => ?_⟩
            rcases hb q h1 with h2 | h2
            · exact e4 h2
            · have := e2.lt; omega
        · rcases hb q hq with h2 | h2
          · exact tb.b q h2
          · omega
      go_wp2_with fail
      go_loopw [7, 8] (fun vb _ wr => ∃ (b : Nat) (f : Nat → Bool), vb = .int .i64 b ∧ b ≤ n ∧ Hid (Br n wr qb f ∧ (∀ x, x < b → f x = frB L n a x) ∧ (∀ x, b ≤ x → f x = false) ∧ Tch [qb] w2 wr)) (fun vb _ _ => n - (intOf vb).toNat)
      case atStart => exact ⟨0, _, rfl, Nat.zero_le _, B2.out, fun x hx => by omega, fun _ _ => rfl, Tch.refl _ _⟩
      case round =>
        obtain ⟨b, f, rfl, hb, HB⟩ := hrel
        rename World => wb
        clear B2
        by_cases hbn : b < n
        · go_wp2_with fail
          go_loopw [8] (fun vu wr => ∃ (u : Nat) (g : Nat → Bool), vu = .int .i64 u ∧ u ≤ n ∧ Hid (Br n wr qb g ∧ (∀ x, x < b → g x = frB L n a x) ∧ g b = frK L n a b u ∧ (∀ x, b < x → g x = false) ∧ Tch [qb] w2 wr)) (fun vu _ => n - (intOf vu).toNat)
          case atStart => exact ⟨0, f, rfl, Nat.zero_le _, HB.out.1, HB.out.2.1, HB.out.2.2.1 b (Nat.le_refl _), fun x hx => HB.out.2.2.1 x (by omega), HB.out.2.2.2⟩
          case round =>
            obtain ⟨u, g, rfl, hu, HU⟩ := hrel
            rename World => wu
            clear HB
            by_cases hun : u < n
            · have tw1 : Tch [] w1 wu := TW2.out.trans2 HU.out.2.2.2.2 (fun k hk => .inr (by simp at hk; subst hk; exact QLO.out))
              have HC := hid (HAH.out wu u b (T1.out.trans tw1) hun)
              obtain ⟨q, hq⟩ := HCO.out a u hlt hun
              obtain ⟨k1, k2, k3⟩ := hq wu tw1
              have k4 := k3 b hbn
              have cb := HU.out.1.cell hbn
              have fb := HU.out.1.fro b
              have NO : Hid (frC L n a b u = false → ∃ g', Br n wu qb g' ∧ (∀ x, x < b → g' x = frB L n a x) ∧ g' b = frK L n a b (u + 1) ∧ (∀ x, b < x → g' x = false) ∧ Tch [qb] w2 wu) := fun h => ⟨g, HU.out.1, HU.out.2.1, by rw [frK, h, Bool.or_false]; exact HU.out.2.2.1, HU.out.2.2.2⟩
              have YES : Hid (frC L n a b u = true → ∃ g', Br n (wu.setCell ⟨qb, b, none⟩ (.bool true)) qb g' ∧ (∀ x, x < b → g' x = frB L n a x) ∧ g' b = frK L n a b (u + 1) ∧ (∀ x, b < x → g' x = false) ∧ Tch [qb] w2 (wu.setCell ⟨qb, b, none⟩ (.bool true))) := fun h => by
                obtain ⟨b1, t1⟩ := HU.out.1.set hbn true
                refine ⟨_, b1, fun x hx => ?_, ?_, fun x hx => ?_, HU.out.2.2.2.2.trans t1⟩
                · rw [updN_other _ _ (by omega)]; exact HU.out.2.1 x hx
                · rw [updN_same, frK, h, Bool.or_true]
                · rw [updN_other _ _ (by omega)]; exact HU.out.2.2.2.1 x hx
              have hv : frC L n a b u = (decide ((b : Int) ∈ L u) && (tbB L n a u && (decide (a = b) || !tbB L n a b))) := rfl
              clear tw1 hq k3
              cases h1 : decide ((b : Int) ∈ L u) with
              | false =>
                rw [h1] at HC hv
                have N2 := hid (NO.out (by rw [hv]; rfl))
                clear h1 hv NO YES k1 k2 k4
                go_wp2_with (go_at_call 46; refine HC.out.mono ?_; rintro e x1 ⟨rfl, rfl⟩)
                go_roundw
                case rel => obtain ⟨g', h⟩ := N2.out; exact ⟨u + 1, g', by go_num, by omega, h⟩
                case measure => simp [intOf]; omega
              | true =>
                rw [h1] at HC hv
                cases h2 : tbB L n a u with
                | false =>
                  rw [h2] at k2 hv
                  have N2 := hid (NO.out (by rw [hv]; rfl))
                  clear h1 h2 hv NO YES k4
                  go_wp2_with (go_at_call 46; refine HC.out.mono ?_; rintro e x1 ⟨rfl, rfl⟩)
                  go_roundw
                  case rel => obtain ⟨g', h⟩ := N2.out; exact ⟨u + 1, g', by go_num, by omega, h⟩
                  case measure => simp [intOf]; omega
                | true =>
                  rw [h2] at k2 hv
                  by_cases hab : a = b
                  · have Y2 := hid (YES.out (by rw [hv, decide_eq_true hab]; rfl))
                    have hq : ((a : Int) == (b : Int)) = true := by rw [beq_iff_eq]; omega
                    clear h1 h2 hv NO YES hab k4
                    go_wp2_with (go_at_call 46; refine HC.out.mono ?_; rintro e x1 ⟨rfl, rfl⟩)
                    go_roundw
                    case rel => obtain ⟨g', h⟩ := Y2.out; exact ⟨u + 1, g', by go_num, by omega, h⟩
                    case measure => simp [intOf]; omega
                  · have hq : ((a : Int) == (b : Int)) = false := by rw [beq_eq_false_iff_ne]; omega
                    cases h3 : tbB L n a b with
                    | false =>
                      rw [h3] at k4 hv
                      have Y2 := hid (YES.out (by rw [hv, decide_eq_false hab]; rfl))
                      clear h1 h2 h3 hv NO YES hab
                      go_wp2_with (go_at_call 46; refine HC.out.mono ?_; rintro e x1 ⟨rfl, rfl⟩)
                      go_roundw
                      case rel => obtain ⟨g', h⟩ := Y2.out; exact ⟨u + 1, g', by go_num, by omega, h⟩
                      case measure => simp [intOf]; omega
                    | true =>
                      rw [h3] at k4 hv
                      have N2 := hid (NO.out (by rw [hv, decide_eq_false hab]; rfl))
                      clear h1 h2 h3 hv NO YES hab
                      go_wp2_with (go_at_call 46; refine HC.out.mono ?_; rintro e x1 ⟨rfl, rfl⟩)
                      go_roundw
                      case rel => obtain ⟨g', h⟩ := N2.out; exact ⟨u + 1, g', by go_num, by omega, h⟩
                      case measure => simp [intOf]; omega
            · have hnu : ¬ ((u : Int) < (n : Int)) := by omega
              have NX : Hid (Br n wu qb g ∧ (∀ x, x < b + 1 → g x = frB L n a x) ∧ (∀ x, b + 1 ≤ x → g x = false) ∧ Tch [qb] w2 wu) := ⟨HU.out.1, fun x hx => by
                by_cases e : x = b
                · subst e
                  rw [HU.out.2.2.1, show u = n by omega]; rfl
                · exact HU.out.2.1 x (by omega), fun x hx => HU.out.2.2.2.1 x (by omega), HU.out.2.2.2.2⟩
              clear HU
              go_wp2_with fail
              go_roundw
              case rel => exact ⟨b + 1, g, by go_num, by omega, NX.out⟩
              case measure => simp [intOf]; omega
        · have hbf : ¬ ((b : Int) < (n : Int)) := by omega
          have BXX : Hid (Br n wb qb (frB L n a)) := HB.out.1.cong (fun x hx => HB.out.2.1 x (by omega))
          have TBX2 : Hid (Tbs n a w wb (.slice oa a oc) vT (frB L n)) := by
            obtain ⟨q1, q2, q3, q4⟩ := TBq.out
            have tq := HB.out.2.2.2
            refine ⟨q1.kept tq (fun k hk h1 => ?_), fun i hi => ?_, q3, q4.trans2 tq (fun k hk => .inr ?_)⟩
            · simp at h1; subst h1; have := LO.out _ hk; omega
            · obtain ⟨q, e1, e2, e3, e4⟩ := q2 i hi
              exact ⟨q, e1, e2.kept tq (fun h1 => by simp at h1; subst h1; have := LR.out i hi _ e1; omega), e3, e4⟩
            · simp at hk; subst hk; exact LQ.out
          have TWX2 : Hid (Tch [] w1 wb) := TW2.out.trans2 HB.out.2.2.2 (fun k hk => .inr (by simp at hk; subst hk; exact QLO.out))
          clear HB TBq TW2
          have TA := hid ((Tch.refl [] wb).alloc (.cells #[.slice (some ⟨qb, 0, none⟩) n n] 42))
          have O7 := hid (heap_alloc_new wb (.cells #[.slice (some ⟨qb, 0, none⟩) n n] 42))
          have TB7 := hid (TBX2.out.tch TA.out)
          have B7 := hid (BXX.out.kept TA.out (by simp))
          go_wp2_with (at_builtin; refine wpList_append_t _ rfl _ _ 49 rfl Try.underlying49 info_bs rfl (by decide) (.slice oa a oc) rfl TB7.out.s ⟨wb.heap.size, 0, none⟩ 1 1 rfl [.slice (some ⟨qb, 0, none⟩) n n] rfl (fun j u hj => by rw [Addr.add_lit, Nat.zero_add, cell_of_row _ _ j _ _ _ O7.out]; simpa using hj) (by simp [Value.oneCell']) (by omega) ?_; intro v8 w8 hs8 ht8 hd8 hb8; obtain ⟨va8, vc8, hv8⟩ := hs8.shape; subst hv8; have F8 := hid (FIN.out _ TB7.out B7.out va8 vc8 w8 hs8 ht8 hb8); have L8 : Hid (∀ k ∈ blks (.slice va8 (a + 1) vc8), w1.heap.size ≤ k) := (fun k hk => by rcases hb8 k hk with h1 | h1; exact LOW.out k h1; have := (TWX2.out.trans TA.out).size; omega); have T8 : Hid (Tch [] w1 w8) := (TWX2.out.trans TA.out).trans2 ht8 (fun k hk => .inr (LOW.out k hk)); clear hs8 ht8 hd8 hb8)
          go_roundw
          case rel => exact ⟨a + 1, va8, vc8, _, by go_num, rfl, by omega, F8.out, T8.out, L8.out⟩
          case measure => simp [intOf]; omega
    · have hif : ¬ ((a : Int) < (n : Int)) := by omega
      have ean : a = n := by omega
      have HE := hid ean
      clear ean
      go_wp2_with fail
      go_ret
      have h := HA.out.1
      have e := HE.out
      subst e
      exact ⟨_, vT, rfl, h⟩
end Go.Proofs.Ytpmdeilnkholgaa


/- Awake of front. -/
set_option linter.unusedSimpArgs false
set_option linter.unusedVariables false
namespace Go.Proofs.Ytpmdeilnkholgaa
open Go.RowKit Go.Sort Go.Maps

theorem rise_one {l : List Int} {a : Int} (h : Rise ltI l) (hm : ∀ y, y ∈ l ↔ y = a) : l = [a] := by
  cases l with
  | nil => exact absurd ((hm a).2 rfl) (by simp)
  | cons x t =>
    have e1 := (hm x).1 (by simp)
    subst e1
    cases t with
    | nil => rfl
    | cons y t =>
      have e2 := (hm y).1 (by simp)
      have h1 := (List.pairwise_cons.1 h).1 y (by simp)
      rw [e2] at h1
      simp [ltI] at h1
theorem nil_of {l : List Int} (hm : ∀ y, ¬ y ∈ l) : l = [] := by
  cases l with
  | nil => rfl
  | cons x t => exact absurd (List.mem_cons_self) (hm x)
theorem awD_3 : awD 3 = [] := by decide +kernel
theorem awD_u12 : RchU awD 1 2 := .step (.zero (by decide)) (show (2 : Int) ∈ awD 0 by rw [awD_0]; simp) (by decide)
theorem awF_told {pl up : List Int} {enf : Nat → Int} {pr : Nat → Nat} (h : DTree awD pl up enf pr) (hr : ∀ x, Rch awD x → 0 ≤ x ∧ x < 4) : (∀ y, frT awD pl enf 1 y ↔ y = 3) ∧ ∀ y, ¬ frT awD pl enf 0 y := by
  have t := awD_told h hr
  refine ⟨fun y => ⟨?_, ?_⟩, ?_⟩
  · rintro ⟨u, hy, ho, _⟩
    obtain ⟨_, hu, hh⟩ := (h.over 1 u).1 ho
    have hb := hr u hu
    have n0 : ¬ u = 0 := fun e => by subst e; have := h.ov_zero ho; omega
    have n2 : ¬ u = 2 := fun e => by
      subst e
      rcases hh with e | e
      · omega
      · exact e awD_u12
    have n3 : ¬ u = 3 := fun e => by subst e; rw [t.2.1] at ho; cases ho
    have : u = 1 := by omega
    subst this
    rw [awD_1] at hy
    simpa using hy
  · rintro rfl
    exact ⟨1, by rw [awD_1]; simp, h.ov_self awD_r1, .inr t.2.1⟩
  · rintro y ⟨u, hy, ho, hh⟩
    have hu := h.ov_r ho
    have hyr : Rch awD y := .step hu hy
    have hb := hr u hu
    rcases hh with e | e
    · subst e
      have : u = 0 ∨ u = 1 ∨ u = 2 ∨ u = 3 := by omega
      rcases this with rfl | rfl | rfl | rfl
      · rw [awD_0] at hy; simp at hy
      · rw [awD_1] at hy; simp at hy
      · rw [awD_2] at hy; simp at hy
      · rw [awD_3] at hy; simp at hy
    · rw [h.zero_ov hyr] at e; cases e
set_option maxRecDepth 100000 in
set_option maxHeartbeats 8000000 in
/-- **Awake.** -/
theorem awake_f (w : World) : Calls Try.prog 18 #[] w fun e w' => e = .returned (.bool true) ∧ Tch [] w w' := by
  have hm : Try.prog.follows .mixedOrders = true := by kernel_rfl
  go_enter Try.func18, Try.ntmps18
  go_upto_region 2 with (go_at_call 31; refine (new_any _ _).mono ?_; rintro e w1 ⟨bm, am, hee, g1, b1, a1, r1⟩; rw [show max (4 : Int) 0 = 4 from rfl] at hee; subst hee; have G1 := hid g1; have R1 := hid r1; clear g1 r1)
  have l1 := (G1.out 0).b.lt
  have l2 := (G1.out 0).a.lt
  have o1 := heap_alloc_new w1 (.cells #[.int .i64 4, .map (some bm), .map (some am)] 28)
  have g2 : Gr w1 (w1.alloc (.cells #[.int .i64 4, .map (some bm), .map (some am)] 28)) := (Gr.refl w1).alloc _
  have s2 : (w1.alloc (.cells #[.int .i64 4, .map (some bm), .map (some am)] 28)).heap.size = w1.heap.size + 1 := by simp
  generalize w1.alloc (.cells #[.int .i64 4, .map (some bm), .map (some am)] 28) = w2 at *
  have S0 : Hid (GS 4 0 w2.heap.size w w2 bm am nilL) := gs_new G1.out b1 a1 R1.out g2.tch (by omega) (Nat.le_refl _)
  have O0 := hid o1
  have T0 := hid (R1.out.tch.trans g2.tch)
  have LB : Hid (w.heap.size ≤ bm ∧ w.heap.size ≤ am ∧ w.heap.size ≤ w2.heap.size ∧ ¬ w1.heap.size = bm ∧ ¬ w1.heap.size = am ∧ w1.heap.size < w2.heap.size) := ⟨b1, a1, T0.out.size, by omega, by omega, by omega⟩
  clear G1 R1 o1 g2 s2 b1 a1 l1 l2
  generalize w1.heap.size = gb at *
  generalize w2.heap.size = lo at *
  have z0 := cell_of_row _ _ 0 _ _ _ O0.out
  have z1 := cell_of_row _ _ 1 _ _ _ O0.out
  have z2 := cell_of_row _ _ 2 _ _ _ O0.out
  simp only [List.getElem?_toArray, List.getElem?_cons_zero, List.getElem?_cons_succ] at z0 z1 z2
  have J0 := hid (join_gs S0.out (by omega) (by omega) 0 1 (by omega) (by omega))
  go_upto_region 3 with (go_at_call 32; refine J0.out.mono ?_; rintro e v0 ⟨rfl, s, j⟩; have S1 := hid s; have T1 := hid (j.tch T0.out LB.out.1 LB.out.2.1 LB.out.2.2.1); have O1 := hid (j.obj O0.out LB.out.2.2.2.1 LB.out.2.2.2.2.1 LB.out.2.2.2.2.2); clear s j)
  clear z0 z1 z2 J0
  have z0 := cell_of_row _ _ 0 _ _ _ O1.out
  have z1 := cell_of_row _ _ 1 _ _ _ O1.out
  have z2 := cell_of_row _ _ 2 _ _ _ O1.out
  simp only [List.getElem?_toArray, List.getElem?_cons_zero, List.getElem?_cons_succ] at z0 z1 z2
  have J1 := hid (join_gs S1.out (by omega) (by omega) 0 2 (by omega) (by omega))
  go_upto_region 4 with (go_at_call 32; refine J1.out.mono ?_; rintro e v1 ⟨rfl, s, j⟩; have S2 := hid s; have T2 := hid (j.tch T1.out LB.out.1 LB.out.2.1 LB.out.2.2.1); have O2 := hid (j.obj O1.out LB.out.2.2.2.1 LB.out.2.2.2.2.1 LB.out.2.2.2.2.2); clear s j)
  clear z0 z1 z2 J1
  have z0 := cell_of_row _ _ 0 _ _ _ O2.out
  have z1 := cell_of_row _ _ 1 _ _ _ O2.out
  have z2 := cell_of_row _ _ 2 _ _ _ O2.out
  simp only [List.getElem?_toArray, List.getElem?_cons_zero, List.getElem?_cons_succ] at z0 z1 z2
  have J2 := hid (join_gs S2.out (by omega) (by omega) 1 3 (by omega) (by omega))
  go_upto_region 5 with (go_at_call 32; refine J2.out.mono ?_; rintro e v2 ⟨rfl, s, j⟩; have S3 := hid s; have T3 := hid (j.tch T2.out LB.out.1 LB.out.2.1 LB.out.2.2.1); have O3 := hid (j.obj O2.out LB.out.2.2.2.1 LB.out.2.2.2.2.1 LB.out.2.2.2.2.2); clear s j)
  clear z0 z1 z2 J2
  have z0 := cell_of_row _ _ 0 _ _ _ O3.out
  have z1 := cell_of_row _ _ 1 _ _ _ O3.out
  have z2 := cell_of_row _ _ 2 _ _ _ O3.out
  simp only [List.getElem?_toArray, List.getElem?_cons_zero, List.getElem?_cons_succ] at z0 z1 z2
  have J3 := hid (join_gs S3.out (by omega) (by omega) 2 3 (by omega) (by omega))
  go_upto_region 6 with (go_at_call 32; refine J3.out.mono ?_; rintro e v3 ⟨rfl, s, j⟩; have S4 := hid s; have T4 := hid (j.tch T3.out LB.out.1 LB.out.2.1 LB.out.2.2.1); have O4 := hid (j.obj O3.out LB.out.2.2.2.1 LB.out.2.2.2.2.1 LB.out.2.2.2.2.2); clear s j)
  clear z0 z1 z2 J3
  have z0 := cell_of_row _ _ 0 _ _ _ O4.out
  have z1 := cell_of_row _ _ 1 _ _ _ O4.out
  have z2 := cell_of_row _ _ 2 _ _ _ O4.out
  simp only [List.getElem?_toArray, List.getElem?_cons_zero, List.getElem?_cons_succ] at z0 z1 z2
  obtain ⟨K, vF, vA, A, _, hgp, hfa, _⟩ := S4.out
  have RCH := hid (fun x (hx : Rch awD x) => hfa.rch (n := 4) (by omega) hx)
  have HOF : Hid (∀ W, Tch [] v3 W → Calls Try.prog 11 #[.agg #[.int .i64 4, .map (some bm), .map (some am)]] W fun e w' => OfQ awD W w' e) := fun W t => of_all (F := awD) (n0 := 4) (hgp.tch t) (hfa.mono (by omega)) (by omega) (by omega)
  have HFR : Hid (∀ W, Tch [] v3 W → ∀ {mb pc uc ec L : Nat} {pa ua ea : Option Addr} {pl up : List Int} {enf : Nat → Int} {pr : Nat → Nat}, TrV W mb (.slice pa L pc) (.slice ua L uc) (.slice ea L ec) pl up ((List.range pl.length).map enf) → DTree awD pl up enf pr → pl.length = L → L ≤ 900 → Calls Try.prog 19 #[.agg #[.int .i64 4, .map (some bm), .map (some am)], .agg #[.slice pa L pc, .slice ua L uc, .slice ea L ec, .map (some mb)]] W fun e w' => FOfP awD pl enf 4 W w' e) := fun W t => fun tv dt hL hL9 => frontOf_any (n := 4) (hgp.tch t) (hfa.mono (by omega)) tv dt hL (by omega) hL9
  clear hgp hfa S0 S1 S2 S3 S4 T0 T1 T2 T3 O0 O1 O2 O3
  have KS : Hid (∀ w', Tch [] v3 w' → Tch [] v3 w' ∧ w'.cell? ⟨gb, 0, none⟩ = some (.int .i64 4) ∧ w'.cell? ⟨gb, 1, none⟩ = some (.map (some bm)) ∧ w'.cell? ⟨gb, 2, none⟩ = some (.map (some am))) := fun w' t => ⟨t, t.val0 z0, t.val0 z1, t.val0 z2⟩
  refine wp_region_noPanic ?_
  refine wp_region_held_drew (S := fun w' => Tch [] v3 w' ∧ w'.cell? ⟨gb, 0, none⟩ = some (.int .i64 4) ∧ w'.cell? ⟨gb, 1, none⟩ = some (.map (some bm)) ∧ w'.cell? ⟨gb, 2, none⟩ = some (.map (some am))) hm (KS.out _ (Tch.refl _ _).drew) (fun hHeld => ?_)
  generalize v3.drew = x0 at *
  refine wpAnyH_take (i := 0) (v := ?_) rfl (by kernel_rfl) (by kernel_rfl) (by kernel_rfl) (fun _ _ _ h => h) (Or.inl ⟨by rfl, ?_⟩) (by assumption) ?_
  rotate_left
  (intro w hSw; (try dsimp only at hSw); go_simp; try (with_reducible rfl))
  try simp only [Act.put, List.setIfInBounds_toArray, List.set_cons_zero, List.set_cons_succ]
  refine wpAnyH_take (i := 1) (v := ?_) rfl (by kernel_rfl) (by kernel_rfl) (by kernel_rfl) (fun _ _ _ h => h) (Or.inl ⟨by rfl, ?_⟩) (by assumption) ?_
  rotate_left
  (intro w hSw; (try dsimp only at hSw); go_simp; try (with_reducible rfl))
  try simp only [Act.put, List.setIfInBounds_toArray, List.set_cons_zero, List.set_cons_succ]
  refine wpAnyH_ready (rs := [2]) (by kernel_rfl) (by simp) (AllReadyH.cons rfl (fun Kq hK => ?_) AllReadyH.nil)
  go_simp
  go_at_call 11
  refine (HOF.out _ hHeld.1).mono ?_
  rintro e x1 ⟨mb, pa, pc, ua, uc, ea, ec, L, pl, up, enf, pr, rfl, tv, dt, hl, hL9, _, t7⟩
  refine hK.out _ _ (KS.out _ (hHeld.1.trans t7)) (fun hH2 => ?_)
  clear hHeld hK Kq
  have hHeld := hH2
  clear hH2
  try simp only [Act.put, List.setIfInBounds_toArray, List.set_cons_zero, List.set_cons_succ]
  have TV := hid tv
  have DT := hid dt
  have HL := hid hl.out
  have TX := hid hHeld.1
  clear tv dt hl t7
  have HFO := hid (HFR.out x1 TX.out TV.out DT.out HL.out hL9)
  refine wpAnyH_ready (rs := [3]) (by kernel_rfl) (by simp) (AllReadyH.cons rfl (fun Kq hK => ?_) AllReadyH.nil)
  go_simp
  go_at_call 19
  refine HFO.out.mono ?_
  rintro e x2 ⟨fb, lo2, vS, Sf, rfl, fr, hs, _, t8⟩
  refine hK.out _ _ (KS.out _ (hHeld.1.trans t8)) (fun hH2 => ?_)
  clear hHeld hK Kq
  have hHeld := hH2
  clear hH2
  try simp only [Act.put, List.setIfInBounds_toArray, List.set_cons_zero, List.set_cons_succ]
  have FR := hid fr
  have HS := hid hs
  have TF := hid hHeld.1
  clear fr hs t8
  refine wpAnyH_take (i := 4) (v := ?_) rfl (by kernel_rfl) (by kernel_rfl) (by kernel_rfl) (fun _ _ _ h => h) (Or.inl ⟨by rfl, ?_⟩) (by assumption) ?_
  rotate_left
  (intro w hSw; (try dsimp only at hSw); go_simp; try (with_reducible rfl))
  try simp only [Act.put, List.setIfInBounds_toArray, List.set_cons_zero, List.set_cons_succ]
  refine wpAnyH_done (by kernel_rfl) (NoPanic.normal ?_) _
  obtain ⟨h1, h0⟩ := awF_told DT.out RCH.out
  have e1 : Sf 1 = [3] := rise_one (FR.out.up 1) (fun y => (HS.out 1 y).trans (h1 y))
  have e0 : Sf 0 = [] := nil_of (fun y hy => h0 y ((HS.out 0 y).1 hy))
  have c1 := FR.out.cell (i := 1) (by omega)
  have c0 := FR.out.cell (i := 0) (by omega)
  have g1 := FR.out.r 1
  have g0 := FR.out.r 0
  rw [e1] at g1
  rw [e0] at g0
  change x2.cell? ⟨fb, 1, none⟩ = some (vS 1) at c1
  change x2.cell? ⟨fb, 0, none⟩ = some (vS 0) at c0
  obtain ⟨a1, b1, hv1⟩ := seg_slice g1
  obtain ⟨a0, b0, hv0⟩ := seg_slice g0
  rw [hv1] at c1 g1
  rw [hv0] at c0 g0
  have SG1 := hid g1
  have SG0 := hid g0
  have HH : Hid (∀ W, Tch [] x2 W → Calls Try.prog 21 #[.agg #[.slice a1 1 b1], .int .i64 3] W fun e w' => e = .returned (.bool true) ∧ w' = W.alloc (.cells #[.slice a1 1 b1] 52)) := fun W t => hasOf_I _ [3] 3 W (SG1.out.kept t (by simp)) (by simp [Rise]) (by simp)
  have HL1 : Hid (∀ W, Tch [] x2 W → Calls Try.prog 26 #[.agg #[.slice a1 1 b1]] W fun e w' => e = .returned (.int .i64 1) ∧ w' = W.alloc (.cells #[.slice a1 1 b1] 52)) := fun W t => len_I _ [3] W (SG1.out.kept t (by simp))
  have HL0 : Hid (∀ W, Tch [] x2 W → Calls Try.prog 26 #[.agg #[.slice a0 0 b0]] W fun e w' => e = .returned (.int .i64 0) ∧ w' = W.alloc (.cells #[.slice a0 0 b0] 52)) := fun W t => len_I _ [] W (SG0.out.kept t (by simp))
  clear h1 h0 e1 e0 g1 g0 hv1 hv0 SG1 SG0 z0 z1 z2 KS hHeld
  have X0 := hid (Tch.refl [] x2)
  simp only [valsI, List.map_cons, List.map_nil, List.length_cons, List.length_nil] at c1 c0
  go_wp2_with (first
    | (go_at_call 21; refine (HH.out _ X0.out).mono ?_; rintro e y1 ⟨rfl, rfl⟩; have X1 := hid (X0.out.alloc (.cells #[.slice a1 1 b1] 52)); generalize x2.alloc (.cells #[.slice a1 1 b1] 52) = y1 at *; replace c1 := X1.out.val0 c1; replace c0 := X1.out.val0 c0)
    | (go_at_call 26; refine (HL1.out _ X1.out).mono ?_; rintro e y2 ⟨rfl, rfl⟩; have X2 := hid (X1.out.alloc (.cells #[.slice a1 1 b1] 52)); have c02 := ((Tch.refl [] y1).alloc (.cells #[.slice a1 1 b1] 52)).val0 c0; generalize y1.alloc (.cells #[.slice a1 1 b1] 52) = y2 at *)
    | (go_at_call 26; refine (HL0.out _ X2.out).mono ?_; rintro e y3 ⟨rfl, rfl⟩; have X3 := hid (X2.out.alloc (.cells #[.slice a0 0 b0] 52))))
  go_ret
  exact ⟨rfl, (T4.out.trans TF.out).trans X3.out⟩
end Go.Proofs.Ytpmdeilnkholgaa


/- FrontOf (P9.1): its walk. -/
set_option linter.unusedSimpArgs false
set_option linter.unusedVariables false
namespace Go.Proofs.Ytpmdeilnkholgaa
open Go.RowKit Go.Sort Go.Maps

theorem DTree.frB {F A : Int → List Int} {pl up : List Int} {enf : Nat → Int} {pr : Nat → Nat} (h : DTree F pl up enf pr) {n m : Nat} (hn : 0 < n) (fa : FA n m F A) (a b : Nat) : frT F pl enf a b ↔ Go.Proofs.Ytpmdeilnkholgaa.frB F n a b = true := by
  have hF : ∀ p, ∀ x ∈ F p, 0 ≤ x ∧ x < n := fun p x hx => (fa.rng p x hx).2
  unfold Go.Proofs.Ytpmdeilnkholgaa.frB
  rw [frK_iff]
  constructor
  · rintro ⟨u, h1, h2, h3⟩
    obtain ⟨hu, _⟩ := fa.rng u b h1
    obtain ⟨un, rfl⟩ : ∃ un : Nat, u = un := ⟨u.toNat, by omega⟩
    refine ⟨un, by omega, ?_⟩
    unfold frC
    rw [← h.tb hn hF, ← h.tb hn hF, h2, decide_eq_true h1, Bool.true_and, Bool.true_and, Bool.or_eq_true, decide_eq_true_eq]
    rcases h3 with e | e
    · exact .inl (by omega)
    · exact .inr (by rw [e]; rfl)
  · rintro ⟨u, hu, hc⟩
    unfold frC at hc
    rw [← h.tb hn hF, ← h.tb hn hF, Bool.and_eq_true, Bool.and_eq_true, Bool.or_eq_true, decide_eq_true_eq, decide_eq_true_eq] at hc
    obtain ⟨h1, h2, h3⟩ := hc
    refine ⟨u, h1, h2, ?_⟩
    rcases h3 with e | e
    · exact .inl (by omega)
    · exact .inr (by simpa using e)
set_option maxRecDepth 100000 in
set_option maxHeartbeats 16000000 in
theorem frontOf_light (N : Int) (ea : Option Addr) (ec : Nat) (es : List (Int × Int)) (w : World) (hE : EdgOk w N (.slice ea es.length ec) es) (hL : es.length ≤ 40) :
    Calls Try.prog 4 #[.agg #[.int .u8 N, .slice ea es.length ec]] w fun e w' => e = .returned (.bool true) ∧ Tch [] w w' := by
  obtain ⟨n, hn, hn1, hn2⟩ := edg_n hE.r
  have HE := hid hE
  have HN := hid hn
  have hmo : Try.prog.follows .mixedOrders = true := by kernel_rfl
  clear hE hn
  go_enter Try.func4, Try.ntmps4
  go_upto_region 1 with fail
  have T0 := hid ((Tch.refl [] w).alloc (.cells #[.int .u8 N, .slice ea es.length ec] 24))
  have O0 := hid (heap_alloc_new w (.cells #[.int .u8 N, .slice ea es.length ec] 24))
  generalize w.alloc (.cells #[.int .u8 N, .slice ea es.length ec] 24) = w0 at *
  have HA := hid (awake_f w0)
  go_upto_region 3 with (go_at_call 18; refine HA.out.mono ?_; rintro e w1 ⟨rfl, t1⟩; have T1 := hid (T0.out.trans t1); have O1 := hid (t1.obj O0.out (by simp)); clear t1)
  have y0 := cell_of_row _ _ 0 _ _ _ O1.out
  have y1 := cell_of_row _ _ 1 _ _ _ O1.out
  simp only [List.getElem?_toArray, List.getElem?_cons_zero, List.getElem?_cons_succ] at y0 y1
  have HLi := hid (lightG_any N ea es.length ec w1)
  rw [show decide (((es.length : Nat) : Int) ≤ 40) = true by simp; omega] at HLi
  clear HA T0 O0
  go_upto_region 5 with (go_at_call 9; refine HLi.out.mono ?_; rintro e w2 ⟨rfl, g2⟩; have T2 := hid (T1.out.trans g2.tch); replace y0 := g2.val y0; replace y1 := g2.val y1; clear g2)
  have HS := hid (sgraph_any N (.slice ea es.length ec) es n w2 (HE.out.r) HN.out (HE.out.tch T2.out).c HE.out.w (by omega))
  clear HLi T1 O1
  go_upto_region 6 with (go_at_call 10; refine HS.out.mono ?_; rintro e w3 ⟨K, lo, bm, am, lb, vF, vA, vL, A, rfl, gl3, fa3, t3, hK, q1, q2, q3⟩; have GL3 := hid gl3; have FA3 := hid fa3; have T3 := hid (T2.out.trans t3); clear gl3 fa3 t3)
  have t4 : Tch [] w3 (w3.alloc (.cells #[.int .i64 n, .map (some bm), .map (some am)] 28)) := (Tch.refl [] w3).alloc _
  have o4 := heap_alloc_new w3 (.cells #[.int .i64 n, .map (some bm), .map (some am)] 28)
  generalize w3.alloc (.cells #[.int .i64 n, .map (some bm), .map (some am)] 28) = w4 at *
  have GL4 := hid (GL3.out.tch t4)
  have T4 := hid (T3.out.trans t4)
  have O4 := hid o4
  generalize hF : edgF n es = F at *
  clear GL3 T3 t4 o4 HS T2 q1 q2 q3 y0 y1 HE HN hF
  generalize w3.heap.size = gb at *
  have z0 := cell_of_row _ _ 0 _ _ _ O4.out
  have z1 := cell_of_row _ _ 1 _ _ _ O4.out
  have z2 := cell_of_row _ _ 2 _ _ _ O4.out
  simp only [List.getElem?_toArray, List.getElem?_cons_zero, List.getElem?_cons_succ] at z0 z1 z2
  have HOF : Hid (∀ W, Tch [] w4 W → Calls Try.prog 11 #[.agg #[.int .i64 n, .map (some bm), .map (some am)]] W fun e w' => OfQ F W w' e) := fun W t => of_all (n0 := n) (GL4.out.tch t).g (FA3.out.mono (by omega)) (by omega) (by omega)
  have HFR : Hid (∀ W, Tch [] w4 W → ∀ {mb pc uc ec2 L : Nat} {pa ua ea2 : Option Addr} {pl up : List Int} {enf : Nat → Int} {pr : Nat → Nat}, TrV W mb (.slice pa L pc) (.slice ua L uc) (.slice ea2 L ec2) pl up ((List.range pl.length).map enf) → DTree F pl up enf pr → pl.length = L → L ≤ 900 → Calls Try.prog 19 #[.agg #[.int .i64 n, .map (some bm), .map (some am)], .agg #[.slice pa L pc, .slice ua L uc, .slice ea2 L ec2, .map (some mb)]] W fun e w' => FOfP F pl enf n W w' e) := fun W t => fun tv dt hL hL9 => frontOf_any (n := n) (GL4.out.tch t).g FA3.out tv dt hL (by omega) hL9
  have KS : Hid (∀ w', Tch [] w4 w' → Tch [] w4 w' ∧ w'.cell? ⟨gb, 0, none⟩ = some (.int .i64 n) ∧ w'.cell? ⟨gb, 1, none⟩ = some (.map (some bm)) ∧ w'.cell? ⟨gb, 2, none⟩ = some (.map (some am))) := fun w' t => ⟨t, t.val0 z0, t.val0 z1, t.val0 z2⟩
  refine wp_region_noPanic ?_
  refine wp_region_held_drew (S := fun w' => Tch [] w4 w' ∧ w'.cell? ⟨gb, 0, none⟩ = some (.int .i64 n) ∧ w'.cell? ⟨gb, 1, none⟩ = some (.map (some bm)) ∧ w'.cell? ⟨gb, 2, none⟩ = some (.map (some am))) hmo (KS.out _ (Tch.refl _ _).drew) (fun hHeld => ?_)
  generalize w4.drew = x0 at *
  refine wpAnyH_take (i := 0) (v := ?_) rfl (by kernel_rfl) (by kernel_rfl) (by kernel_rfl) (fun _ _ _ h => h) (Or.inl ⟨by rfl, ?_⟩) (by assumption) ?_
  rotate_left
  (intro w hSw; (try dsimp only at hSw); go_simp; try (with_reducible rfl))
  try simp only [Act.put, List.setIfInBounds_toArray, List.set_cons_zero, List.set_cons_succ]
  refine wpAnyH_take (i := 1) (v := ?_) rfl (by kernel_rfl) (by kernel_rfl) (by kernel_rfl) (fun _ _ _ h => h) (Or.inl ⟨by rfl, ?_⟩) (by assumption) ?_
  rotate_left
  (intro w hSw; (try dsimp only at hSw); go_simp; try (with_reducible rfl))
  try simp only [Act.put, List.setIfInBounds_toArray, List.set_cons_zero, List.set_cons_succ]
  refine wpAnyH_ready (rs := [2]) (by kernel_rfl) (by simp) (AllReadyH.cons rfl (fun Kq hK => ?_) AllReadyH.nil)
  go_simp
  go_at_call 11
  refine (HOF.out _ hHeld.1).mono ?_
  rintro e x1 ⟨mb, pa, pc, ua, uc, ea2, ec2, L, pl, up, enf, pr, rfl, tv, dt, hl, hL9, _, t7⟩
  refine hK.out _ _ (KS.out _ (hHeld.1.trans t7)) (fun hH2 => ?_)
  clear hHeld hK Kq
  have hHeld := hH2
  clear hH2
  try simp only [Act.put, List.setIfInBounds_toArray, List.set_cons_zero, List.set_cons_succ]
  have TV := hid tv
  have DT := hid dt
  have HL := hid hl.out
  have TX := hid hHeld.1
  clear tv dt hl t7
  have HFO := hid (HFR.out x1 TX.out TV.out DT.out HL.out hL9)
  refine wpAnyH_ready (rs := [3]) (by kernel_rfl) (by simp) (AllReadyH.cons rfl (fun Kq hK => ?_) AllReadyH.nil)
  go_simp
  go_at_call 19
  refine HFO.out.mono ?_
  rintro e x2 ⟨fb, lo2, vS, Sf, rfl, fr, hs, hfb, t8⟩
  refine hK.out _ _ (KS.out _ (hHeld.1.trans t8)) (fun hH2 => ?_)
  clear hHeld hK Kq
  have hHeld := hH2
  clear hH2
  try simp only [Act.put, List.setIfInBounds_toArray, List.set_cons_zero, List.set_cons_succ]
  have FR := hid fr
  have HS := hid hs
  have TF := hid hHeld.1
  have HFB : Hid (x1.heap.size ≤ fb) := hfb
  clear fr hs t8 hfb
  refine wpAnyH_take (i := 4) (v := ?_) rfl (by kernel_rfl) (by kernel_rfl) (by kernel_rfl) (fun _ _ _ h => h) (Or.inl ⟨by rfl, ?_⟩) (by assumption) ?_
  rotate_left
  (intro w hSw; (try dsimp only at hSw); go_simp; try (with_reducible rfl))
  try simp only [Act.put, List.setIfInBounds_toArray, List.set_cons_zero, List.set_cons_succ]
  refine wpAnyH_done (by kernel_rfl) (NoPanic.normal ?_) _
  have HLF : Hid ((∀ x, (F x).length ≤ 100) ∧ ∀ x, (A x).length ≤ 100) := ⟨FA3.out.lf, FA3.out.la⟩
  have HRG := hid FA3.out.rngN
  have HRF := hid (rfront_any (GL4.out.tch TF.out).r HRG.out (by omega) (fun x => by have := HLF.out.1 x; omega))
  have EQ : Hid (∀ a b : Nat, hasI b (Sf a) = frB F n a b) := fun a b => by
    rw [Bool.eq_iff_iff, has_iffI, HS.out, DT.out.frB (by omega) FA3.out]
  clear z0 z1 z2 KS hHeld HOF HFR HFO
  go_upto_region 8 with (go_at_call 20; refine HRF.out.mono ?_; rintro e w7 ⟨v7, vT, rfl, tb7⟩; have TB7 := hid tb7; have hs7 := tb7.s; obtain ⟨ob, oo, oc, hv7⟩ := hs7.ptr (by omega); subst hv7; clear tb7 hs7)
  have T7 : Hid (Tch [] x2 w7) := TB7.out.t
  have FR7 := hid (FR.out.tch T7.out)
  clear HRF
  have hnn : ((n : Int) != (n : Int)) = false := by simp
  go_wp2_with fail
  go_loopw [7, 8, 32] (fun _ _ vi wr => ∃ a : Nat, vi = .int .i64 a ∧ a ≤ n ∧ Hid (Tch [] w7 wr)) (fun _ _ vi _ => n - (intOf vi).toNat)
  case atStart => exact ⟨0, rfl, Nat.zero_le _, Tch.refl _ _⟩
  case round =>
    obtain ⟨a, rfl, ha, HT⟩ := hrel
    rename World => wa
    by_cases hlta : a < n
    · go_wp2_with fail
      go_loopw [8, 37] (fun _ vi wr => ∃ b : Nat, vi = .int .i64 b ∧ b ≤ n ∧ Hid (Tch [] w7 wr)) (fun _ vi _ => n - (intOf vi).toNat)
      case atStart => exact ⟨0, rfl, Nat.zero_le _, HT.out⟩
      case round =>
        obtain ⟨b, rfl, hb, HT2⟩ := hrel
        rename World => wi
        clear HT
        by_cases hltb : b < n
        · obtain ⟨ob2, oo2, q, hoo, cr, cq⟩ := TB7.out.cells hlta hltb
          cases hoo
          rw [← EQ.out a b] at cq
          have cr := HT2.out.val0 cr
          have cq := HT2.out.val0 cq
          have cs := HT2.out.val0 (FR7.out.cell hlta)
          obtain ⟨sa, sc, hsv⟩ := seg_slice (FR7.out.r a)
          rw [hsv] at cs
          have hle := FR7.out.len a
          have HHA : Hid (∀ W, Tch [] wi W → Calls Try.prog 21 #[.agg #[.slice sa (valsI (Sf a)).length sc], .int .i64 b] W fun e w' => e = .returned (.bool (hasI b (Sf a))) ∧ w' = W.alloc (.cells #[.slice sa (valsI (Sf a)).length sc] 52)) := fun W t => by
            have h1 := (FR7.out.r a).kept (HT2.out.trans t) (by simp)
            rw [hsv] at h1
            exact hasOf_I _ (Sf a) b W h1 (FR7.out.up a) (by omega)
          generalize hasI b (Sf a) = hv at *
          clear hsv hle
          go_upto_region 16 with fail
          have KS2 : Hid (∀ w', Tch [] wi w' → Tch [] wi w' ∧ w'.cell? ⟨fb, a, none⟩ = some (.slice sa (valsI (Sf a)).length sc) ∧ w'.cell? ⟨ob, oo + a, none⟩ = some (.slice (some ⟨q, 0, none⟩) n n) ∧ w'.cell? ⟨q, b, none⟩ = some (.bool hv)) := fun w' t => ⟨t, t.val0 cs, t.val0 cr, t.val0 cq⟩
          refine wp_region_noPanic ?_
          refine wp_region_held_drew (S := fun w' => Tch [] wi w' ∧ w'.cell? ⟨fb, a, none⟩ = some (.slice sa (valsI (Sf a)).length sc) ∧ w'.cell? ⟨ob, oo + a, none⟩ = some (.slice (some ⟨q, 0, none⟩) n n) ∧ w'.cell? ⟨q, b, none⟩ = some (.bool hv)) hmo (KS2.out _ (Tch.refl _ _).drew) (fun hHeld => ?_)
          generalize wi.drew = y0 at *
          refine wpAnyH_take (i := 0) (v := ?_) rfl (by kernel_rfl) (by kernel_rfl) (by kernel_rfl) (fun _ _ _ h => h) (Or.inl ⟨by rfl, ?_⟩) (by assumption) ?_
          rotate_left
          (intro w hSw; (try dsimp only at hSw); go_simp; try (with_reducible rfl))
          try simp only [Act.put, List.setIfInBounds_toArray, List.set_cons_zero, List.set_cons_succ]
          refine wpAnyH_take (i := 1) (v := ?_) rfl (by kernel_rfl) (by kernel_rfl) (by kernel_rfl) (fun _ _ _ h => h) (Or.inl ⟨by rfl, ?_⟩) (by assumption) ?_
          rotate_left
          (intro w hSw; (try dsimp only at hSw); go_simp; try (with_reducible rfl))
          try simp only [Act.put, List.setIfInBounds_toArray, List.set_cons_zero, List.set_cons_succ]
          refine wpAnyH_take (i := 2) (v := ?_) rfl (by kernel_rfl) (by kernel_rfl) (by kernel_rfl) (fun _ _ _ h => h) (Or.inl ⟨by rfl, ?_⟩) (by assumption) ?_
          rotate_left
          (intro w hSw; (try dsimp only at hSw); go_simp; try (with_reducible rfl))
          try simp only [Act.put, List.setIfInBounds_toArray, List.set_cons_zero, List.set_cons_succ]
          refine wpAnyH_take (i := 3) (v := ?_) rfl (by kernel_rfl) (by kernel_rfl) (by kernel_rfl) (fun _ _ _ h => h) (Or.inl ⟨by rfl, ?_⟩) (by assumption) ?_
          rotate_left
          (intro w hSw; (try dsimp only at hSw); go_simp; try (with_reducible rfl))
          try simp only [Act.put, List.setIfInBounds_toArray, List.set_cons_zero, List.set_cons_succ]
          refine wpAnyH_take (i := 4) (v := ?_) rfl (by kernel_rfl) (by kernel_rfl) (by kernel_rfl) (fun _ _ _ h => h) (Or.inl ⟨by rfl, ?_⟩) (by assumption) ?_
          rotate_left
          (intro w hSw; (try dsimp only at hSw); go_simp; try (with_reducible rfl))
          try simp only [Act.put, List.setIfInBounds_toArray, List.set_cons_zero, List.set_cons_succ]
          refine wpAnyH_take (i := 6) (v := ?_) rfl (by kernel_rfl) (by kernel_rfl) (by kernel_rfl) (fun _ _ _ h => h) (Or.inl ⟨by rfl, ?_⟩) (by assumption) ?_
          rotate_left
          (intro w hSw; (try dsimp only at hSw); go_simp; try (with_reducible rfl))
          try simp only [Act.put, List.setIfInBounds_toArray, List.set_cons_zero, List.set_cons_succ]
          refine wpAnyH_take (i := 7) (v := ?_) rfl (by kernel_rfl) (by kernel_rfl) (by kernel_rfl) (fun _ _ _ h => h) (Or.inl ⟨by rfl, ?_⟩) (by assumption) ?_
          rotate_left
          (intro w hSw; (try dsimp only at hSw); go_simp; try (with_reducible rfl))
          try simp only [Act.put, List.setIfInBounds_toArray, List.set_cons_zero, List.set_cons_succ]
          refine wpAnyH_take (i := 8) (v := ?_) rfl (by kernel_rfl) (by kernel_rfl) (by kernel_rfl) (fun _ _ _ h => h) (Or.inl ⟨by rfl, ?_⟩) (by assumption) ?_
          rotate_left
          (intro w hSw; (try dsimp only at hSw); go_simp; try (with_reducible rfl))
          try simp only [Act.put, List.setIfInBounds_toArray, List.set_cons_zero, List.set_cons_succ]
          refine wpAnyH_take (i := 9) (v := ?_) rfl (by kernel_rfl) (by kernel_rfl) (by kernel_rfl) (fun _ _ _ h => h) (Or.inl ⟨by rfl, ?_⟩) (by assumption) ?_
          rotate_left
          (intro w hSw; (try dsimp only at hSw); go_simp; try (with_reducible rfl))
          try simp only [Act.put, List.setIfInBounds_toArray, List.set_cons_zero, List.set_cons_succ]
          refine wpAnyH_take (i := 10) (v := ?_) rfl (by kernel_rfl) (by kernel_rfl) (by kernel_rfl) (fun _ _ _ h => h) (Or.inl ⟨by rfl, ?_⟩) (by assumption) ?_
          rotate_left
          (intro w hSw; (try dsimp only at hSw); go_simp; try (with_reducible rfl))
          try simp only [Act.put, List.setIfInBounds_toArray, List.set_cons_zero, List.set_cons_succ]
          refine wpAnyH_take (i := 11) (v := ?_) rfl (by kernel_rfl) (by kernel_rfl) (by kernel_rfl) (fun _ _ _ h => h) (Or.inl ⟨by rfl, ?_⟩) (by assumption) ?_
          rotate_left
          (intro w hSw; (try dsimp only at hSw); go_simp; try (with_reducible rfl))
          try simp only [Act.put, List.setIfInBounds_toArray, List.set_cons_zero, List.set_cons_succ]
          refine wpAnyH_take (i := 12) (v := ?_) rfl (by kernel_rfl) (by kernel_rfl) (by kernel_rfl) (fun _ _ _ h => h) (Or.inl ⟨by rfl, ?_⟩) (by assumption) ?_
          rotate_left
          (intro w hSw; (try dsimp only at hSw); go_simp; try (with_reducible rfl))
          try simp only [Act.put, List.setIfInBounds_toArray, List.set_cons_zero, List.set_cons_succ]
          refine wpAnyH_ready (rs := [5]) (by kernel_rfl) (by simp) (AllReadyH.cons rfl (fun Kq hK => ?_) AllReadyH.nil)
          go_simp
          go_at_call 21
          refine (HHA.out _ hHeld.1).mono ?_
          rintro e y1 ⟨rfl, rfl⟩
          refine hK.out _ _ (KS2.out _ (hHeld.1.alloc _)) (fun hH2 => ?_)
          clear hHeld hK Kq
          have hHeld := hH2
          clear hH2
          try simp only [Act.put, List.setIfInBounds_toArray, List.set_cons_zero, List.set_cons_succ]
          have TY := hid hHeld.1
          generalize y0.alloc (.cells #[.slice sa (valsI (Sf a)).length sc] 52) = y1 at *
          refine wpAnyH_take (i := 13) (v := ?_) rfl (by kernel_rfl) (by kernel_rfl) (by kernel_rfl) (fun _ _ _ h => h) (Or.inl ⟨by rfl, ?_⟩) (by assumption) ?_
          rotate_left
          (intro w hSw; (try dsimp only at hSw); go_simp; try (with_reducible rfl))
          try simp only [Act.put, List.setIfInBounds_toArray, List.set_cons_zero, List.set_cons_succ]
          refine wpAnyH_done (by kernel_rfl) (NoPanic.normal ?_) _
          have TN : Hid (Tch [] w7 y1) := HT2.out.trans TY.out
          clear KS2 TY hHeld cs cr cq HHA
          cases hv
          · go_wp2_with fail
            go_roundw
            case rel => exact ⟨b + 1, by go_num, by omega, TN.out⟩
            case measure => simp [intOf]; omega
          · go_wp2_with fail
            go_roundw
            case rel => exact ⟨b + 1, by go_num, by omega, TN.out⟩
            case measure => simp [intOf]; omega
        · have hbf : ¬ ((b : Int) < (n : Int)) := by omega
          go_wp2_with fail
          go_roundw
          case rel => exact ⟨a + 1, by go_num, by omega, HT2.out⟩
          case measure => simp [intOf]; omega
    · have haf : ¬ ((a : Int) < (n : Int)) := by omega
      go_wp2_with fail
      go_ret
      exact ⟨rfl, ((T4.out.trans TF.out).trans T7.out).trans HT.out⟩
set_option maxRecDepth 100000 in
set_option maxHeartbeats 4000000 in
theorem frontOf_heavy (N : Int) (ea : Option Addr) (ec m : Nat) (w : World) (hL : 40 < m) :
    Calls Try.prog 4 #[.agg #[.int .u8 N, .slice ea m ec]] w fun e w' => e = .returned (.bool true) ∧ Tch [] w w' := by
  go_enter Try.func4, Try.ntmps4
  go_upto_region 1 with fail
  have T0 := hid ((Tch.refl [] w).alloc (.cells #[.int .u8 N, .slice ea m ec] 24))
  have O0 := hid (heap_alloc_new w (.cells #[.int .u8 N, .slice ea m ec] 24))
  generalize w.alloc (.cells #[.int .u8 N, .slice ea m ec] 24) = w0 at *
  have HA := hid (awake_f w0)
  go_upto_region 3 with (go_at_call 18; refine HA.out.mono ?_; rintro e w1 ⟨rfl, t1⟩; have T1 := hid (T0.out.trans t1); have O1 := hid (t1.obj O0.out (by simp)); clear t1)
  have y0 := cell_of_row _ _ 0 _ _ _ O1.out
  have y1 := cell_of_row _ _ 1 _ _ _ O1.out
  simp only [List.getElem?_toArray, List.getElem?_cons_zero, List.getElem?_cons_succ] at y0 y1
  have HLi := hid (lightG_any N ea m ec w1)
  rw [show decide (((m : Nat) : Int) ≤ 40) = false by simp; omega] at HLi
  clear HA T0 O0
  go_wp2_with (go_at_call 9; refine HLi.out.mono ?_; rintro e w2 ⟨rfl, g2⟩; have T2 := hid (T1.out.trans g2.tch); clear g2)
  go_ret
  exact ⟨rfl, T2.out⟩

theorem frontOf_every (N : Int) (ev : Value) (es : List (Int × Int)) (w : World) (hE : EdgOk w N ev es) :
    Calls Try.prog 4 #[.agg #[.int .u8 N, ev]] w fun e w' => e = .returned (.bool true) ∧ Tch [] w w' := by
  obtain ⟨ea, ec, rfl, _⟩ := hE.c.shape
  by_cases h : es.length ≤ 40
  · exact frontOf_light N ea ec es w hE h
  · exact frontOf_heavy N ea ec es.length w (by omega)
end Go.Proofs.Ytpmdeilnkholgaa

