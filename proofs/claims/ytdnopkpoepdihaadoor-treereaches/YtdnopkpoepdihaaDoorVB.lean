/-
  The law TreeReaches.
-/
import Derived.Test.YtdnopkpoepdihaaDoorVA
import Derived.Deep.QuietTactic
import Derived.BigQuiet
namespace Go.Proofs.YtdnopkpoepdihaaDoor
open Go.RowKit
set_option linter.unusedSimpArgs false
set_option linter.unusedVariables false

theorem mem_take_one {L : List Int} {q : Nat} {y : Int} (h : L[q]? = some y) (j : Int) : decide (j ∈ L.take (q + 1)) = (decide (j ∈ L.take q) || (y == j)) := by
  rw [List.take_add_one, h]
  have e : (y == j) = decide (j = y) := by
    by_cases hq : y = j
    · simp [hq]
    · simp [hq, Ne.symm hq]
  rw [e]
  simp

theorem filter_take {L : List Int} {q : Nat} {y : Int} (h : L[q]? = some y) (p : Int → Bool) : ((L.take (q + 1)).filter p).length = ((L.take q).filter p).length + one (p y) := by
  rw [List.take_add_one, h]
  cases hp : p y <;> simp [hp, one]

set_option maxHeartbeats 8000000 in
set_option maxRecDepth 100000 in
theorem reaches_walk (u : PV) (h : Value) (i : Int) {w : World} {vs : Value} {l : List (POp × Value)} (hs : ScriptAt w vs l) (hT : Tab w) :
    Calls Tryd.prog 5 #[u.val h, vs, .int .i64 i] w fun e w' => e = .returned (.bool true) ∧ Below w.heap.size w w' := by
  have hT1 := hT.size
  have hG := Good.grown u (l.map (·.1))
  have hgr : ∀ W, ScriptAt W vs l → Calls Tryd.prog 30 #[u.val h, vs] W fun e w' => ∃ v', e = .returned v' ∧ TreeAt w' v' (grownF u (l.map (·.1))) ∧ Below W.heap.size W w' := fun W hW => grown_any u h hW
  obtain ⟨T, hTT⟩ : ∃ T, grownF u (l.map (·.1)) = T := ⟨_, rfl⟩
  rw [hTT] at hG hgr
  clear hTT
  obtain ⟨w0, hw0⟩ : ∃ w0, w.alloc (.cells (leafCells u h) 24) = w0 := ⟨_, rfl⟩
  have b0 : Below w.heap.size w w0 := by rw [← hw0]; exact (Below.refl _ _).alloc (Nat.le_refl _) _
  have hz0 : w.heap.size < w0.heap.size := by rw [← hw0]; simp
  have bc : ∀ r, w0.cell? ⟨w.heap.size, r, none⟩ = (leafCells u h)[r]? := fun r => by rw [← hw0]; simp
  have hT0 := hT.below b0 hT1
  have hs0 := hs.below b0
  unfold leafCells at hw0
  unfold PV.val at hgr
  unfold PV.val
  go_enter Tryd.func5, Tryd.ntmps5
  go_wp2_with (rw [hw0])
  refine (anchor_any hT0).mono ?_
  rintro e w1 ⟨rfl, b1⟩
  have hs1 := hs0.below b1
  obtain ⟨c0, c1, c2, c3, c4, c5⟩ := leaf_cells b1 hz0 bc
  clear hw0
  go_wp2_with fail
  refine (hgr w1 hs1).mono ?_
  rintro e w2 ⟨v2, rfl, t2, b2⟩
  clear c0 c1 c2 c3 c4 c5
  have b12 := on b1 b2
  have hT2 := hT0.below b12 (by omega)
  have b02 := on b0 b12
  have hfb := refFull_any t2 hG.sh i
  have hfi := Filtered_any hG.fit i t2 hT2
  have hfl := filt_len T i
  have hbT := hG.sh.bounds
  have ilv : (lv T : Int) ≤ 32 := by omega
  clear hgr hs hs0 hs1 b1 b2 b12 hT hT0 bc b0 hz0
  cases hi : fullB T i with
  | false =>
    rw [hi] at hfb
    go_wp2_with first
      | (go_at_call 23; refine (refLeaves_any t2).mono ?_; rintro e w' ⟨rfl, hw⟩; obtain rfl := hw.symm)
      | (go_at_call 31; refine hfb.mono ?_; rintro e w' ⟨rfl, hw⟩; obtain rfl := hw.symm)
    go_ret
    exact ⟨rfl, b02⟩
  | true =>
    rw [hi] at hfb
    have HML : Hid (((members T).length : Int) ≤ 32) := by
      have := membersN_len T (lv T)
      show ((membersN T (lv T)).length : Int) ≤ _
      omega
    have Hi : Hid (fullB T i = true) := hi
    have HG : Hid (Good T) := hG
    have HbT : Hid (1 ≤ lv T ∧ lv T ≤ 32 ∧ List.length T + 1 = 2 * lv T ∧ List.length T ≤ 63 ∧ 1 ≤ List.length T) := hbT
    have i1 : (T.length : Int) ≤ 63 := by omega
    clear hi hG hbT
    go_wp2_with first
      | (go_at_call 23; refine (refLeaves_any t2).mono ?_; rintro e w' ⟨rfl, hw⟩; obtain rfl := hw.symm)
      | (go_at_call 31; refine hfb.mono ?_; rintro e w' ⟨rfl, hw⟩; obtain rfl := hw.symm)
      | (go_at_call 24; refine hfi.mono ?_; rintro e w3 ⟨v31, v32, rfl, m31, m32, b3⟩; have t3 := t2.below b3; have k32 := ownsRow_ints m32 (by simp; omega); clear m31 m32)
      | (go_at_call 20; refine (Members_any t3 HG.out.sh).mono ?_; rintro e w4 ⟨v4, rfl, m4, b4⟩; have k4 := m4.ints (by have := HML.out; omega); obtain ⟨ma, mc, rfl, _, hmc⟩ := id k4; clear m4)
    have b24 := on b3 b4
    have t4 := t2.below b24
    have hT4 := hT2.below b24 hT2.size
    have kc4 : IntsAt w4 v32 (copl T i) := k32.below b4
    have b04 := on b02 b24
    have hcl : (copl T i).length ≤ 7 := by unfold copl; simp; omega
    have HM : Hid (∀ y ∈ members T, ∃ J : Nat, y = J ∧ fullB T J = true ∧ J < lv T) := fun y hy => by
      have hf := mem_members.1 hy
      obtain ⟨k, rfl, hk, _⟩ := fullB_nat hf
      exact ⟨k, rfl, hf, hk⟩
    have Hin : Hid (∀ c ∈ copl T i, inB c (lv T) = true) := copl_in HG.out Hi.out
    have Hall : Hid (∀ J : Nat, fullB T J = true → reach T J (copl T i) (copl T i).length = one (!decide ((J : Int) = i))) := fun J hJ => reach_all HG.out Hi.out hJ
    have Hle : Hid (∀ (J : Nat) (m : Nat), fullB T J = true → m ≤ (copl T i).length → reach T J (copl T i) m ≤ m) := fun J m hJ hm => reach_le HG.out Hi.out hJ m hm
    obtain ⟨C, hC⟩ : ∃ C, copl T i = C := ⟨_, rfl⟩
    rw [hC] at kc4 hcl Hin Hall Hle
    obtain ⟨ca, cc, rfl, _, hcc⟩ := id kc4
    have i2 : (C.length : Int) ≤ 7 := by omega
    have i3 : ((members T).length : Int) ≤ 32 := HML.out
    obtain ⟨M, hM⟩ : ∃ M, members T = M := ⟨_, rfl⟩
    rw [hM] at hmc HM i3
    rw [hM]
    have Hmc : Hid (M ≠ [] → ∃ b off, ma = some ⟨b, off, none⟩ ∧ b < w4.heap.size ∧ ∀ (i : Nat) (x : Int), M[i]? = some x → w4.cell? ⟨b, off + i, none⟩ = some (.int .i64 x)) := hmc
    have Hcc : Hid (C ≠ [] → ∃ b off, ca = some ⟨b, off, none⟩ ∧ b < w4.heap.size ∧ ∀ (i : Nat) (x : Int), C[i]? = some x → w4.cell? ⟨b, off + i, none⟩ = some (.int .i64 x)) := hcc
    have Hcl : Hid (C.length ≤ 7) := hcl
    have HMe : Hid (members T = M) := hM
    obtain ⟨ta, tcap, rfl, _, _⟩ := id t4
    have q27 : ∀ (w : World) (a : Option Addr) (n c : Nat), (Builtin.len_ #[27] 3 #[.slice a n c]).run Tryd.prog w = .ok (goInt n) w := fun w a n c => run_len_slice w _ _ _ _ _ Tryd.underlying27
    clear hC hM hmc hcc hcl kc4 k32 k4 b3 b4 b24 t2 t3 hT2 b02 hfb hfi hfl
    go_loopw [41] (fun k wr => ∃ a : Nat, a ≤ M.length ∧ k = .int .i64 a ∧ Below w4.heap.size w4 wr) (fun k _ => M.length - (intOf k).toNat)
    case atStart => exact ⟨0, Nat.zero_le _, rfl, Below.refl _ _⟩
    case round =>
      obtain ⟨a, ha, rfl, hB⟩ := hrel
      by_cases hlt : a < M.length
      · obtain ⟨y, hy⟩ : ∃ y, M[a]? = some y := ⟨M[a], by simp [hlt]⟩
        obtain ⟨mb, mo, rfl, hmb, hcell⟩ := Hmc.out (by rintro rfl; simp at hy)
        have n0 := (hB.cell (p := ⟨mb, mo + a, none⟩) hmb).trans (hcell a y hy)
        obtain ⟨J, rfl, hJ, hJl⟩ := HM.out y (List.mem_of_getElem? hy)
        have HJ : Hid (fullB T J = true) := hJ
        have HA : Hid (a + 1 ≤ M.length) := hlt
        have i4 : (a : Int) < (M.length : Int) := by omega
        have i5 : (J : Int) < (lv T : Int) := by omega
        have i6 : 0 ≤ (J : Int) := by omega
        clear hcell hy hlt ha hJ hJl hmb
        go_wp2_with fail
        go_loopw [13, 54] (fun kk k wr2 => ∃ m : Nat, m ≤ C.length ∧ k = .int .i64 m ∧ kk = .int .i64 (reach T J C m : Nat) ∧ Below w4.heap.size w4 wr2) (fun _ k _ => C.length - (intOf k).toNat)
        case atStart => exact ⟨0, Nat.zero_le _, rfl, by simp [reach], hB⟩
        case round =>
          clear hB n0
          obtain ⟨m, hm, rfl, rfl, hB⟩ := hrel
          have hrle := Hle.out J m HJ.out hm
          obtain ⟨K, hK⟩ : ∃ K : Nat, reach T J C m = K := ⟨_, rfl⟩
          rw [hK] at hrle
          rw [hK]
          have i7 : (K : Int) ≤ 7 := by have := Hcl.out; omega
          by_cases hml : m < C.length
          · obtain ⟨c, hc⟩ : ∃ c, C[m]? = some c := ⟨C[m], by simp [hml]⟩
            obtain ⟨cb, co, rfl, hcb, hcell⟩ := Hcc.out (by rintro rfl; simp at hc)
            have n1 := (hB.cell (p := ⟨cb, co + m, none⟩) hcb).trans (hcell m c hc)
            have hin := Hin.out c (List.mem_of_getElem? hc)
            have HR1 : Hid (reach T J C (m + 1) = K + ((resI T c).filter (hit T J (lv T))).length) := by show _ = _; rw [reach_succ T J hc, hK]
            have HRp : Hid (∀ y ∈ resI T c, ∃ X : Nat, y = X ∧ X < T.length ∧ (vx T X).full = true) := fun y hy => by
              rw [resI_in HG.out.sh hin] at hy
              exact res_place HG.out 6 c hin y hy
            have hrl := resI_len HG.out.fit c
            have HM1 : Hid (m + 1 ≤ C.length) := hml
            have i8 : (m : Int) < (C.length : Int) := by omega
            have tr := t4.below hB
            have hrs := Resolution_any HG.out.fit c tr (hT4.below hB hT4.size)
            clear hK hrle hcell hc hcb hin hml hm
            go_wp2_with (go_at_call 26; refine hrs.mono ?_; rintro e w6 ⟨v6, rfl, m6, b6⟩; have k6 := ownsRow_ints m6 (by omega); obtain ⟨ra, rc, rfl, _, hrc⟩ := id k6; clear m6)
            obtain ⟨R, hR⟩ : ∃ R, resI T c = R := ⟨_, rfl⟩
            rw [hR] at hrc HRp hrl HR1
            rw [hR]
            have i9 : (R.length : Int) ≤ 2112 := by omega
            have Hrc : Hid (R ≠ [] → ∃ b off, ra = some ⟨b, off, none⟩ ∧ b < w6.heap.size ∧ ∀ (i : Nat) (x : Int), R[i]? = some x → w6.cell? ⟨b, off + i, none⟩ = some (.int .i64 x)) := hrc
            have t6 := tr.below b6
            have HB6 : Hid (Below w4.heap.size w4 w6) := on hB b6
            clear hrs k6 hrc hR hrl tr hB b6 n1
            go_loop [13, 62] (fun kk k => ∃ q : Nat, q ≤ R.length ∧ k = .int .i64 q ∧ kk = .int .i64 ((K : Int) + (((R.take q).filter (hit T J (lv T))).length : Nat))) (fun _ k => R.length - (intOf k).toNat)
            case atStart => exact ⟨0, Nat.zero_le _, rfl, by simp⟩
            case round =>
              obtain ⟨q, hq, rfl, rfl⟩ := hrel
              have hQl : ((R.take q).filter (hit T J (lv T))).length ≤ R.length := Nat.le_trans (List.length_filter_le _ _) (by simp; omega)
              by_cases hql : q < R.length
              · obtain ⟨x, hx⟩ : ∃ x, R[q]? = some x := ⟨R[q], by simp [hql]⟩
                obtain ⟨rb, ro, rfl, hrb, hcell⟩ := Hrc.out (by rintro rfl; simp at hx)
                have n2 := hcell q x hx
                obtain ⟨X, rfl, hX, hXf⟩ := HRp.out x (List.mem_of_getElem? hx)
                have HQ : Hid (((R.take (q + 1)).filter (hit T J (lv T))).length = ((R.take q).filter (hit T J (lv T))).length + one (hit T J (lv T) (X : Int))) := filter_take hx _
                obtain ⟨Z, hZ⟩ : ∃ Z : Nat, ((R.take q).filter (hit T J (lv T))).length = Z := ⟨_, rfl⟩
                rw [hZ] at HQ hQl
                rw [hZ]
                have i10 : (Z : Int) ≤ 2112 := by omega
                have i11 : (q : Int) < (R.length : Int) := by omega
                have HQ1 : Hid (q + 1 ≤ R.length) := hql
                obtain ⟨tb, toff, _, th, et, htb, tc0, tc1, tc2, tc3, tc4, tc5, tc6⟩ := t6.get (vx_some hX)
                simp only [Value.slice.injEq] at et
                obtain ⟨rfl, -, -⟩ := et
                rw [hXf] at tc0
                obtain ⟨L, hL⟩ : ∃ L, (vx T X).late = L := ⟨_, rfl⟩
                rw [hL] at tc6
                have hLl : L.length ≤ 32 := by
                  have := (HG.out.fit.small X _ (vx_some hX)).1
                  rwa [hL] at this
                have Hhit : Hid (hit T J (lv T) (X : Int) = (underB (2 * (J : Int)) X (lv T) && !decide ((J : Int) ∈ L))) := by
                  show _ = _
                  unfold hit
                  rw [Int.toNat_natCast, hL]
                obtain ⟨la, lc, rfl, _, hlc⟩ := id tc6
                have Hlc : Hid (L ≠ [] → ∃ b off, la = some ⟨b, off, none⟩ ∧ b < w6.heap.size ∧ ∀ (i : Nat) (x : Int), L[i]? = some x → w6.cell? ⟨b, off + i, none⟩ = some (.int .i64 x)) := hlc
                have i12 : (X : Int) < (T.length : Int) := by omega
                have i13 : (L.length : Int) ≤ 32 := by omega
                clear hlc tc6 hL hLl hXf hX hx hcell hrb hZ hQl hql hq
                go_wp2_with (rw [q27])
                go_loop [18, 88] (fun b k => ∃ p : Nat, p ≤ L.length ∧ k = .int .i64 p ∧ b = .bool (decide ((J : Int) ∈ L.take p))) (fun _ k => L.length - (intOf k).toNat)
                case atStart => exact ⟨0, Nat.zero_le _, rfl, by simp⟩
                case round =>
                  obtain ⟨p, hp, rfl, rfl⟩ := hrel
                  by_cases hpl : p < L.length
                  · obtain ⟨y, hy⟩ : ∃ y, L[p]? = some y := ⟨L[p], by simp [hpl]⟩
                    obtain ⟨lb, lo, rfl, hlb, hcell⟩ := Hlc.out (by rintro rfl; simp at hy)
                    have n3 := hcell p y hy
                    have He : Hid (decide ((J : Int) ∈ L.take (p + 1)) = (decide ((J : Int) ∈ L.take p) || (y == (J : Int)))) := mem_take_one hy _
                    have i14 : (p : Int) < (L.length : Int) := by omega
                    have HP : Hid (p + 1 ≤ L.length) := hpl
                    obtain ⟨B, hBB⟩ : ∃ B, decide ((J : Int) ∈ L.take p) = B := ⟨_, rfl⟩
                    rw [hBB] at He
                    rw [hBB]
                    clear hBB hcell hlb hy hp hpl Hlc
                    cases B with
                    | true =>
                      go_wp2_with fail
                      exact ⟨⟨p + 1, HP.out, by go_num, by rw [He.out]; rfl⟩, by have := HP.out; simp [intOf]; omega⟩
                    | false =>
                      go_wp2_with fail
                      exact ⟨⟨p + 1, HP.out, by go_num, by rw [He.out]; simp⟩, by have := HP.out; simp [intOf]; omega⟩
                  · have i14 : ¬ ((p : Int) < (L.length : Int)) := by omega
                    have ep : L.take p = L := List.take_of_length_le (by omega)
                    rw [ep]
                    obtain ⟨B, hBB⟩ : ∃ B, decide ((J : Int) ∈ L) = B := ⟨_, rfl⟩
                    rw [hBB] at Hhit
                    rw [hBB]
                    have hu := refUnder_any (2 * (J : Int)) (X : Int) (lv T) (w := w6)
                    obtain ⟨S, hS⟩ : ∃ S, underB (2 * (J : Int)) (X : Int) (lv T) = S := ⟨_, rfl⟩
                    rw [hS] at hu Hhit
                    clear hBB hS ep hp hpl Hlc
                    cases S with
                    | false =>
                      have HE : Hid (((R.take (q + 1)).filter (hit T J (lv T))).length = Z) := by show _ = _; rw [HQ.out, Hhit.out]; rfl
                      go_wp2_with (go_at_call 32; refine hu.mono ?_; rintro e w' ⟨rfl, hw⟩; obtain rfl := hw.symm)
                      exact ⟨⟨q + 1, HQ1.out, by go_num, by rw [HE.out]⟩, by have := HQ1.out; simp [intOf]; omega⟩
                    | true =>
                      cases B with
                      | true =>
                        have HE : Hid (((R.take (q + 1)).filter (hit T J (lv T))).length = Z) := by show _ = _; rw [HQ.out, Hhit.out]; rfl
                        go_wp2_with (go_at_call 32; refine hu.mono ?_; rintro e w' ⟨rfl, hw⟩; obtain rfl := hw.symm)
                        exact ⟨⟨q + 1, HQ1.out, by go_num, by rw [HE.out]⟩, by have := HQ1.out; simp [intOf]; omega⟩
                      | false =>
                        have HE : Hid (((R.take (q + 1)).filter (hit T J (lv T))).length = Z + 1) := by show _ = _; rw [HQ.out, Hhit.out]; rfl
                        go_wp2_with (go_at_call 32; refine hu.mono ?_; rintro e w' ⟨rfl, hw⟩; obtain rfl := hw.symm)
                        exact ⟨⟨q + 1, HQ1.out, by go_num, by rw [HE.out]; go_num⟩, by have := HQ1.out; simp [intOf]; omega⟩
              · have i10 : ¬ ((q : Int) < (R.length : Int)) := by omega
                have eq1 : R.take q = R := List.take_of_length_le (by omega)
                rw [eq1]
                rw [eq1] at hQl
                obtain ⟨Z, hZ⟩ : ∃ Z : Nat, (R.filter (hit T J (lv T))).length = Z := ⟨_, rfl⟩
                rw [hZ] at HR1 hQl
                rw [hZ]
                have i11 : (Z : Int) ≤ 2112 := by omega
                clear hZ eq1 hQl hq hql Hrc HRp
                go_wp2_with fail
                go_roundw
                case rel => exact ⟨m + 1, HM1.out, by go_num, by rw [HR1.out]; go_num, HB6.out⟩
                case measure => have := HM1.out; simp [intOf]; omega
          · have em : m = C.length := by omega
            have i8 : ¬ ((m : Int) < (C.length : Int)) := by omega
            have hall := Hall.out J HJ.out
            rw [← em, hK] at hall
            clear hK hrle em hml hm
            by_cases hJi : (J : Int) = i
            · have k1 : ((J : Int) == i) = true := by simp [hJi]
              have k2 : ((J : Int) != i) = false := by simp [hJi]
              have k3 : K = 0 := by rw [hall]; simp [hJi, one]
              subst k3
              clear hall hJi
              go_wp2_with fail
              go_roundw
              case rel => exact ⟨a + 1, HA.out, by go_num, hB⟩
              case measure => have := HA.out; simp [intOf]; omega
            · have k1 : ((J : Int) == i) = false := by simp [hJi]
              have k2 : ((J : Int) != i) = true := by simp [hJi]
              have k3 : K = 1 := by rw [hall]; simp [hJi, one]
              subst k3
              clear hall hJi
              go_wp2_with fail
              go_roundw
              case rel => exact ⟨a + 1, HA.out, by go_num, hB⟩
              case measure => have := HA.out; simp [intOf]; omega
      · have i4 : ¬ ((a : Int) < (M.length : Int)) := by omega
        have tr := t4.below hB
        clear ha hlt
        go_wp2_with first
          | (go_at_call 20; refine (Members_any tr HG.out.sh).mono ?_; rintro e w11 ⟨v11, rfl, m11, b11⟩; rw [HMe.out] at m11; have m11' := m11.ints (by omega); obtain ⟨na, nc, rfl, _⟩ := id m11'; have tr11 := tr.below b11; clear m11)
          | (go_at_call 21; refine (refMembers_any tr11 HG.out.sh).mono ?_; rintro e w12 ⟨v12, rfl, m12, b12⟩; rw [HMe.out] at m12; have m12' := ownsRow_ints m12 (by omega); obtain ⟨oa, oc, rfl, _⟩ := id m12'; clear m12)
        go_ret
        exact ⟨rfl, on b04 (on hB (on b11 b12))⟩

theorem reaches_law {w : World} {v : Value} {a : PV × Value} (hv : VertexAt w v a) {vs : Value} {l : List (POp × Value)} (hs : ScriptAt w vs l) (i : Int) (hi : (Lit.int .i64 i).wf = true) (hT : Tab w) :
    Calls Tryd.prog 5 #[v, vs, .int .i64 i] w fun e w' => e = .returned (.bool true) ∧ Below w.heap.size w w' := by
  obtain ⟨rfl, _⟩ := hv
  exact reaches_walk _ _ _ hs hT

end Go.Proofs.YtdnopkpoepdihaaDoor
