/-
  conclavelaw01.TermShut answers true for every input.
-/
import Derived.Test.YtddjihlmlfchdaaPure
import Derived.Test.YtddjihlmlfchdaaArgs
import Derived.Deep.DeepCutAuto
namespace Go.Proofs.Ytddjihlmlfchdaa
open Go.RowKit
set_option linter.unusedSimpArgs false
set_option linter.unusedVariables false

section
variable {w0 w : World} {s : Nat} {ns : List Nd} {dr : Int}
theorem pub_ok (h : Mine w0 s w ns dr) (hw : Wf ns) (hl : (ns.length : Int) < 262144) (a : Int) (ha : hasB ns a = true) :
    Calls Try.prog 17 #[.pointer (some ⟨s, 0, none⟩), .int .i64 a] w fun e w' => ∃ t ns', e = .returned (.int .i64 t) ∧ Mine w0 s w' ns' dr ∧ Made ns ns' t (nPub a) := by
  obtain ⟨t, ns', hk, hm⟩ := makeF_ok hw (fits_pub ha) hl
  refine (pub_mine h a hk).mono ?_
  rintro e w' ⟨rfl, hx⟩
  exact ⟨t, ns', rfl, hx, hm⟩
theorem text_ok (h : Mine w0 s w ns dr) (hw : Wf ns) (hl : (ns.length : Int) < 262144) (l : ByteArray) (ha : l.size ≤ 1024) :
    Calls Try.prog 16 #[.pointer (some ⟨s, 0, none⟩), .string l] w fun e w' => ∃ t ns', e = .returned (.int .i64 t) ∧ Mine w0 s w' ns' dr ∧ Made ns ns' t (nText l) := by
  obtain ⟨t, ns', hk, hm⟩ := makeF_ok hw (fits_text ns ha) hl
  refine (text_mine h l hk).mono ?_
  rintro e w' ⟨rfl, hx⟩
  exact ⟨t, ns', rfl, hx, hm⟩
theorem pair_ok (h : Mine w0 s w ns dr) (hw : Wf ns) (hl : (ns.length : Int) < 262144) (a b : Int) (ha : hasB ns a = true) (hb : hasB ns b = true) :
    Calls Try.prog 27 #[.pointer (some ⟨s, 0, none⟩), .int .i64 a, .int .i64 b] w fun e w' => ∃ t ns', e = .returned (.int .i64 t) ∧ Mine w0 s w' ns' dr ∧ Made ns ns' t (nPair a b) := by
  obtain ⟨t, ns', hk, hm⟩ := makeF_ok hw (fits_pair ha hb) hl
  refine (pair_mine h a b hk).mono ?_
  rintro e w' ⟨rfl, hx⟩
  exact ⟨t, ns', rfl, hx, hm⟩
theorem seal_ok (h : Mine w0 s w ns dr) (hw : Wf ns) (hl : (ns.length : Int) < 262144) (a b : Int) (ha : hasB ns a = true) (hb : hasB ns b = true) :
    Calls Try.prog 18 #[.pointer (some ⟨s, 0, none⟩), .int .i64 a, .int .i64 b] w fun e w' => ∃ t ns', e = .returned (.int .i64 t) ∧ Mine w0 s w' ns' dr ∧ Made ns ns' t (nSeal a b) := by
  obtain ⟨t, ns', hk, hm⟩ := makeF_ok hw (fits_seal ha hb) hl
  refine (seal_mine h a b hk).mono ?_
  rintro e w' ⟨rfl, hx⟩
  exact ⟨t, ns', rfl, hx, hm⟩
theorem box_ok (h : Mine w0 s w ns dr) (hw : Wf ns) (hl : (ns.length : Int) < 262144) (a b : Int) (ha : (nodeF ns a).kind = 6) (hb : hasB ns b = true) :
    Calls Try.prog 19 #[.pointer (some ⟨s, 0, none⟩), .int .i64 a, .int .i64 b] w fun e w' => ∃ t ns', e = .returned (.int .i64 t) ∧ Mine w0 s w' ns' dr ∧ Made ns ns' t (nBox a b) := by
  obtain ⟨t, ns', hk, hm⟩ := makeF_ok hw (fits_box ha hb) hl
  refine (box_mine h a b hk).mono ?_
  rintro e w' ⟨rfl, hx⟩
  exact ⟨t, ns', rfl, hx, hm⟩
theorem sign_ok (h : Mine w0 s w ns dr) (hw : Wf ns) (hl : (ns.length : Int) < 262144) (a b : Int) (ha : hasB ns a = true) (hb : hasB ns b = true) :
    Calls Try.prog 20 #[.pointer (some ⟨s, 0, none⟩), .int .i64 a, .int .i64 b] w fun e w' => ∃ t ns', e = .returned (.int .i64 t) ∧ Mine w0 s w' ns' dr ∧ Made ns ns' t (nSign a b) := by
  obtain ⟨t, ns', hk, hm⟩ := makeF_ok hw (fits_sign ha hb) hl
  refine (sign_mine h a b hk).mono ?_
  rintro e w' ⟨rfl, hx⟩
  exact ⟨t, ns', rfl, hx, hm⟩
theorem fresh_ok (h : Mine w0 s w ns dr) (hw : Wf ns) (hl : (ns.length : Int) < 262144) (d0 : 0 ≤ dr) (d1 : dr < 1099511627776) :
    Calls Try.prog 15 #[.pointer (some ⟨s, 0, none⟩)] w fun e w' => ∃ t ns', e = .returned (.int .i64 t) ∧ Mine w0 s w' ns' (dr + 1) ∧ Made ns ns' t (atom (dr + 1)) := by
  obtain ⟨t, ns', hk, hm⟩ := makeF_ok hw (fits_atom ns (a := dr + 1) (by omega) (by omega)) hl
  refine (fresh_mine h d0 (by omega) hk).mono ?_
  have ht : t ≠ 0 := by have := (hasB_iff _ _).1 hm.has; omega
  rw [if_neg ht]
  rintro e w' ⟨rfl, hx⟩
  exact ⟨t, ns', rfl, hx, hm⟩
end

/-- All that the law asks of sealed, boxed and signed terms, on the list alone. -/
structure ShutF (N : List Nd) (k p pub sealed boxed signed other : Int) : Prop where
  o1 : openB N k sealed = true
  o2 : openF N k sealed = p
  u1 : unboxB N k boxed = true
  u2 : unboxF N k boxed = p
  v1 : verifyB N pub p signed = true
  o3 : other ≠ k → openB N other sealed = false
  u3 : other ≠ k → unboxB N other boxed = false
  v2 : other ≠ pub → verifyB N other p signed = false
  v3 : other ≠ p → verifyB N pub other signed = false
  v4 : other ≠ signed → verifyB N pub p other = false

theorem pubB_iff (N : List Nd) (pub sec : Int) : pubB N pub sec = true ↔ nodeF N pub = nPub sec := by
  unfold pubB nPub
  exact Nd.beq_iff _ _

theorem shut_facts {N : List Nd} {k p pub sealed boxed signed : Int} (other : Int) (hw : Wf N) (hb : hasB N pub = true) (hs : hasB N signed = true)
    (e1 : nodeF N pub = nPub k) (e2 : nodeF N sealed = nSeal k p) (e3 : nodeF N boxed = nBox pub p) (e4 : nodeF N signed = nSign k p) : ShutF N k p pub sealed boxed signed other := by
  have o1 : openB N k sealed = true := by simp [openB, e2, nSeal]
  have hp : pubB N pub k = true := (pubB_iff _ _ _).2 e1
  have u1 : unboxB N k boxed = true := by simp [unboxB, e3, nBox, hp]
  have hno : ∀ x, x ≠ k → pubB N pub x = false := fun x hx => by
    cases h : pubB N pub x
    · rfl
    · have := (pubB_iff _ _ _).1 h
      rw [e1] at this
      simp [nPub] at this
      exact absurd this.symm hx
  refine ⟨o1, by simp [openF, o1, e2, nSeal], u1, by simp [unboxF, u1, e3, nBox], by simp [verifyB, e4, nSign, hp], ?_, ?_, ?_, ?_, ?_⟩
  · intro h
    simp [openB, e2, nSeal]
    exact fun e => h e.symm
  · intro h
    simp [unboxB, e3, nBox, hno other h]
  · intro h
    cases hv : verifyB N other p signed
    · rfl
    · simp [verifyB, e4, nSign] at hv
      have h1 := (pubB_iff _ _ _).1 hv
      have h2 : hasB N other = true := nodeF_kind_has (by rw [h1]; simp [nPub])
      exact absurd (hw.number h2 hb (by rw [h1, e1])) h
  · intro h
    simp [verifyB, e4, nSign]
    exact fun e => absurd e.symm h
  · intro h
    cases hv : verifyB N pub p other
    · rfl
    · simp only [verifyB, Bool.and_eq_true, beq_iff_eq] at hv
      obtain ⟨h1, h2, h3⟩ := hv
      have h4 : hasB N other = true := nodeF_kind_has (by rw [h1]; decide)
      have h5 : (nodeF N other).a = k := by
        have := (pubB_iff _ _ _).1 h3
        rw [e1] at this
        simp [nPub] at this
        exact this.symm
      have h6 : nodeF N other = nSign k p := by
        have hl := hw.label h4 h1
        cases hn : nodeF N other with | mk k0 l0 a0 b0 =>
        rw [hn] at h1 h2 h5 hl
        simp only at h1 h2 h5 hl
        subst h1 h2 h5 hl
        rfl
      exact absurd (hw.number h4 hs (by rw [h6, e4])) h

theorem open_mine {w0 w : World} {s : Nat} {N : List Nd} {dr : Int} (h : Mine w0 s w N dr) (key t : Int) {r : Int} {ok : Bool} (h1 : openF N key t = r) (h2 : openB N key t = ok) :
    Calls Try.prog 21 #[.pointer (some ⟨s, 0, none⟩), .int .i64 key, .int .i64 t] w fun e w' => e = .returned (.tuple #[.int .i64 r, .bool ok]) ∧ Mine w0 s w' N dr := by
  refine (open_any h.st key t).mono ?_
  rw [h1, h2]
  rintro e w' ⟨rfl, hb⟩
  exact ⟨rfl, h.grow hb⟩
theorem unbox_mine {w0 w : World} {s : Nat} {N : List Nd} {dr : Int} (h : Mine w0 s w N dr) (key t : Int) {r : Int} {ok : Bool} (h1 : unboxF N key t = r) (h2 : unboxB N key t = ok) :
    Calls Try.prog 22 #[.pointer (some ⟨s, 0, none⟩), .int .i64 key, .int .i64 t] w fun e w' => e = .returned (.tuple #[.int .i64 r, .bool ok]) ∧ Mine w0 s w' N dr := by
  refine (unbox_any h.st key t).mono ?_
  rw [h1, h2]
  rintro e w' ⟨rfl, hb⟩
  exact ⟨rfl, h.grow hb⟩
theorem verify_mine {w0 w : World} {s : Nat} {N : List Nd} {dr : Int} (h : Mine w0 s w N dr) (a b c : Int) {ok : Bool} (h1 : verifyB N a b c = ok) :
    Calls Try.prog 23 #[.pointer (some ⟨s, 0, none⟩), .int .i64 a, .int .i64 b, .int .i64 c] w fun e w' => e = .returned (.bool ok) ∧ Mine w0 s w' N dr := by
  refine (verify_any h.st a b c).mono ?_
  rw [h1]
  rintro e w' ⟨rfl, hb⟩
  exact ⟨rfl, h.grow hb⟩

set_option maxRecDepth 100000 in
set_option maxHeartbeats 4000000 in
theorem shut_walk {v : Value} {l : List Nd} {w : World} (hl : NodesAt w v l) (key : Int) (wk : (Lit.int .i64 key).wf = true) (plain : Int) (wp : (Lit.int .i64 plain).wf = true) (other : Int) (wo : (Lit.int .i64 other).wf = true) :
    Calls Try.prog 4 #[v, .int .i64 key, .int .i64 plain, .int .i64 other] w fun e w' => e = .returned (.bool true) ∧ Below w.heap.size w w' := by
  clear wk wp wo
  obtain ⟨a, cap, rfl, hlen, hne⟩ := id hl
  go_enter Try.func4, Try.ntmps4
  go_wp2_with fail
  refine (anchor_any w).mono ?_
  rintro e w1 ⟨rfl, hb⟩
  go_wp2_with fail
  refine (new_mine w w1 hb).mono ?_
  rintro e w2 ⟨s, rfl, m2⟩
  clear hb
  go_wp2_with fail
  go_loopw [34] (fun i wr => ∃ k : Nat, k ≤ l.length ∧ i = .int .i64 k ∧ ∃ ns, Mine w s wr ns 0 ∧ Wf ns ∧ ns.length ≤ k ∧ (ns.length : Int) ≤ 2000) (fun i _ => l.length - (intOf i).toNat)
  case atStart => exact ⟨0, Nat.zero_le _, rfl, [], m2, Wf.nil, by simp, by simp⟩
  case round =>
    obtain ⟨k, hk, rfl, ns, mr, hwf, hnk, hn2⟩ := hrel
    by_cases hlt : k < l.length
    · obtain ⟨b, off, rfl, hbl, hc⟩ := hne (by rintro rfl; simp at hlt)
      obtain ⟨n, hn⟩ : ∃ n, l[k]? = some n := ⟨l[k], by simp [hlt]⟩
      obtain ⟨c0, c1, c2, c3⟩ := hc k n hn
      have hbr : b < wr.heap.size := Nat.lt_of_lt_of_le hbl mr.below.size
      have d0 := (mr.below.cell (p := ⟨b, off + k * 4, none⟩) hbl).trans c0
      have d1 := (mr.below.cell (p := ⟨b, off + k * 4 + 1, none⟩) hbl).trans c1
      have d2 := (mr.below.cell (p := ⟨b, off + k * 4 + 2, none⟩) hbl).trans c2
      have d3 := (mr.below.cell (p := ⟨b, off + k * 4 + 3, none⟩) hbl).trans c3
      have Hn : Hid (l[k]? = some n) := hn
      clear c0 c1 c2 c3 hn hc
      by_cases h3 : (k : Int) < 2000
      · go_wp2_with fail
        refine (make_any (mr.grow ?_).st n).mono ?_
        · exact (Below.refl _ _).alloc (Nat.le_refl _) _
        rintro e w4 ⟨rfl, hst, hmv⟩
        have m4 := (mr.grow ((Below.refl _ _).alloc (Nat.le_refl _) _)).moved hst hmv
        have hle : (makeF ns n).2.2.length ≤ ns.length + 1 := by
          rcases makeF_cases ns n with ⟨_, e⟩ | ⟨_, j, _, e⟩ | ⟨_, _, _, e⟩ | ⟨_, _, _, e⟩ <;> rw [e] <;> simp
        go_wp2_with fail
        go_roundw
        case rel => exact ⟨k + 1, by omega, by go_num, _, m4, hwf.make n, by omega, by omega⟩
        case measure => simp [intOf]; omega
      · go_wp2_with fail
        go_roundw
        case rel => exact ⟨k + 1, by omega, by go_num, ns, mr.grow ((Below.refl _ _).alloc (Nat.le_refl _) _), hwf, by omega, hn2⟩
        case measure => simp [intOf]; omega
    · go_wp2_with fail
      clear hne hl hlt hk hnk
      refine (fresh_ok mr hwf (by omega) (by omega) (by omega)).mono ?_
      rintro e w5 ⟨f, ns5, rfl, m5, k5⟩
      go_wp2_with fail
      refine (text_ok m5 k5.wf (by have := k5.len; omega) ⟨#[112]⟩ (by decide)).mono ?_
      rintro e w6 ⟨p, ns6, rfl, m6, k6⟩
      have l6 : (ns6.length : Int) ≤ 2002 := by have := k5.len; have := k6.len; omega
      have hf6 := (k6.keeps k5.has).1
      have hp6 := k6.has
      have wf6 := k6.wf
      clear mr m5 hwf hn2 k5 k6
      go_upto_region 13 with fail
      go_cut [56] (fun x wx => x = .bool (hasB ns6 key) ∧ wx = w6)
      case first =>
        by_cases h1 : 1 ≤ key
        · go_wp2_with fail
          refine (len_mine m6).mono ?_
          rintro e w7 ⟨rfl, rfl⟩
          go_wp2_with fail
          go_meet
          exact ⟨by simp [hasB, h1], rfl⟩
        · have h1' : decide (1 ≤ key) = false := dec_false h1
          go_wp2_with fail
          go_meet
          exact ⟨by simp only [hasB, h1', Bool.false_and], rfl⟩
      case rest =>
        obtain ⟨rfl, rfl⟩ := hcut
        go_upto_if 56 with fail
        go_cut [12] (fun x wx => ∃ kk, x = .int .i64 kk ∧ hasB ns6 kk = true ∧ wx = wc)
        case first =>
          cases hkey : hasB ns6 key
          all_goals go_wp2_with fail
          · go_meet
            exact ⟨_, rfl, hf6, rfl⟩
          · go_meet
            exact ⟨_, rfl, hkey, rfl⟩
        case rest =>
          obtain ⟨kk, rfl, hkk, rfl⟩ := hcut
          clear hf6
          go_upto_region 15 with fail
          go_cut [65] (fun x wx => x = .bool (hasB ns6 plain) ∧ wx = wc)
          case first =>
            by_cases h1 : 1 ≤ plain
            · go_wp2_with fail
              refine (len_mine m6).mono ?_
              rintro e w7 ⟨rfl, rfl⟩
              go_wp2_with fail
              go_meet
              exact ⟨by simp [hasB, h1], rfl⟩
            · have h1' : decide (1 ≤ plain) = false := dec_false h1
              go_wp2_with fail
              go_meet
              exact ⟨by simp only [hasB, h1', Bool.false_and], rfl⟩
          case rest =>
            obtain ⟨rfl, rfl⟩ := hcut
            go_upto_if 65 with fail
            go_cut [13] (fun x wx => ∃ pp, x = .int .i64 pp ∧ hasB ns6 pp = true ∧ wx = wc)
            case first =>
              cases hkey : hasB ns6 plain
              all_goals go_wp2_with fail
              · go_meet
                exact ⟨_, rfl, hp6, rfl⟩
              · go_meet
                exact ⟨_, rfl, hkey, rfl⟩
            case rest =>
              obtain ⟨pp, rfl, hpp, rfl⟩ := hcut
              clear hp6
              go_wp2_with fail
              refine (pub_ok m6 wf6 (by omega) kk hkk).mono ?_
              rintro e w7 ⟨pub, ns7, rfl, m7, k7⟩
              have hk7 := (k7.keeps hkk).1
              have hp7 := (k7.keeps hpp).1
              go_wp2_with fail
              refine (seal_ok m7 k7.wf (by have := k7.len; omega) kk pp hk7 hp7).mono ?_
              rintro e w8 ⟨sealed, ns8, rfl, m8, k8⟩
              have hk8 := (k8.keeps hk7).1
              have hp8 := (k8.keeps hp7).1
              have hb8 := (k8.keeps k7.has)
              go_wp2_with fail
              refine (box_ok m8 k8.wf (by have := k7.len; have := k8.len; omega) pub pp (by rw [hb8.2, k7.node]; rfl) hp8).mono ?_
              rintro e w9 ⟨boxed, ns9, rfl, m9, k9⟩
              have hk9 := (k9.keeps hk8).1
              have hp9 := (k9.keeps hp8).1
              have hb9 := (k9.keeps hb8.1)
              have hs9 := (k9.keeps k8.has)
              go_wp2_with fail
              refine (sign_ok m9 k9.wf (by have := k7.len; have := k8.len; have := k9.len; omega) kk pp hk9 hp9).mono ?_
              rintro e w10 ⟨signed, N, rfl, m10, k10⟩
              have hb10 := (k10.keeps hb9.1)
              have hs10 := (k10.keeps hs9.1)
              have hx10 := (k10.keeps k9.has)
              have F : ShutF N kk pp pub sealed boxed signed other := shut_facts other k10.wf hb10.1 k10.has (by rw [hb10.2, hb9.2, hb8.2, k7.node]) (by rw [hs10.2, hs9.2, k8.node]) (by rw [hx10.2, k9.node]) k10.node
              clear m6 m7 m8 m9 k7 k8 k9 k10 hb8 hb9 hb10 hs9 hs10 hx10 hk7 hk8 hk9 hp7 hp8 hp9 hkk hpp wf6
              go_wp2_with fail
              refine (len_mine m10).mono ?_
              rintro e w11 ⟨rfl, rfl⟩
              go_wp2_with fail
              refine (open_mine m10 _ _ F.o2 F.o1).mono ?_
              rintro e w12 ⟨rfl, m12⟩
              clear m10
              go_wp2_with fail
              refine (unbox_mine m12 _ _ F.u2 F.u1).mono ?_
              rintro e w13 ⟨rfl, m13⟩
              clear m12
              go_wp2_with fail
              refine (verify_mine m13 _ _ _ F.v1).mono ?_
              rintro e w14 ⟨rfl, m14⟩
              clear m13
              go_upto_if 124 with fail
              go_cut [8] (fun x wx => x = .bool false ∧ Mine w s wx N (0 + 1))
              case first =>
                by_cases a0 : other = kk
                · have b0 : (other != kk) = false := by simp [a0]
                  clear a0
                  go_wp2_with fail
                  go_meet
                  exact ⟨rfl, m14⟩
                · have b0 : (other != kk) = true := by simp [a0]
                  go_wp2_with fail
                  refine (open_mine m14 _ _ rfl (F.o3 a0)).mono ?_
                  rintro e w15 ⟨rfl, m15⟩
                  go_wp2_with fail
                  refine (unbox_mine m15 _ _ rfl (F.u3 a0)).mono ?_
                  rintro e w16 ⟨rfl, m16⟩
                  go_wp2_with fail
                  go_meet
                  exact ⟨rfl, m16⟩
              case rest =>
                obtain ⟨rfl, m17⟩ := hcut
                clear m14
                go_upto_region 29 with fail
                go_cut [176] (fun x wx => x = .bool false ∧ Mine w s wx N (0 + 1))
                case first =>
                  by_cases a1 : other = pub
                  · have b1 : (other != pub) = false := by simp [a1]
                    clear a1
                    by_cases a2 : other = pp
                    · have b2 : (other != pp) = false := by simp [a2]
                      clear a2
                      by_cases a3 : other = signed
                      · have b3 : (other != signed) = false := by simp [a3]
                        clear a3
                        go_wp2_with fail
                        go_meet
                        exact ⟨rfl, m17⟩
                      · have b3 : (other != signed) = true := by simp [a3]
                        go_wp2_with fail
                        refine (verify_mine m17 _ _ _ (F.v4 a3)).mono ?_
                        rintro e wv2 ⟨rfl, mv2⟩
                        go_wp2_with fail
                        go_meet
                        exact ⟨rfl, mv2⟩
                    · have b2 : (other != pp) = true := by simp [a2]
                      by_cases a3 : other = signed
                      · have b3 : (other != signed) = false := by simp [a3]
                        clear a3
                        go_wp2_with fail
                        refine (verify_mine m17 _ _ _ (F.v3 a2)).mono ?_
                        rintro e wv1 ⟨rfl, mv1⟩
                        go_wp2_with fail
                        go_meet
                        exact ⟨rfl, mv1⟩
                      · have b3 : (other != signed) = true := by simp [a3]
                        go_wp2_with fail
                        refine (verify_mine m17 _ _ _ (F.v3 a2)).mono ?_
                        rintro e wv1 ⟨rfl, mv1⟩
                        go_wp2_with fail
                        refine (verify_mine mv1 _ _ _ (F.v4 a3)).mono ?_
                        rintro e wv2 ⟨rfl, mv2⟩
                        go_wp2_with fail
                        go_meet
                        exact ⟨rfl, mv2⟩
                  · have b1 : (other != pub) = true := by simp [a1]
                    by_cases a2 : other = pp
                    · have b2 : (other != pp) = false := by simp [a2]
                      clear a2
                      by_cases a3 : other = signed
                      · have b3 : (other != signed) = false := by simp [a3]
                        clear a3
                        go_wp2_with fail
                        refine (verify_mine m17 _ _ _ (F.v2 a1)).mono ?_
                        rintro e wv0 ⟨rfl, mv0⟩
                        go_wp2_with fail
                        go_meet
                        exact ⟨rfl, mv0⟩
                      · have b3 : (other != signed) = true := by simp [a3]
                        go_wp2_with fail
                        refine (verify_mine m17 _ _ _ (F.v2 a1)).mono ?_
                        rintro e wv0 ⟨rfl, mv0⟩
                        go_wp2_with fail
                        refine (verify_mine mv0 _ _ _ (F.v4 a3)).mono ?_
                        rintro e wv2 ⟨rfl, mv2⟩
                        go_wp2_with fail
                        go_meet
                        exact ⟨rfl, mv2⟩
                    · have b2 : (other != pp) = true := by simp [a2]
                      by_cases a3 : other = signed
                      · have b3 : (other != signed) = false := by simp [a3]
                        clear a3
                        go_wp2_with fail
                        refine (verify_mine m17 _ _ _ (F.v2 a1)).mono ?_
                        rintro e wv0 ⟨rfl, mv0⟩
                        go_wp2_with fail
                        refine (verify_mine mv0 _ _ _ (F.v3 a2)).mono ?_
                        rintro e wv1 ⟨rfl, mv1⟩
                        go_wp2_with fail
                        go_meet
                        exact ⟨rfl, mv1⟩
                      · have b3 : (other != signed) = true := by simp [a3]
                        go_wp2_with fail
                        refine (verify_mine m17 _ _ _ (F.v2 a1)).mono ?_
                        rintro e wv0 ⟨rfl, mv0⟩
                        go_wp2_with fail
                        refine (verify_mine mv0 _ _ _ (F.v3 a2)).mono ?_
                        rintro e wv1 ⟨rfl, mv1⟩
                        go_wp2_with fail
                        refine (verify_mine mv1 _ _ _ (F.v4 a3)).mono ?_
                        rintro e wv2 ⟨rfl, mv2⟩
                        go_wp2_with fail
                        go_meet
                        exact ⟨rfl, mv2⟩
                case rest =>
                  obtain ⟨rfl, m18⟩ := hcut
                  go_wp2_with fail
                  refine (len_mine m18).mono ?_
                  rintro e w19 ⟨rfl, rfl⟩
                  go_wp2_with fail
                  go_ret
                  exact ⟨rfl, m18.below⟩

end Go.Proofs.Ytddjihlmlfchdaa
