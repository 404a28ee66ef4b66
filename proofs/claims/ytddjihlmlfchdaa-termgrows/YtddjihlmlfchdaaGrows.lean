/-
  conclavelaw01.TermGrows answers true for every input.
-/
import Derived.Test.YtddjihlmlfchdaaPure
import Derived.Test.YtddjihlmlfchdaaArgs
namespace Go.Proofs.Ytddjihlmlfchdaa
open Go.RowKit
set_option linter.unusedSimpArgs false
set_option linter.unusedVariables false

theorem Mine.pure {w0 w : World} {s : Nat} {ns : List Nd} {dr : Int} (h : Mine w0 s w ns dr) {w' : World} (hb : Below w.heap.size w w') : Below w0.heap.size w0 w' := (h.grow hb).below

set_option maxRecDepth 100000 in
set_option maxHeartbeats 2000000 in
theorem grows_walk {v : Value} {l : List Nd} {w : World} (hl : NodesAt w v l) :
    Calls Try.prog 8 #[v] w fun e w' => e = .returned (.bool true) ∧ Below w.heap.size w w' := by
  obtain ⟨a, cap, rfl, hlen, hne⟩ := id hl
  go_enter Try.func8, Try.ntmps8
  go_wp2_with fail
  refine (anchor_any w).mono ?_
  rintro e w1 ⟨rfl, hb⟩
  go_wp2_with fail
  refine (new_mine w w1 hb).mono ?_
  rintro e w2 ⟨s, rfl, m2⟩
  clear hb
  go_wp2_with fail
  go_loopw [16] (fun i wr => ∃ k : Nat, k ≤ l.length ∧ i = .int .i64 k ∧ ∃ ns, Mine w s wr ns 0 ∧ Wf ns) (fun i _ => l.length - (intOf i).toNat)
  case atStart => exact ⟨0, Nat.zero_le _, rfl, [], m2, Wf.nil⟩
  case round =>
    obtain ⟨k, hk, rfl, ns, mr, hwf⟩ := hrel
    by_cases hlt : k < l.length
    · obtain ⟨b, off, rfl, hbl, hc⟩ := hne (by rintro rfl; simp at hlt)
      obtain ⟨n, hn⟩ : ∃ n, l[k]? = some n := ⟨l[k], by simp [hlt]⟩
      obtain ⟨c0, c1, c2, c3⟩ := hc k n hn
      have hbr : b < wr.heap.size := Nat.lt_of_lt_of_le hbl mr.below.size
      have d0 := (mr.below.cell (p := ⟨b, off + k * 4, none⟩) hbl).trans c0
      have d1 := (mr.below.cell (p := ⟨b, off + k * 4 + 1, none⟩) hbl).trans c1
      have d2 := (mr.below.cell (p := ⟨b, off + k * 4 + 2, none⟩) hbl).trans c2
      have d3 := (mr.below.cell (p := ⟨b, off + k * 4 + 3, none⟩) hbl).trans c3
      have Hn : Hid (l[k]? = some n) := hn
      clear c0 c1 c2 c3 hn hc
      by_cases h3 : (k : Int) < 3000
      · go_wp2_with fail
        refine (make_any (mr.grow ?_).st n).mono ?_
        · exact (Below.refl _ _).alloc (Nat.le_refl _) _
        rintro e w4 ⟨rfl, hst, hmv⟩
        have m4 := (mr.grow ((Below.refl _ _).alloc (Nat.le_refl _) _)).moved hst hmv
        go_wp2_with fail
        go_roundw
        case rel => exact ⟨k + 1, by omega, by go_num, _, m4, hwf.make n⟩
        case measure => simp [intOf]; omega
      · go_wp2_with fail
        go_roundw
        case rel => exact ⟨k + 1, by omega, by go_num, ns, mr.grow ((Below.refl _ _).alloc (Nat.le_refl _) _), hwf⟩
        case measure => simp [intOf]; omega
    · have hnl : (ns.length : Int) ≤ 262144 := by obtain ⟨_, _, _, _, _, _, h3⟩ := mr.st; omega
      go_wp2_with fail
      clear hne hl hlt hk
      go_loopw [6] (fun i wx => ∃ j : Nat, j ≤ ns.length ∧ i = .int .i64 ((j : Int) + 1) ∧ Mine w s wx ns 0) (fun i _ => ns.length + 1 - (intOf i).toNat)
      case atStart => exact ⟨0, Nat.zero_le _, rfl, mr⟩
      case round =>
        obtain ⟨j, hj, rfl, mx⟩ := hrel
        by_cases hjl : j < ns.length
        · obtain ⟨n, hn⟩ : ∃ n, ns[j]? = some n := ⟨ns[j], by simp [hjl]⟩
          obtain ⟨p1, p2, p3, p4, p5⟩ := hwf.parts hn
          have hg := get_any mx.st ((j + 1 : Nat) : Int)
          rw [(nodeF_at hn).1, (nodeF_at hn).2, show ((j + 1 : Nat) : Int) = (j : Int) + 1 from by omega] at hg
          unfold Nd.val at hg
          obtain ⟨k1, l1, a1, b1⟩ := n
          simp only at p1 p2 p3 p4 p5 hg
          have HG : Hid (Calls Try.prog 14 #[.pointer (some ⟨s, 0, none⟩), .int .i64 ((j : Int) + 1)] wr fun e w' => e = .returned (.tuple #[.agg #[.int .i64 k1, .string l1, .int .i64 a1, .int .i64 b1], .bool true]) ∧ Below wr.heap.size wr w') := hg
          clear hg hn
          go_wp2_with fail
          refine (len_mine mx).mono ?_
          rintro e w5 ⟨rfl, rfl⟩
          go_wp2_with fail
          refine Calls.mono HG.out ?_
          rintro e w6 ⟨rfl, hb6⟩
          have m6 := mx.grow (hb6.alloc hb6.size (.cells #[.int .i64 k1, .string l1, .int .i64 a1, .int .i64 b1] 27))
          have kd1 : decide (k1 < 1) = false := dec_false (by omega)
          have kd2 : decide (9 < k1) = false := dec_false (by omega)
          by_cases e1 : k1 = 1
          · subst e1
            go_wp2_with fail
            go_roundw
            case rel => exact ⟨j + 1, by omega, by go_num, m6⟩
            case measure => simp [intOf]; omega
          · have e1' : (k1 == 1) = false := by simp [e1]
            by_cases e2 : k1 = 2
            · subst e2
              go_wp2_with fail
              go_roundw
              case rel => exact ⟨j + 1, by omega, by go_num, m6⟩
              case measure => simp [intOf]; omega
            · have e2' : (k1 == 2) = false := by simp [e2]
              obtain ⟨q1, q2⟩ := p5 e1 e2
              have f1 : decide (a1 < 1) = false := dec_false (by omega)
              have f2 : decide ((j : Int) + 1 ≤ a1) = false := dec_false (by omega)
              have f3 : decide (b1 < 0) = false := dec_false (by omega)
              have f4 : decide ((j : Int) + 1 ≤ b1) = false := dec_false (by omega)
              clear p5 e1 e2
              go_wp2_with fail
              go_roundw
              case rel => exact ⟨j + 1, by omega, by go_num, m6⟩
              case measure => simp [intOf]; omega
        · have hjd : decide ((j : Int) + 1 ≤ (ns.length : Int)) = false := dec_false (by omega)
          go_wp2_with fail
          refine (len_mine mx).mono ?_
          rintro e w5 ⟨rfl, rfl⟩
          go_wp2_with fail
          go_ret
          exact ⟨rfl, mx.below⟩

end Go.Proofs.Ytddjihlmlfchdaa
