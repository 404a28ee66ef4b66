/-
  How a list is written.
-/
import Derived.Test.YtjajgllkbchapaaLow
import Derived.Test.YtjajgllkbchapaaWrC
import Derived.Deep.RegionWith
namespace Go.Proofs.Ytjajgllkbchapaa
open Go.RowKit
set_option linter.unusedSimpArgs false
set_option linter.unusedVariables false

/-- A list that lies below B. -/
def LowList {α : Type} (B : Nat) (w0 : World) (rep : Value → α → Prop) (v : Value) (l : List α) : Prop :=
  ∃ a cap, v = .slice a l.length cap ∧ (l.length : Int) ≤ 9223372036854775807 ∧
    (l ≠ [] → ∃ b off, a = some ⟨b, off, none⟩ ∧ b < B ∧ ∀ i x, l[i]? = some x → ∃ u, w0.cell? ⟨b, off + i, none⟩ = some u ∧ rep u x)

def puts {α : Type} (f : α → List UInt8 × Bool) : List α → List UInt8 × Bool
  | [] => ([], true)
  | a :: r => if (f a).2 then ((f a).1 ++ (puts f r).1, (puts f r).2) else ((f a).1, false)

def putList {α : Type} (most : Int) (f : α → List UInt8 × Bool) (l : List α) : List UInt8 × Bool :=
  if (l.length : Int) ≤ most then (enc l.length ++ (puts f l).1, (puts f l).2) else ([], false)

/-- What writing ends in. -/
def wrote (w : World) (p : Nat) (bs : List UInt8) (x : List UInt8 × Bool) (e : Ending) (w' : World) : Prop :=
  e = .returned (.tuple #[]) ∧ WAt w' p (bs ++ x.1) (if x.2 then 0 else 22) ∧ WFr p w w'

set_option maxRecDepth 100000 in
set_option maxHeartbeats 1000000 in
theorem putListInt {α : Type} {B : Nat} {w0 : World} {mb cb : Nat} {most : Int} {rep : Value → α → Prop} {f : α → List UInt8 × Bool} (hmb : mb < B) (hcb : cb < B) (hm : w0.cell? ⟨mb, 0, none⟩ = some (.int .i64 most)) (hm20 : most ≤ 1048576)
    (hc : w0.cell? ⟨cb, 0, none⟩ = some (.func (.func 54) #[] #[])) (hin : ∀ w p bs v a, Low B w0 w → B ≤ p → WAt w p bs 0 → rep v a → ((bs ++ (f a).1).length : Int) ≤ 1099511627776 → Calls Try.prog 54 #[.pointer (some ⟨p, 0, none⟩), v] w (wrote w p bs (f a)))
    {w : World} {p : Nat} {bs : List UInt8} {v : Value} {l : List α} (hlow : Low B w0 w) (hBp : B ≤ p) (h : WAt w p bs 0) (hl : LowList B w0 rep v l) (hlen : ((bs ++ (putList most f l).1).length : Int) ≤ 1099511627776) :
    Calls Try.prog 58 #[.pointer (some ⟨p, 0, none⟩), v, .pointer (some ⟨mb, 0, none⟩), .pointer (some ⟨cb, 0, none⟩)] w (wrote w p bs (putList most f l)) := by
  have hm' : w.cell? ⟨mb, 0, none⟩ = some (.int .i64 most) := by rw [hlow.cell hmb, hm]
  have hlt := h.lt
  obtain ⟨a, cap, rfl, hll, hcell⟩ := hl
  by_cases hmost : (l.length : Int) ≤ most
  · obtain ⟨T, hT⟩ : ∃ T, T = bs ++ (putList most f l).1 := ⟨_, rfl⟩
    obtain ⟨okT, hok⟩ : ∃ okT, okT = (putList most f l).2 := ⟨_, rfl⟩
    have hpl : putList most f l = (enc l.length ++ (puts f l).1, (puts f l).2) := by simp [putList, hmost]
    have HT : Hid (T = bs ++ (enc l.length ++ (puts f l).1)) := by rw [hT, hpl]; rfl
    have Hok : Hid (okT = (puts f l).2) := by rw [hok, hpl]; rfl
    obtain ⟨erT, her⟩ : ∃ erT : Int, erT = if okT then 0 else 22 := ⟨_, rfl⟩
    have HE : Hid (erT = if okT then 0 else 22) := her
    have hE : wrote w p bs (putList most f l) = fun e w' => e = .returned (.tuple #[]) ∧ WAt w' p T erT ∧ WFr p w w' := by
      funext e w'
      rw [wrote, ← hT, ← hok, ← her]
    have hb40 : (bs.length : Int) ≤ 1099511627776 := by rw [List.length_append] at hlen; omega
    have hT40 : (T.length : Int) ≤ 1099511627776 := by rw [hT]; exact hlen
    have H62 : Hid (l.length < 4611686018427387904) := by
      show l.length < _
      omega
    rw [hE]
    clear hE hpl hT hok hlen her
    go_enter Try.func58, Try.ntmps58
    go_wp2_with fail
    refine (count_ok h l.length most hmost H62.out hb40).mono ?_
    rintro e w1 ⟨rfl, h1, f1⟩
    go_wp2_with fail
    go_loopw [6] (fun i wr => ∃ k : Nat, i = .int .i64 k ∧ k ≤ l.length ∧ WFr p w wr ∧ ((∃ cur, WAt wr p cur 0 ∧ T = cur ++ (puts f (l.drop k)).1 ∧ okT = (puts f (l.drop k)).2) ∨ (WAt wr p T 22 ∧ okT = false))) (fun i _ => l.length - (intOf i).toNat)
    case atStart => exact ⟨0, rfl, Nat.zero_le _, f1, Or.inl ⟨_, h1, by rw [List.drop_zero, List.append_assoc]; exact HT.out, by rw [List.drop_zero]; exact Hok.out⟩⟩
    case round =>
      clear h1 f1
      obtain ⟨k, rfl, hk, fr, ⟨cur, h2, hcur, hokk⟩ | ⟨h2, hokk⟩⟩ := hrel
      · obtain ⟨sa, sc, c0, c1, cf, hrow, hlt2, hne⟩ := h2.cells
        have hlow2 : Low B w0 wr := hlow.below ((fr.below hlt).mono hBp)
        have hcc : wr.cell? ⟨cb, 0, none⟩ = some (.func (.func 54) #[] #[]) := by rw [hlow2.cell hcb, hc]
        have Hcur : Hid (T = cur ++ (puts f (l.drop k)).1) := hcur
        have Hokk : Hid (okT = (puts f (l.drop k)).2) := hokk
        clear hcur hokk
        by_cases hkl : k < l.length
        · obtain ⟨b, off, rfl, hbB, hce⟩ := hcell (by rintro rfl; simp at hkl)
          obtain ⟨x, hx⟩ : ∃ x, l[k]? = some x := ⟨l[k], by simp [hkl]⟩
          obtain ⟨u, hu, hru⟩ := hce k x hx
          have hu' : wr.cell? ⟨b, off + k, none⟩ = some u := by rw [hlow2.cell hbB, hu]
          have hdrop : l.drop k = x :: l.drop (k + 1) := by
            rw [List.drop_eq_getElem_cons hkl]
            congr 1
            have := List.getElem?_eq_getElem hkl
            rw [this] at hx
            exact Option.some.inj hx
          have Hd : Hid (l.drop k = x :: l.drop (k + 1)) := hdrop
          have H40 : Hid (((cur ++ (f x).1).length : Int) ≤ 1099511627776) := by
            show _ ≤ _
            have e1 := Hcur.out
            rw [hdrop] at e1
            have : (cur ++ (f x).1).length ≤ T.length := by
              rw [e1]
              simp only [puts]
              split <;> simp
            omega
          clear hx hdrop hu hce
          have hkl' : (k : Int) < l.length := by omega
          go_wp2_with fail
          go_region_with (go_at_call 54; refine (hin wr.drew p cur u x hlow2 hBp h2 hru H40.out).mono ?_; intro e w3 hw3; obtain ⟨he3, h3, f3⟩ := hw3; subst he3)
          all_goals
            have f4 : WFr p wr w3 := ⟨f3.os, f3.tape, f3.output, f3.size, f3.block⟩
            go_wp2_with fail
            go_roundw
            case rel =>
              refine ⟨k + 1, by go_num, by omega, fr.trans f4, ?_⟩
              have e1 := Hcur.out
              have e2 := Hokk.out
              rw [Hd.out] at e1 e2
              cases hfx : (f x).2 with
              | true =>
                rw [hfx] at h3
                simp only [puts, hfx, if_true] at e1 e2 h3
                exact Or.inl ⟨_, h3, by rw [List.append_assoc]; exact e1, e2⟩
              | false =>
                rw [hfx] at h3
                simp only [puts, hfx, Bool.false_eq_true, if_false] at e1 e2 h3
                exact Or.inr ⟨by rw [e1]; exact h3, e2⟩
            case measure => simp [intOf]; omega
        · have hkl' : ¬ (k : Int) < l.length := by omega
          have Hd : Hid (l.drop k = []) := List.drop_of_length_le (by omega)
          go_wp2_with fail
          go_end0
          have e1 := Hcur.out
          have e2 := Hokk.out
          rw [Hd.out] at e1 e2
          simp only [puts, List.append_nil] at e1 e2
          rw [HE.out, e2, e1]
          exact ⟨rfl, h2, fr⟩
      · obtain ⟨sa, sc, c0, c1, cf, hrow, hlt2, hne⟩ := h2.cells
        have Hokk : Hid (okT = false) := hokk
        clear hokk
        by_cases hkl : (k : Int) < l.length
        all_goals go_wp2_with fail
        all_goals go_end0
        all_goals rw [HE.out, Hokk.out]
        all_goals exact ⟨rfl, h2, fr⟩
  · have hbig : putList most f l = ([], false) := by simp [putList, hmost]
    have hgt : most < (l.length : Int) := by omega
    rw [hbig]
    have hE : wrote w p bs ([], false) = fun e w' => e = .returned (.tuple #[]) ∧ WAt w' p bs 22 ∧ WFr p w w' := by
      funext e w'
      simp [wrote]
    rw [hE]
    clear hE hbig hmost
    go_enter Try.func58, Try.ntmps58
    go_wp2_with fail
    refine (count_big h _ _ hgt).mono ?_
    rintro e w1 ⟨rfl, h1, f1⟩
    obtain ⟨sa, sc, c0, c1, cf, hrow, hlt2, hne⟩ := h1.cells
    go_wp2_with fail
    go_loop [6] (fun i => i = .int .i64 0) (fun _ => 0)
    case atStart => rfl
    case round =>
      subst hrel
      by_cases hk : 0 < l.length
      all_goals go_wp2_with fail
      all_goals go_end0
      all_goals exact ⟨rfl, h1, f1⟩

set_option maxRecDepth 100000 in
set_option maxHeartbeats 1000000 in
theorem putListBool {α : Type} {B : Nat} {w0 : World} {mb cb : Nat} {most : Int} {rep : Value → α → Prop} {f : α → List UInt8 × Bool} (hmb : mb < B) (hcb : cb < B) (hm : w0.cell? ⟨mb, 0, none⟩ = some (.int .i64 most)) (hm20 : most ≤ 1048576)
    (hc : w0.cell? ⟨cb, 0, none⟩ = some (.func (.func 65) #[] #[])) (hin : ∀ w p bs v a, Low B w0 w → B ≤ p → WAt w p bs 0 → rep v a → ((bs ++ (f a).1).length : Int) ≤ 1099511627776 → Calls Try.prog 65 #[.pointer (some ⟨p, 0, none⟩), v] w (wrote w p bs (f a)))
    {w : World} {p : Nat} {bs : List UInt8} {v : Value} {l : List α} (hlow : Low B w0 w) (hBp : B ≤ p) (h : WAt w p bs 0) (hl : LowList B w0 rep v l) (hlen : ((bs ++ (putList most f l).1).length : Int) ≤ 1099511627776) :
    Calls Try.prog 81 #[.pointer (some ⟨p, 0, none⟩), v, .pointer (some ⟨mb, 0, none⟩), .pointer (some ⟨cb, 0, none⟩)] w (wrote w p bs (putList most f l)) := by
  have hm' : w.cell? ⟨mb, 0, none⟩ = some (.int .i64 most) := by rw [hlow.cell hmb, hm]
  have hlt := h.lt
  obtain ⟨a, cap, rfl, hll, hcell⟩ := hl
  by_cases hmost : (l.length : Int) ≤ most
  · obtain ⟨T, hT⟩ : ∃ T, T = bs ++ (putList most f l).1 := ⟨_, rfl⟩
    obtain ⟨okT, hok⟩ : ∃ okT, okT = (putList most f l).2 := ⟨_, rfl⟩
    have hpl : putList most f l = (enc l.length ++ (puts f l).1, (puts f l).2) := by simp [putList, hmost]
    have HT : Hid (T = bs ++ (enc l.length ++ (puts f l).1)) := by rw [hT, hpl]; rfl
    have Hok : Hid (okT = (puts f l).2) := by rw [hok, hpl]; rfl
    obtain ⟨erT, her⟩ : ∃ erT : Int, erT = if okT then 0 else 22 := ⟨_, rfl⟩
    have HE : Hid (erT = if okT then 0 else 22) := her
    have hE : wrote w p bs (putList most f l) = fun e w' => e = .returned (.tuple #[]) ∧ WAt w' p T erT ∧ WFr p w w' := by
      funext e w'
      rw [wrote, ← hT, ← hok, ← her]
    have hb40 : (bs.length : Int) ≤ 1099511627776 := by rw [List.length_append] at hlen; omega
    have hT40 : (T.length : Int) ≤ 1099511627776 := by rw [hT]; exact hlen
    have H62 : Hid (l.length < 4611686018427387904) := by
      show l.length < _
      omega
    rw [hE]
    clear hE hpl hT hok hlen her
    go_enter Try.func81, Try.ntmps81
    go_wp2_with fail
    refine (count_ok h l.length most hmost H62.out hb40).mono ?_
    rintro e w1 ⟨rfl, h1, f1⟩
    go_wp2_with fail
    go_loopw [6] (fun i wr => ∃ k : Nat, i = .int .i64 k ∧ k ≤ l.length ∧ WFr p w wr ∧ ((∃ cur, WAt wr p cur 0 ∧ T = cur ++ (puts f (l.drop k)).1 ∧ okT = (puts f (l.drop k)).2) ∨ (WAt wr p T 22 ∧ okT = false))) (fun i _ => l.length - (intOf i).toNat)
    case atStart => exact ⟨0, rfl, Nat.zero_le _, f1, Or.inl ⟨_, h1, by rw [List.drop_zero, List.append_assoc]; exact HT.out, by rw [List.drop_zero]; exact Hok.out⟩⟩
    case round =>
      clear h1 f1
      obtain ⟨k, rfl, hk, fr, ⟨cur, h2, hcur, hokk⟩ | ⟨h2, hokk⟩⟩ := hrel
      · obtain ⟨sa, sc, c0, c1, cf, hrow, hlt2, hne⟩ := h2.cells
        have hlow2 : Low B w0 wr := hlow.below ((fr.below hlt).mono hBp)
        have hcc : wr.cell? ⟨cb, 0, none⟩ = some (.func (.func 65) #[] #[]) := by rw [hlow2.cell hcb, hc]
        have Hcur : Hid (T = cur ++ (puts f (l.drop k)).1) := hcur
        have Hokk : Hid (okT = (puts f (l.drop k)).2) := hokk
        clear hcur hokk
        by_cases hkl : k < l.length
        · obtain ⟨b, off, rfl, hbB, hce⟩ := hcell (by rintro rfl; simp at hkl)
          obtain ⟨x, hx⟩ : ∃ x, l[k]? = some x := ⟨l[k], by simp [hkl]⟩
          obtain ⟨u, hu, hru⟩ := hce k x hx
          have hu' : wr.cell? ⟨b, off + k, none⟩ = some u := by rw [hlow2.cell hbB, hu]
          have hdrop : l.drop k = x :: l.drop (k + 1) := by
            rw [List.drop_eq_getElem_cons hkl]
            congr 1
            have := List.getElem?_eq_getElem hkl
            rw [this] at hx
            exact Option.some.inj hx
          have Hd : Hid (l.drop k = x :: l.drop (k + 1)) := hdrop
          have H40 : Hid (((cur ++ (f x).1).length : Int) ≤ 1099511627776) := by
            show _ ≤ _
            have e1 := Hcur.out
            rw [hdrop] at e1
            have : (cur ++ (f x).1).length ≤ T.length := by
              rw [e1]
              simp only [puts]
              split <;> simp
            omega
          clear hx hdrop hu hce
          have hkl' : (k : Int) < l.length := by omega
          go_wp2_with fail
          go_region_with (go_at_call 65; refine (hin wr.drew p cur u x hlow2 hBp h2 hru H40.out).mono ?_; intro e w3 hw3; obtain ⟨he3, h3, f3⟩ := hw3; subst he3)
          all_goals
            have f4 : WFr p wr w3 := ⟨f3.os, f3.tape, f3.output, f3.size, f3.block⟩
            go_wp2_with fail
            go_roundw
            case rel =>
              refine ⟨k + 1, by go_num, by omega, fr.trans f4, ?_⟩
              have e1 := Hcur.out
              have e2 := Hokk.out
              rw [Hd.out] at e1 e2
              cases hfx : (f x).2 with
              | true =>
                rw [hfx] at h3
                simp only [puts, hfx, if_true] at e1 e2 h3
                exact Or.inl ⟨_, h3, by rw [List.append_assoc]; exact e1, e2⟩
              | false =>
                rw [hfx] at h3
                simp only [puts, hfx, Bool.false_eq_true, if_false] at e1 e2 h3
                exact Or.inr ⟨by rw [e1]; exact h3, e2⟩
            case measure => simp [intOf]; omega
        · have hkl' : ¬ (k : Int) < l.length := by omega
          have Hd : Hid (l.drop k = []) := List.drop_of_length_le (by omega)
          go_wp2_with fail
          go_end0
          have e1 := Hcur.out
          have e2 := Hokk.out
          rw [Hd.out] at e1 e2
          simp only [puts, List.append_nil] at e1 e2
          rw [HE.out, e2, e1]
          exact ⟨rfl, h2, fr⟩
      · obtain ⟨sa, sc, c0, c1, cf, hrow, hlt2, hne⟩ := h2.cells
        have Hokk : Hid (okT = false) := hokk
        clear hokk
        by_cases hkl : (k : Int) < l.length
        all_goals go_wp2_with fail
        all_goals go_end0
        all_goals rw [HE.out, Hokk.out]
        all_goals exact ⟨rfl, h2, fr⟩
  · have hbig : putList most f l = ([], false) := by simp [putList, hmost]
    have hgt : most < (l.length : Int) := by omega
    rw [hbig]
    have hE : wrote w p bs ([], false) = fun e w' => e = .returned (.tuple #[]) ∧ WAt w' p bs 22 ∧ WFr p w w' := by
      funext e w'
      simp [wrote]
    rw [hE]
    clear hE hbig hmost
    go_enter Try.func81, Try.ntmps81
    go_wp2_with fail
    refine (count_big h _ _ hgt).mono ?_
    rintro e w1 ⟨rfl, h1, f1⟩
    obtain ⟨sa, sc, c0, c1, cf, hrow, hlt2, hne⟩ := h1.cells
    go_wp2_with fail
    go_loop [6] (fun i => i = .int .i64 0) (fun _ => 0)
    case atStart => rfl
    case round =>
      subst hrel
      by_cases hk : 0 < l.length
      all_goals go_wp2_with fail
      all_goals go_end0
      all_goals exact ⟨rfl, h1, f1⟩

set_option maxRecDepth 100000 in
set_option maxHeartbeats 1000000 in
theorem putListStr {α : Type} {B : Nat} {w0 : World} {mb cb : Nat} {tb : Nat} {most : Int} {rep : Value → α → Prop} {f : α → List UInt8 × Bool} (hmb : mb < B) (hcb : cb < B) (hm : w0.cell? ⟨mb, 0, none⟩ = some (.int .i64 most)) (hm20 : most ≤ 1048576)
    (hc : w0.cell? ⟨cb, 0, none⟩ = some (.func (.func 68) #[] #[.pointer (some ⟨tb, 0, none⟩)])) (hin : ∀ w p bs v a, Low B w0 w → B ≤ p → WAt w p bs 0 → rep v a → ((bs ++ (f a).1).length : Int) ≤ 1099511627776 → Calls Try.prog 68 #[.pointer (some ⟨p, 0, none⟩), v, .pointer (some ⟨tb, 0, none⟩)] w (wrote w p bs (f a)))
    {w : World} {p : Nat} {bs : List UInt8} {v : Value} {l : List α} (hlow : Low B w0 w) (hBp : B ≤ p) (h : WAt w p bs 0) (hl : LowList B w0 rep v l) (hlen : ((bs ++ (putList most f l).1).length : Int) ≤ 1099511627776) :
    Calls Try.prog 75 #[.pointer (some ⟨p, 0, none⟩), v, .pointer (some ⟨mb, 0, none⟩), .pointer (some ⟨cb, 0, none⟩)] w (wrote w p bs (putList most f l)) := by
  have hm' : w.cell? ⟨mb, 0, none⟩ = some (.int .i64 most) := by rw [hlow.cell hmb, hm]
  have hlt := h.lt
  obtain ⟨a, cap, rfl, hll, hcell⟩ := hl
  by_cases hmost : (l.length : Int) ≤ most
  · obtain ⟨T, hT⟩ : ∃ T, T = bs ++ (putList most f l).1 := ⟨_, rfl⟩
    obtain ⟨okT, hok⟩ : ∃ okT, okT = (putList most f l).2 := ⟨_, rfl⟩
    have hpl : putList most f l = (enc l.length ++ (puts f l).1, (puts f l).2) := by simp [putList, hmost]
    have HT : Hid (T = bs ++ (enc l.length ++ (puts f l).1)) := by rw [hT, hpl]; rfl
    have Hok : Hid (okT = (puts f l).2) := by rw [hok, hpl]; rfl
    obtain ⟨erT, her⟩ : ∃ erT : Int, erT = if okT then 0 else 22 := ⟨_, rfl⟩
    have HE : Hid (erT = if okT then 0 else 22) := her
    have hE : wrote w p bs (putList most f l) = fun e w' => e = .returned (.tuple #[]) ∧ WAt w' p T erT ∧ WFr p w w' := by
      funext e w'
      rw [wrote, ← hT, ← hok, ← her]
    have hb40 : (bs.length : Int) ≤ 1099511627776 := by rw [List.length_append] at hlen; omega
    have hT40 : (T.length : Int) ≤ 1099511627776 := by rw [hT]; exact hlen
    have H62 : Hid (l.length < 4611686018427387904) := by
      show l.length < _
      omega
    rw [hE]
    clear hE hpl hT hok hlen her
    go_enter Try.func75, Try.ntmps75
    go_wp2_with fail
    refine (count_ok h l.length most hmost H62.out hb40).mono ?_
    rintro e w1 ⟨rfl, h1, f1⟩
    go_wp2_with fail
    go_loopw [6] (fun i wr => ∃ k : Nat, i = .int .i64 k ∧ k ≤ l.length ∧ WFr p w wr ∧ ((∃ cur, WAt wr p cur 0 ∧ T = cur ++ (puts f (l.drop k)).1 ∧ okT = (puts f (l.drop k)).2) ∨ (WAt wr p T 22 ∧ okT = false))) (fun i _ => l.length - (intOf i).toNat)
    case atStart => exact ⟨0, rfl, Nat.zero_le _, f1, Or.inl ⟨_, h1, by rw [List.drop_zero, List.append_assoc]; exact HT.out, by rw [List.drop_zero]; exact Hok.out⟩⟩
    case round =>
      clear h1 f1
      obtain ⟨k, rfl, hk, fr, ⟨cur, h2, hcur, hokk⟩ | ⟨h2, hokk⟩⟩ := hrel
      · obtain ⟨sa, sc, c0, c1, cf, hrow, hlt2, hne⟩ := h2.cells
        have hlow2 : Low B w0 wr := hlow.below ((fr.below hlt).mono hBp)
        have hcc : wr.cell? ⟨cb, 0, none⟩ = some (.func (.func 68) #[] #[.pointer (some ⟨tb, 0, none⟩)]) := by rw [hlow2.cell hcb, hc]
        have Hcur : Hid (T = cur ++ (puts f (l.drop k)).1) := hcur
        have Hokk : Hid (okT = (puts f (l.drop k)).2) := hokk
        clear hcur hokk
        by_cases hkl : k < l.length
        · obtain ⟨b, off, rfl, hbB, hce⟩ := hcell (by rintro rfl; simp at hkl)
          obtain ⟨x, hx⟩ : ∃ x, l[k]? = some x := ⟨l[k], by simp [hkl]⟩
          obtain ⟨u, hu, hru⟩ := hce k x hx
          have hu' : wr.cell? ⟨b, off + k, none⟩ = some u := by rw [hlow2.cell hbB, hu]
          have hdrop : l.drop k = x :: l.drop (k + 1) := by
            rw [List.drop_eq_getElem_cons hkl]
            congr 1
            have := List.getElem?_eq_getElem hkl
            rw [this] at hx
            exact Option.some.inj hx
          have Hd : Hid (l.drop k = x :: l.drop (k + 1)) := hdrop
          have H40 : Hid (((cur ++ (f x).1).length : Int) ≤ 1099511627776) := by
            show _ ≤ _
            have e1 := Hcur.out
            rw [hdrop] at e1
            have : (cur ++ (f x).1).length ≤ T.length := by
              rw [e1]
              simp only [puts]
              split <;> simp
            omega
          clear hx hdrop hu hce
          have hkl' : (k : Int) < l.length := by omega
          go_wp2_with fail
          go_region_with (go_at_call 68; refine (hin wr.drew p cur u x hlow2 hBp h2 hru H40.out).mono ?_; intro e w3 hw3; obtain ⟨he3, h3, f3⟩ := hw3; subst he3)
          all_goals
            have f4 : WFr p wr w3 := ⟨f3.os, f3.tape, f3.output, f3.size, f3.block⟩
            go_wp2_with fail
            go_roundw
            case rel =>
              refine ⟨k + 1, by go_num, by omega, fr.trans f4, ?_⟩
              have e1 := Hcur.out
              have e2 := Hokk.out
              rw [Hd.out] at e1 e2
              cases hfx : (f x).2 with
              | true =>
                rw [hfx] at h3
                simp only [puts, hfx, if_true] at e1 e2 h3
                exact Or.inl ⟨_, h3, by rw [List.append_assoc]; exact e1, e2⟩
              | false =>
                rw [hfx] at h3
                simp only [puts, hfx, Bool.false_eq_true, if_false] at e1 e2 h3
                exact Or.inr ⟨by rw [e1]; exact h3, e2⟩
            case measure => simp [intOf]; omega
        · have hkl' : ¬ (k : Int) < l.length := by omega
          have Hd : Hid (l.drop k = []) := List.drop_of_length_le (by omega)
          go_wp2_with fail
          go_end0
          have e1 := Hcur.out
          have e2 := Hokk.out
          rw [Hd.out] at e1 e2
          simp only [puts, List.append_nil] at e1 e2
          rw [HE.out, e2, e1]
          exact ⟨rfl, h2, fr⟩
      · obtain ⟨sa, sc, c0, c1, cf, hrow, hlt2, hne⟩ := h2.cells
        have Hokk : Hid (okT = false) := hokk
        clear hokk
        by_cases hkl : (k : Int) < l.length
        all_goals go_wp2_with fail
        all_goals go_end0
        all_goals rw [HE.out, Hokk.out]
        all_goals exact ⟨rfl, h2, fr⟩
  · have hbig : putList most f l = ([], false) := by simp [putList, hmost]
    have hgt : most < (l.length : Int) := by omega
    rw [hbig]
    have hE : wrote w p bs ([], false) = fun e w' => e = .returned (.tuple #[]) ∧ WAt w' p bs 22 ∧ WFr p w w' := by
      funext e w'
      simp [wrote]
    rw [hE]
    clear hE hbig hmost
    go_enter Try.func75, Try.ntmps75
    go_wp2_with fail
    refine (count_big h _ _ hgt).mono ?_
    rintro e w1 ⟨rfl, h1, f1⟩
    obtain ⟨sa, sc, c0, c1, cf, hrow, hlt2, hne⟩ := h1.cells
    go_wp2_with fail
    go_loop [6] (fun i => i = .int .i64 0) (fun _ => 0)
    case atStart => rfl
    case round =>
      subst hrel
      by_cases hk : 0 < l.length
      all_goals go_wp2_with fail
      all_goals go_end0
      all_goals exact ⟨rfl, h1, f1⟩

set_option maxRecDepth 100000 in
set_option maxHeartbeats 1000000 in
theorem putListStrs {α : Type} {B : Nat} {w0 : World} {mb cb : Nat} {ib jb : Nat} {most : Int} {rep : Value → α → Prop} {f : α → List UInt8 × Bool} (hmb : mb < B) (hcb : cb < B) (hm : w0.cell? ⟨mb, 0, none⟩ = some (.int .i64 most)) (hm20 : most ≤ 1048576)
    (hc : w0.cell? ⟨cb, 0, none⟩ = some (.func (.func 75) #[] #[.pointer (some ⟨ib, 0, none⟩), .pointer (some ⟨jb, 0, none⟩)])) (hin : ∀ w p bs v a, Low B w0 w → B ≤ p → WAt w p bs 0 → rep v a → ((bs ++ (f a).1).length : Int) ≤ 1099511627776 → Calls Try.prog 75 #[.pointer (some ⟨p, 0, none⟩), v, .pointer (some ⟨ib, 0, none⟩), .pointer (some ⟨jb, 0, none⟩)] w (wrote w p bs (f a)))
    {w : World} {p : Nat} {bs : List UInt8} {v : Value} {l : List α} (hlow : Low B w0 w) (hBp : B ≤ p) (h : WAt w p bs 0) (hl : LowList B w0 rep v l) (hlen : ((bs ++ (putList most f l).1).length : Int) ≤ 1099511627776) :
    Calls Try.prog 77 #[.pointer (some ⟨p, 0, none⟩), v, .pointer (some ⟨mb, 0, none⟩), .pointer (some ⟨cb, 0, none⟩)] w (wrote w p bs (putList most f l)) := by
  have hm' : w.cell? ⟨mb, 0, none⟩ = some (.int .i64 most) := by rw [hlow.cell hmb, hm]
  have hlt := h.lt
  obtain ⟨a, cap, rfl, hll, hcell⟩ := hl
  by_cases hmost : (l.length : Int) ≤ most
  · obtain ⟨T, hT⟩ : ∃ T, T = bs ++ (putList most f l).1 := ⟨_, rfl⟩
    obtain ⟨okT, hok⟩ : ∃ okT, okT = (putList most f l).2 := ⟨_, rfl⟩
    have hpl : putList most f l = (enc l.length ++ (puts f l).1, (puts f l).2) := by simp [putList, hmost]
    have HT : Hid (T = bs ++ (enc l.length ++ (puts f l).1)) := by rw [hT, hpl]; rfl
    have Hok : Hid (okT = (puts f l).2) := by rw [hok, hpl]; rfl
    obtain ⟨erT, her⟩ : ∃ erT : Int, erT = if okT then 0 else 22 := ⟨_, rfl⟩
    have HE : Hid (erT = if okT then 0 else 22) := her
    have hE : wrote w p bs (putList most f l) = fun e w' => e = .returned (.tuple #[]) ∧ WAt w' p T erT ∧ WFr p w w' := by
      funext e w'
      rw [wrote, ← hT, ← hok, ← her]
    have hb40 : (bs.length : Int) ≤ 1099511627776 := by rw [List.length_append] at hlen; omega
    have hT40 : (T.length : Int) ≤ 1099511627776 := by rw [hT]; exact hlen
    have H62 : Hid (l.length < 4611686018427387904) := by
      show l.length < _
      omega
    rw [hE]
    clear hE hpl hT hok hlen her
    go_enter Try.func77, Try.ntmps77
    go_wp2_with fail
    refine (count_ok h l.length most hmost H62.out hb40).mono ?_
    rintro e w1 ⟨rfl, h1, f1⟩
    go_wp2_with fail
    go_loopw [6] (fun i wr => ∃ k : Nat, i = .int .i64 k ∧ k ≤ l.length ∧ WFr p w wr ∧ ((∃ cur, WAt wr p cur 0 ∧ T = cur ++ (puts f (l.drop k)).1 ∧ okT = (puts f (l.drop k)).2) ∨ (WAt wr p T 22 ∧ okT = false))) (fun i _ => l.length - (intOf i).toNat)
    case atStart => exact ⟨0, rfl, Nat.zero_le _, f1, Or.inl ⟨_, h1, by rw [List.drop_zero, List.append_assoc]; exact HT.out, by rw [List.drop_zero]; exact Hok.out⟩⟩
    case round =>
      clear h1 f1
      obtain ⟨k, rfl, hk, fr, ⟨cur, h2, hcur, hokk⟩ | ⟨h2, hokk⟩⟩ := hrel
      · obtain ⟨sa, sc, c0, c1, cf, hrow, hlt2, hne⟩ := h2.cells
        have hlow2 : Low B w0 wr := hlow.below ((fr.below hlt).mono hBp)
        have hcc : wr.cell? ⟨cb, 0, none⟩ = some (.func (.func 75) #[] #[.pointer (some ⟨ib, 0, none⟩), .pointer (some ⟨jb, 0, none⟩)]) := by rw [hlow2.cell hcb, hc]
        have Hcur : Hid (T = cur ++ (puts f (l.drop k)).1) := hcur
        have Hokk : Hid (okT = (puts f (l.drop k)).2) := hokk
        clear hcur hokk
        by_cases hkl : k < l.length
        · obtain ⟨b, off, rfl, hbB, hce⟩ := hcell (by rintro rfl; simp at hkl)
          obtain ⟨x, hx⟩ : ∃ x, l[k]? = some x := ⟨l[k], by simp [hkl]⟩
          obtain ⟨u, hu, hru⟩ := hce k x hx
          have hu' : wr.cell? ⟨b, off + k, none⟩ = some u := by rw [hlow2.cell hbB, hu]
          have hdrop : l.drop k = x :: l.drop (k + 1) := by
            rw [List.drop_eq_getElem_cons hkl]
            congr 1
            have := List.getElem?_eq_getElem hkl
            rw [this] at hx
            exact Option.some.inj hx
          have Hd : Hid (l.drop k = x :: l.drop (k + 1)) := hdrop
          have H40 : Hid (((cur ++ (f x).1).length : Int) ≤ 1099511627776) := by
            show _ ≤ _
            have e1 := Hcur.out
            rw [hdrop] at e1
            have : (cur ++ (f x).1).length ≤ T.length := by
              rw [e1]
              simp only [puts]
              split <;> simp
            omega
          clear hx hdrop hu hce
          have hkl' : (k : Int) < l.length := by omega
          go_wp2_with fail
          go_region_with (go_at_call 75; refine (hin wr.drew p cur u x hlow2 hBp h2 hru H40.out).mono ?_; intro e w3 hw3; obtain ⟨he3, h3, f3⟩ := hw3; subst he3)
          all_goals
            have f4 : WFr p wr w3 := ⟨f3.os, f3.tape, f3.output, f3.size, f3.block⟩
            go_wp2_with fail
            go_roundw
            case rel =>
              refine ⟨k + 1, by go_num, by omega, fr.trans f4, ?_⟩
              have e1 := Hcur.out
              have e2 := Hokk.out
              rw [Hd.out] at e1 e2
              cases hfx : (f x).2 with
              | true =>
                rw [hfx] at h3
                simp only [puts, hfx, if_true] at e1 e2 h3
                exact Or.inl ⟨_, h3, by rw [List.append_assoc]; exact e1, e2⟩
              | false =>
                rw [hfx] at h3
                simp only [puts, hfx, Bool.false_eq_true, if_false] at e1 e2 h3
                exact Or.inr ⟨by rw [e1]; exact h3, e2⟩
            case measure => simp [intOf]; omega
        · have hkl' : ¬ (k : Int) < l.length := by omega
          have Hd : Hid (l.drop k = []) := List.drop_of_length_le (by omega)
          go_wp2_with fail
          go_end0
          have e1 := Hcur.out
          have e2 := Hokk.out
          rw [Hd.out] at e1 e2
          simp only [puts, List.append_nil] at e1 e2
          rw [HE.out, e2, e1]
          exact ⟨rfl, h2, fr⟩
      · obtain ⟨sa, sc, c0, c1, cf, hrow, hlt2, hne⟩ := h2.cells
        have Hokk : Hid (okT = false) := hokk
        clear hokk
        by_cases hkl : (k : Int) < l.length
        all_goals go_wp2_with fail
        all_goals go_end0
        all_goals rw [HE.out, Hokk.out]
        all_goals exact ⟨rfl, h2, fr⟩
  · have hbig : putList most f l = ([], false) := by simp [putList, hmost]
    have hgt : most < (l.length : Int) := by omega
    rw [hbig]
    have hE : wrote w p bs ([], false) = fun e w' => e = .returned (.tuple #[]) ∧ WAt w' p bs 22 ∧ WFr p w w' := by
      funext e w'
      simp [wrote]
    rw [hE]
    clear hE hbig hmost
    go_enter Try.func77, Try.ntmps77
    go_wp2_with fail
    refine (count_big h _ _ hgt).mono ?_
    rintro e w1 ⟨rfl, h1, f1⟩
    obtain ⟨sa, sc, c0, c1, cf, hrow, hlt2, hne⟩ := h1.cells
    go_wp2_with fail
    go_loop [6] (fun i => i = .int .i64 0) (fun _ => 0)
    case atStart => rfl
    case round =>
      subst hrel
      by_cases hk : 0 < l.length
      all_goals go_wp2_with fail
      all_goals go_end0
      all_goals exact ⟨rfl, h1, f1⟩

end Go.Proofs.Ytjajgllkbchapaa
