/-
  ScheduleBinds: contexts and transcripts are one term just if all that they are made of is the same.
-/
import Derived.Test.YtcfmagmhnemhaaaDoorVI
import Derived.Test.YtcfmagmhnemhaaaDoorAr
import Derived.Deep.QuietTactic
namespace Go.Proofs.YtcfmagmhnemhaaaDoor
open Go.RowKit
set_option linter.unusedSimpArgs false
set_option linter.unusedVariables false
attribute [local go_sem ↓] Go.wp_at_zero Go.wp_at_succ

/-- Numbers that came in: each is one of 64 bits, the room is as long as the list at least. -/
structure NumsAt (w : World) (v : Value) (l : List Int) : Prop where
  ints : IntsAt w v l
  room : ∀ a n c, v = .slice a n c → n ≤ c
  i64 : ∀ x ∈ l, I64 x

theorem list5 {l : List Int} (h : l.length = 5) : ∃ a b c d e, l = [a, b, c, d, e] := by
  match l, h with
  | [a, b, c, d, e], _ => exact ⟨a, b, c, d, e, rfl⟩

theorem five_cells {w : World} {a : Option Addr} {m cap : Nat} {x0 x1 x2 x3 x4 : Int} (h : IntsAt w (.slice a m cap) [x0, x1, x2, x3, x4]) : ∃ b o, a = some ⟨b, o, none⟩ ∧ (∀ w', Below w.heap.size w w' → w'.cell? ⟨b, o, none⟩ = some (.int .i64 x0) ∧ w'.cell? ⟨b, o + 1, none⟩ = some (.int .i64 x1) ∧ w'.cell? ⟨b, o + 2, none⟩ = some (.int .i64 x2) ∧ w'.cell? ⟨b, o + 3, none⟩ = some (.int .i64 x3) ∧ w'.cell? ⟨b, o + 4, none⟩ = some (.int .i64 x4)) ∧ IntsAt w (.slice (some ⟨b, o, none⟩) 3 cap) [x0, x1, x2] := by
  obtain ⟨a', cap', e, _, hc⟩ := h
  cases e
  obtain ⟨b, o, rfl, hlt, hcell⟩ := hc (by simp)
  refine ⟨b, o, rfl, fun w' hb => ⟨(hb.cell (p := ⟨b, _, none⟩) hlt).trans (hcell 0 _ rfl), (hb.cell (p := ⟨b, _, none⟩) hlt).trans (hcell 1 _ rfl), (hb.cell (p := ⟨b, _, none⟩) hlt).trans (hcell 2 _ rfl), (hb.cell (p := ⟨b, _, none⟩) hlt).trans (hcell 3 _ rfl), (hb.cell (p := ⟨b, _, none⟩) hlt).trans (hcell 4 _ rfl)⟩, _, cap, rfl, by simp, fun _ => ⟨b, o, rfl, hlt, fun i x hx => ?_⟩⟩
  have hi : i < 3 := (List.getElem?_eq_some_iff.1 hx).1
  refine hcell i x ?_
  match i, hi, hx with
  | 0, _, hx => exact hx
  | 1, _, hx => exact hx
  | 2, _, hx => exact hx

end Go.Proofs.YtcfmagmhnemhaaaDoor
