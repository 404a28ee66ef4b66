/-
  Who is late behind an add, and that nobody is above a leaf that laid a path (pure); make of some numbers.
-/
import Derived.Test.YtdnopkpoepdihaaDoorUA
import Derived.Test.YtdnopkpoepdihaaDoorXC
namespace Go.Proofs.YtdnopkpoepdihaaDoor
open Go.RowKit
set_option linter.unusedSimpArgs false
set_option linter.unusedVariables false

theorem upL_mem {i n : Int} (h : leafB i n = true) {x : Int} : x ∈ upL (2 * i) n ↔ underB (2 * i) x n = true ∧ x ≠ 2 * i := by
  have hin := leafB_in h
  rw [upL_path h]
  simp only [pathI, List.mem_filter, bne_iff_ne, ne_eq, underB, hin, Bool.true_and, Bool.and_eq_true, List.contains_iff_mem]
  constructor
  · rintro ⟨h1, h2⟩
    exact ⟨⟨up_in hin h1, h1⟩, h2⟩
  · rintro ⟨⟨_, h1⟩, h2⟩
    exact ⟨h1, h2⟩

theorem upL_len (x n : Int) : (upL x n).length ≤ 6 := by
  have : ∀ (f : Nat) (x k n : Int), (upG f x k n).length ≤ f := by
    intro f
    induction f with
    | zero => intro x k n; simp [upG]
    | succ f ih =>
      intro x k n
      unfold upG
      split
      · split
        · have := ih (nextI x k) (k * 2) n; simp; omega
        · have := ih (nextI x k) (k * 2) n; omega
      · simp
  exact this 6 x 1 n

theorem late_add {T : Tree} (h : Good T) (hr : ¬ (least T = lv T ∧ lv T = 32)) (u : PV) {x : Nat} (hx : x < (addF T u).length) (hodd : x % 2 = 1) :
    decide ((least T : Int) ∈ (vx (addF T u) x).late) = (decide ((x : Int) ∈ upL (2 * (least T : Int)) (lv (addF T u))) && (vx (addF T u) x).full) := by
  obtain ⟨s1, s2, s3, s4⟩ := room_sh h.sh hr
  have hb := s1.bounds
  have hleaf : leafB (least T) (lv (addF T u)) = true := by rw [addF_lv]; simp [leafB, s1.1]; omega
  have hxr : x < (room T).length := by rwa [addF_len] at hx
  have e : (addF T u)[x]? = some (addV (least T) (lv (room T)) u x (vx (room T) x)) := by rw [addF_get, vx_some hxr]; rfl
  have hup : decide ((x : Int) ∈ upL (2 * (least T : Int)) (lv (addF T u))) = underB (2 * (least T : Int)) x (lv (room T)) := by
    rw [addF_lv] at hleaf ⊢
    have := upL_mem hleaf (x := (x : Int))
    cases hu : underB (2 * (least T : Int)) x (lv (room T)) with
    | true => simp only [decide_eq_true_eq]; exact this.2 ⟨hu, by omega⟩
    | false => simp only [decide_eq_false_iff_not]; intro hm; have := (this.1 hm).1; rw [hu] at this; cases this
  rw [hup, vx_get e]
  have hold : (least T : Int) ∉ (vx (room T) x).late := by
    intro hm
    have hfull : fullB T (least T) = true := by
      by_cases hxt : x < T.length
      · rw [vx_room hxt] at hm
        have hv := h.vert x _ (vx_some hxt)
        cases hf : (vx T x).full with
        | false => rw [hv.blank hf] at hm; simp [PV.blank] at hm
        | true =>
          by_cases hl : lev (x : Int) = 0
          · rw [hv.leaf hf hl] at hm; simp at hm
          · exact ((hv.par hf hl).2.2.2 _ hm).1
      · exfalso
        have hd : vx (room T) x = PV.blank := by
          unfold room
          split
          · unfold vx dbl
            rw [List.getD_eq_getElem?_getD, List.getElem?_append_right (by omega)]
            by_cases hq : x - T.length < 2 * lv T
            · simp [hq]
            · rw [List.getElem?_eq_none (by simpa using hq)]; rfl
          · unfold vx
            rw [List.getD_eq_getElem?_getD, List.getElem?_eq_none (by omega)]; rfl
        rw [hd] at hm
        simp [PV.blank] at hm
    have hls := least_spec T
    obtain ⟨k, hk, hk1, hk2⟩ := fullB_nat hfull
    have : k = least T := by omega
    subst this
    rw [hls.2.2 hk1] at hk2
    cases hk2
  unfold addV
  rw [if_neg (by omega)]
  cases hu : underB (2 * (least T : Int)) x (lv (room T)) with
  | false => simp [hold]
  | true =>
    cases hf : (vx (room T) x).full with
    | false => simp [hf, hold]
    | true => simp [hf, ins_mem]

theorem laid_late : ∀ (T : Tree) (ps ks hs : List Int) (x : Nat), (vx T x).late = [] → (vx (laid T ps ks hs) x).late = []
  | T, [], ks, hs, x, h => by simpa [laid] using h
  | T, p :: ps, [], hs, x, h => by simpa [laid] using h
  | T, p :: ps, k :: ks, [], x, h => by simpa [laid] using h
  | T, p :: ps, k :: ks, q :: hs, x, h => by
    unfold laid
    refine laid_late _ ps ks hs x ?_
    unfold vx at h ⊢
    rw [List.getD_eq_getElem?_getD, List.getElem?_set]
    split
    · rename_i e
      subst e
      split
      · rfl
      · rfl
    · rw [← List.getD_eq_getElem?_getD]; exact h

theorem merge_late {T : Tree} (h : Good T) {i : Int} (hi : fullB T i = true) (u : PV) (ks hs : List Int) {y : Int} (hy : y ∈ upL (2 * i) (lv (mergeF T i u ks hs))) :
    ∃ m : Nat, y = m ∧ m < (mergeF T i u ks hs).length ∧ (vx (mergeF T i u ks hs) m).late = [] := by
  have hl : (mergeF T i u ks hs).length = T.length := by unfold mergeF; rw [laid_len, putF_len]
  have hlv : lv (mergeF T i u ks hs) = lv T := by simp [lv, hl]
  obtain ⟨r1, r2⟩ := fullB_range hi
  have hleaf : leafB i (lv T) = true := by simp [leafB, h.sh.1]; omega
  rw [hlv] at hy
  obtain ⟨hu, hne⟩ := (upL_mem hleaf).1 hy
  have hin : inB y (lv T) = true := by simp [underB] at hu; exact hu.1.2
  obtain ⟨m, rfl, hm⟩ := in_place h.sh hin
  refine ⟨m, rfl, by omega, ?_⟩
  unfold mergeF
  refine laid_late _ _ _ _ _ ?_
  have e : (putF T i (leafV u))[m]? = some (putV i (lv T) (leafV u) m (vx T m)) := by rw [putF_get, vx_some hm]; rfl
  rw [vx_get e]
  unfold putV
  rw [if_neg hne, hu]
  rfl

/-- make of n zeros. -/
def zeros (n : Nat) : Array Value := madeCells (Value.int .i64 0).cells n
theorem make_nums (w : World) (n : Nat) (hn : n ≤ 100) : (Instr.makeSlice 22 (.int .i64 (n : Int)) (.int .i64 (n : Int))).run Tryd.prog w = .ok (.slice (some ⟨w.heap.size, 0, none⟩) n n) (w.alloc (.cells (zeros n) 3)) := by
  obtain ⟨i0, hi, hz0, hz1, hz2⟩ := info_parts Tryd.infoI
  have hr := run_make (P := Tryd.prog) w 22 3 i0 (.int .i64 0) Tryd.underlying22 hi hz0 .i64 .i64 n n (by omega) (Int.le_refl _) (by rw [hz2]; omega) (by omega)
  rw [hr]
  simp [hz1, zeros]

theorem ints_zeros {w : World} {n b : Nat} (hn : n ≤ 100) (hb : w.heap[b]? = some (.cells (zeros n) 3)) : IntsAt w (.slice (some ⟨b, 0, none⟩) n n) (List.replicate n 0) := by
  refine ⟨_, n, by simp, by simp; omega, fun _ => ⟨b, 0, rfl, (Array.getElem?_eq_some_iff.1 hb).1, fun j x hx => ?_⟩⟩
  have hj := (List.getElem?_eq_some_iff.1 hx).1
  simp at hj
  have hx0 : x = 0 := by rw [List.getElem?_replicate] at hx; simp [hj] at hx; exact hx.symm
  subst hx0
  unfold World.cell?
  rw [hb]
  have hc : (Value.int .i64 0).cells = #[.int .i64 0] := rfl
  simp [zeros, madeCells, hj, hc, Nat.mod_one]

end Go.Proofs.YtdnopkpoepdihaaDoor
