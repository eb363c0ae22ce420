import PyProof.Rows.All
import Wide.All
import OpenK.AllK
import Wide.FinOn
import HandS.ForMost
import HandS.SortInts
import HandS.Walk
import KE.GoesEnum
import HandS.SortRule
import HandS.NamedTupSort
import KE.KSortTupAny
import KE.SortKeyHeap
import PyProof.Rows.CallKwBuiltin
import HandS.IsInst
import HandS.Deep
import HandS.Style
import HandS.TupAny
import HandS.Conv
import HandS.Lambda
import HandS.Zip
import KE.KDictZip
import PyProof.CollectWalk
import HandS.New
import HandS.EndTab
import PySem.Challenge.RW_oncetested_k24_inner_lots_of_shapes
set_option Elab.async false
set_option maxRecDepth 100000
/-! The mathematics of shapes: trees of parts, their inner lots, hulls and crossing lots. -/
set_option autoImplicit false
namespace K24
/-! ### ascending lists -/
section asc
variable {α : Type} (lt : α → α → Prop)
end asc
abbrev SS (l : List Int) : Prop := l.Pairwise (· < ·)
abbrev SN (l : List Nat) : Prop := l.Pairwise (· < ·)
theorem ss_ext : ∀ {a b : List Int}, SS a → SS b → (∀ x, x ∈ a ↔ x ∈ b) → a = b
  | [], [], _, _, _ => rfl
  | [], y :: b, _, _, h => absurd ((h y).mpr (List.mem_cons_self)) (by simp)
  | x :: a, [], _, _, h => absurd ((h x).mp (List.mem_cons_self)) (by simp)
  | x :: a, y :: b, ha, hb, h => by
    have ha' := List.pairwise_cons.mp ha
    have hb' := List.pairwise_cons.mp hb
    have e : x = y := by
      rcases List.mem_cons.mp ((h x).mp List.mem_cons_self) with e | e
      · exact e
      · rcases List.mem_cons.mp ((h y).mpr List.mem_cons_self) with e2 | e2
        · exact e2.symm
        · have := hb'.1 x e
          have := ha'.1 y e2
          omega
    subst e
    have := ss_ext ha'.2 hb'.2 fun z => by
      constructor
      · intro hz
        rcases List.mem_cons.mp ((h z).mp (List.mem_cons_of_mem _ hz)) with e | e
        · have := ha'.1 z hz
          omega
        · exact e
      · intro hz
        rcases List.mem_cons.mp ((h z).mpr (List.mem_cons_of_mem _ hz)) with e | e
        · have := hb'.1 z hz
          omega
        · exact e
    rw [this]
theorem sn_ext : ∀ {a b : List Nat}, SN a → SN b → (∀ x, x ∈ a ↔ x ∈ b) → a = b
  | [], [], _, _, _ => rfl
  | [], y :: b, _, _, h => absurd ((h y).mpr (List.mem_cons_self)) (by simp)
  | x :: a, [], _, _, h => absurd ((h x).mp (List.mem_cons_self)) (by simp)
  | x :: a, y :: b, ha, hb, h => by
    have ha' := List.pairwise_cons.mp ha
    have hb' := List.pairwise_cons.mp hb
    have e : x = y := by
      rcases List.mem_cons.mp ((h x).mp List.mem_cons_self) with e | e
      · exact e
      · rcases List.mem_cons.mp ((h y).mpr List.mem_cons_self) with e2 | e2
        · exact e2.symm
        · have := hb'.1 x e
          have := ha'.1 y e2
          omega
    subst e
    have := sn_ext ha'.2 hb'.2 fun z => by
      constructor
      · intro hz
        rcases List.mem_cons.mp ((h z).mp (List.mem_cons_of_mem _ hz)) with e | e
        · have := ha'.1 z hz
          omega
        · exact e
      · intro hz
        rcases List.mem_cons.mp ((h z).mpr (List.mem_cons_of_mem _ hz)) with e | e
        · have := hb'.1 z hz
          omega
        · exact e
    rw [this]
theorem nd_sub_len : ∀ {a b : List Int}, a.Nodup → (∀ x ∈ a, x ∈ b) → a.length ≤ b.length
  | [], b, _, _ => Nat.zero_le _
  | x :: a, b, ha, h => by
    have ha' := List.nodup_cons.mp ha
    have hx : x ∈ b := h x List.mem_cons_self
    have := nd_sub_len (a := a) (b := b.erase x) ha'.2 fun y hy => by
      have hne : y ≠ x := fun e => ha'.1 (e ▸ hy)
      exact (List.mem_erase_of_ne hne).mpr (h y (List.mem_cons_of_mem _ hy))
    rw [List.length_erase_of_mem hx] at this
    have : 0 < b.length := List.length_pos_of_mem hx
    simp only [List.length_cons]
    omega
theorem ss_nd {a : List Int} (h : SS a) : a.Nodup := h.imp fun h => by omega
theorem sn_nd {a : List Nat} (h : SN a) : a.Nodup := h.imp fun h => by omega
theorem ss_sub_eq {a b : List Int} (ha : SS a) (hb : SS b) (h : ∀ x ∈ a, x ∈ b) (hl : b.length ≤ a.length) : a = b := by
  refine ss_ext ha hb fun x => ⟨h x, fun hx => ?_⟩
  apply Classical.byContradiction
  intro hn
  have := nd_sub_len (a := x :: a) (b := b) (List.nodup_cons.mpr ⟨hn, ss_nd ha⟩) fun y hy => by
    rcases List.mem_cons.mp hy with e | e
    · rw [e]; exact hx
    · exact h y e
  simp only [List.length_cons] at this
  omega
/-! ### the ascending list of given numbers -/
def ins (x : Int) : List Int → List Int
  | [] => [x]
  | y :: l => if x ≤ y then x :: y :: l else y :: ins x l
def srt : List Int → List Int
  | [] => []
  | x :: l => ins x (srt l)
theorem ins_perm (x : Int) : ∀ l : List Int, (ins x l).Perm (x :: l)
  | [] => List.Perm.refl _
  | y :: l => by
    unfold ins
    split
    · exact List.Perm.refl _
    · exact ((ins_perm x l).cons y).trans (List.Perm.swap x y l)
theorem srt_perm : ∀ l : List Int, (srt l).Perm l
  | [] => List.Perm.refl _
  | x :: l => (ins_perm x (srt l)).trans ((srt_perm l).cons x)
theorem ins_le {x : Int} : ∀ {l : List Int}, l.Pairwise (· ≤ ·) → (ins x l).Pairwise (· ≤ ·)
  | [], _ => List.pairwise_singleton _ _
  | y :: l, h => by
    have h' := List.pairwise_cons.mp h
    unfold ins
    split
    · rename_i c
      refine List.pairwise_cons.mpr ⟨fun z hz => ?_, h⟩
      rcases List.mem_cons.mp hz with e | e
      · omega
      · have := h'.1 z e
        omega
    · rename_i c
      refine List.pairwise_cons.mpr ⟨fun z hz => ?_, ins_le h'.2⟩
      rcases List.mem_cons.mp ((ins_perm x l).mem_iff.mp hz) with e | e
      · omega
      · exact h'.1 z e
theorem srt_le : ∀ l : List Int, (srt l).Pairwise (· ≤ ·)
  | [] => List.Pairwise.nil
  | _ :: l => ins_le (srt_le l)
theorem mem_srt {x : Int} {l : List Int} : x ∈ srt l ↔ x ∈ l := (srt_perm l).mem_iff
theorem le_uniq : ∀ {a b : List Int}, a.Pairwise (· ≤ ·) → b.Pairwise (· ≤ ·) → a.Perm b → a = b
  | [], b, _, _, h => (List.Perm.eq_nil h.symm).symm
  | x :: a, [], _, _, h => absurd h.length_eq (by simp)
  | x :: a, y :: b, ha, hb, h => by
    have ha' := List.pairwise_cons.mp ha
    have hb' := List.pairwise_cons.mp hb
    have e : x = y := by
      rcases List.mem_cons.mp (h.mem_iff.mp (List.mem_cons_self (a := x) (l := a))) with e | e
      · exact e
      · rcases List.mem_cons.mp (h.mem_iff.mpr (List.mem_cons_self (a := y) (l := b))) with e2 | e2
        · exact e2.symm
        · have := hb'.1 x e
          have := ha'.1 y e2
          omega
    subst e
    rw [le_uniq ha'.2 hb'.2 h.cons_inv]
theorem srt_uniq {a l : List Int} (h : a.Perm l) (hs : a.Pairwise (· ≤ ·)) : a = srt l := le_uniq hs (srt_le l) (h.trans (srt_perm l).symm)
theorem srt_congr {l m : List Int} (h : l.Perm m) : srt l = srt m := srt_uniq ((srt_perm l).trans h) (srt_le l)
theorem srt_ss {l : List Int} (h : l.Nodup) : SS (srt l) := by
  have h1 := srt_le l
  have h2 : (srt l).Nodup := (srt_perm l).nodup_iff.mpr h
  exact (h1.and h2).imp fun ⟨a, b⟩ => by omega
theorem srt_of_ss {l : List Int} (h : SS l) : srt l = l := (srt_uniq (List.Perm.refl l) (h.imp fun h => by omega)).symm
/-! ### trees -/
inductive Kd | bare | line | free
deriving DecidableEq
inductive Tr
  | leaf (n : Int)
  | knot (k : Kd) (cs : List Tr)
theorem Tr.ind {P : Tr → Prop} (hl : ∀ n, P (.leaf n)) (hk : ∀ k cs, (∀ c ∈ cs, P c) → P (.knot k cs)) : ∀ t, P t := fun t =>
  Tr.rec (motive_1 := P) (motive_2 := fun cs => ∀ c ∈ cs, P c) hl (fun k cs h => hk k cs h) (fun c h => absurd h (by simp)) (fun c cs h1 h2 d hd => by
    rcases List.mem_cons.mp hd with e | e
    · rw [e]; exact h1
    · exact h2 d e) t
mutual
def lv : Tr → List Int
  | .leaf n => [n]
  | .knot _ cs => lvs cs
def lvs : List Tr → List Int
  | [] => []
  | c :: cs => lv c ++ lvs cs
end
theorem lvs_flat : ∀ cs : List Tr, lvs cs = cs.flatMap lv
  | [] => by simp [lvs]
  | c :: cs => by simp [lvs, lvs_flat cs]
theorem mem_lvs {x : Int} {cs : List Tr} : x ∈ lvs cs ↔ ∃ c ∈ cs, x ∈ lv c := by
  rw [lvs_flat, List.mem_flatMap]
mutual
def ok : Tr → Prop
  | .leaf _ => True
  | .knot _ cs => 2 ≤ cs.length ∧ oks cs
def oks : List Tr → Prop
  | [] => True
  | c :: cs => ok c ∧ oks cs
end
theorem oks_iff : ∀ {cs : List Tr}, oks cs ↔ ∀ c ∈ cs, ok c
  | [] => by simp [oks]
  | c :: cs => by simp [oks, oks_iff (cs := cs)]
theorem ok_knot {k : Kd} {cs : List Tr} (h : ok (.knot k cs)) : 2 ≤ cs.length ∧ ∀ c ∈ cs, ok c := by
  unfold ok at h
  exact ⟨h.1, oks_iff.mp h.2⟩
theorem lv_ne : ∀ t : Tr, ok t → lv t ≠ [] := Tr.ind (fun n _ => by simp [lv]) fun k cs ih h => by
  obtain ⟨h1, h2⟩ := ok_knot h
  match cs, h1 with
  | c :: cs, _ =>
    have := ih c List.mem_cons_self (h2 c List.mem_cons_self)
    simp [lv, lvs, this]
/-- disjoint children -/
theorem apart {cs : List Tr} (h : (lvs cs).Nodup) {i j : Nat} {c d : Tr} (hi : cs[i]? = some c) (hj : cs[j]? = some d) {x : Int} (hx : x ∈ lv c) (hy : x ∈ lv d) : i = j := by
  induction cs generalizing i j with
  | nil => simp at hi
  | cons a cs ih =>
    simp only [lvs] at h
    have h' := List.nodup_append.mp h
    match i, j with
    | 0, 0 => rfl
    | 0, j + 1 =>
      have e : a = c := Option.some.inj hi
      subst e
      have hd : d ∈ cs := List.mem_of_getElem? (by simpa using hj)
      exact absurd rfl (h'.2.2 x hx x (mem_lvs.mpr ⟨d, hd, hy⟩))
    | i + 1, 0 =>
      have e : a = d := Option.some.inj hj
      subst e
      have hd : c ∈ cs := List.mem_of_getElem? (by simpa using hi)
      exact absurd rfl (h'.2.2 x hy x (mem_lvs.mpr ⟨c, hd, hx⟩))
    | i + 1, j + 1 =>
      have := ih h'.2.1 (i := i) (j := j) (by simpa using hi) (by simpa using hj)
      omega
theorem nd_child {cs : List Tr} (h : (lvs cs).Nodup) {c : Tr} (hc : c ∈ cs) : (lv c).Nodup := by
  induction cs with
  | nil => simp at hc
  | cons a cs ih =>
    simp only [lvs] at h
    have h' := List.nodup_append.mp h
    rcases List.mem_cons.mp hc with e | e
    · rw [e]; exact h'.1
    · exact ih h'.2.1 e
abbrev sub (a b : List Int) : Prop := ∀ x ∈ a, x ∈ b
/-! ### the least tree -/
mutual
def least : Tr → List Int → Tr
  | .leaf n, _ => .leaf n
  | .knot k cs, lot => leasts cs lot (.knot k cs)
def leasts : List Tr → List Int → Tr → Tr
  | [], _, d => d
  | c :: cs, lot, d => if sub lot (lv c) then least c lot else leasts cs lot d
end
theorem least_knot (k : Kd) (cs : List Tr) (lot : List Int) : least (.knot k cs) lot = leasts cs lot (.knot k cs) := by rw [least]
theorem leasts_own {lot : List Int} {d : Tr} : ∀ {cs : List Tr}, (∀ c ∈ cs, ¬ sub lot (lv c)) → leasts cs lot d = d
  | [], _ => by rw [leasts]
  | c :: cs, h => by
    rw [leasts, if_neg (h c List.mem_cons_self)]
    exact leasts_own fun e he => h e (List.mem_cons_of_mem _ he)
theorem leasts_child {lot : List Int} {d : Tr} : ∀ {cs : List Tr}, (lvs cs).Nodup → lot ≠ [] → ∀ {c : Tr}, c ∈ cs → sub lot (lv c) → leasts cs lot d = least c lot
  | [], _, _, c, hc, _ => absurd hc (by simp)
  | a :: cs, hn, h0, c, hc, hs => by
    rw [leasts]
    rcases List.mem_cons.mp hc with e | e
    · subst e
      rw [if_pos hs]
    · simp only [lvs] at hn
      have h' := List.nodup_append.mp hn
      have no : ¬ sub lot (lv a) := fun h => by
        match lot, h0 with
        | x :: r, _ => exact absurd rfl (h'.2.2 x (h x List.mem_cons_self) x (mem_lvs.mpr ⟨c, e, hs x List.mem_cons_self⟩))
      rw [if_neg no]
      exact leasts_child h'.2.1 h0 e hs
/-! ### children that are met, filled, joined -/
def child (cs : List Tr) (i : Nat) : Tr := cs.getD i (.leaf 0)
theorem child_at {cs : List Tr} {i : Nat} (h : i < cs.length) : cs[i]? = some (child cs i) := by
  unfold child
  rw [List.getD_eq_getElem?_getD, List.getElem?_eq_getElem h]
  rfl
theorem child_of {cs : List Tr} {i : Nat} {c : Tr} (h : cs[i]? = some c) : child cs i = c := by
  unfold child
  rw [List.getD_eq_getElem?_getD, h]
  rfl
theorem child_mem {cs : List Tr} {i : Nat} (h : i < cs.length) : child cs i ∈ cs := List.mem_of_getElem? (child_at h)
theorem mem_child {cs : List Tr} {c : Tr} (h : c ∈ cs) : ∃ i, i < cs.length ∧ child cs i = c := by
  obtain ⟨i, hi⟩ := List.getElem?_of_mem h
  exact ⟨i, (List.getElem?_eq_some_iff.mp hi).1, child_of hi⟩
def meets (c : Tr) (lot : List Int) : Bool := (lv c).any fun x => decide (x ∈ lot)
theorem meets_iff {c : Tr} {lot : List Int} : meets c lot = true ↔ ∃ x ∈ lv c, x ∈ lot := by
  unfold meets
  rw [List.any_eq_true]
  simp
def met (cs : List Tr) (lot : List Int) : List Nat := (List.range cs.length).filter fun i => meets (child cs i) lot
theorem mem_met {cs : List Tr} {lot : List Int} {i : Nat} : i ∈ met cs lot ↔ i < cs.length ∧ ∃ x ∈ lv (child cs i), x ∈ lot := by
  unfold met
  rw [List.mem_filter, List.mem_range, meets_iff]
theorem sn_range (n : Nat) : SN (List.range n) := List.pairwise_lt_range
theorem sn_met (cs : List Tr) (lot : List Int) : SN (met cs lot) := (sn_range _).filter _
def stretch (a b : Nat) : List Nat := (List.range (b + 1 - a)).map (a + ·)
theorem mem_stretch {a b i : Nat} : i ∈ stretch a b ↔ a ≤ i ∧ i ≤ b := by
  unfold stretch
  rw [List.mem_map]
  constructor
  · rintro ⟨j, hj, rfl⟩
    have := List.mem_range.mp hj
    omega
  · rintro ⟨h1, h2⟩
    exact ⟨i - a, List.mem_range.mpr (by omega), by omega⟩
theorem sn_stretch (a b : Nat) : SN (stretch a b) := by
  unfold stretch
  rw [SN, List.pairwise_map]
  exact (sn_range _).imp fun h => by omega
def hd (g : List Nat) : Nat := g.headD 0
def lst (g : List Nat) : Nat := g.getLastD 0
def filled : Kd → Nat → List Nat → List Nat
  | .bare, n, _ => List.range n
  | .line, _, g => stretch (hd g) (lst g)
  | .free, _, g => g
def joined (cs : List Tr) (g : List Nat) : List Int := srt (g.flatMap fun i => lv (child cs i))
theorem mem_joined {cs : List Tr} {g : List Nat} {x : Int} : x ∈ joined cs g ↔ ∃ i ∈ g, x ∈ lv (child cs i) := by
  unfold joined
  rw [mem_srt, List.mem_flatMap]
theorem joined_nd {cs : List Tr} (hn : (lvs cs).Nodup) : ∀ {g : List Nat}, g.Nodup → (∀ i ∈ g, i < cs.length) → (g.flatMap fun i => lv (child cs i)).Nodup
  | [], _, _ => by simp
  | i :: g, h, hb => by
    have h' := List.nodup_cons.mp h
    rw [List.flatMap_cons]
    refine List.nodup_append.mpr ⟨nd_child hn (child_mem (hb i List.mem_cons_self)), joined_nd hn h'.2 fun j hj => hb j (List.mem_cons_of_mem _ hj), ?_⟩
    rintro x hx y hy rfl
    obtain ⟨j, hj, hxj⟩ := List.mem_flatMap.mp hy
    have e := apart hn (child_at (hb i List.mem_cons_self)) (child_at (hb j (List.mem_cons_of_mem _ hj))) hx hxj
    exact h'.1 (e ▸ hj)
theorem joined_ss {cs : List Tr} (hn : (lvs cs).Nodup) {g : List Nat} (h : SN g) (hb : ∀ i ∈ g, i < cs.length) : SS (joined cs g) := srt_ss (joined_nd hn (sn_nd h) hb)
def hull (t : Tr) (lot : List Int) : List Int := match least t lot with
  | .leaf n => [n]
  | .knot k cs => joined cs (filled k cs.length (met cs lot))
def place (t : Tr) (lot : List Int) : List Int × List Nat := match least t lot with
  | .leaf n => ([n], [])
  | .knot _ cs => (srt (lvs cs), met cs lot)
def others (n : Nat) (g : List Nat) : List Nat := (List.range n).filter fun i => decide (i ∉ g)
def cross1 (k : Kd) (cs : List Tr) (g : List Nat) : Option (List Int) :=
  if others cs.length g = [] then none
  else if k = .free then some (joined cs [hd g, hd (others cs.length g)])
  else if 0 < hd g then some (joined cs [hd g - 1, hd g])
  else some (joined cs [lst g, lst g + 1])
def cross (t : Tr) (lot : List Int) : Option (List Int) := match least t lot with
  | .leaf _ => none
  | .knot k cs => cross1 k cs (met cs lot)
/-! ### groups of children, inner lots with their places -/
def subs : Nat → List (List Nat)
  | 0 => [[]]
  | n + 1 => subs n ++ (subs n).map (· ++ [n])
def good (k : Kd) (g : List Nat) : Bool := match k with
  | .bare => true
  | .line => decide (1 < g.length) && decide (lst g = hd g + (g.length - 1))
  | .free => decide (1 < g.length)
def groups (k : Kd) (n : Nat) : List (List Nat) := match k with
  | .bare => [List.range n]
  | k => (subs n).filter (good k)
theorem mem_subs : ∀ {n : Nat} {g : List Nat}, g ∈ subs n ↔ SN g ∧ ∀ i ∈ g, i < n
  | 0, g => by
    simp only [subs, List.mem_singleton]
    constructor
    · rintro rfl
      exact ⟨List.Pairwise.nil, by simp⟩
    · rintro ⟨_, h⟩
      match g with
      | [] => rfl
      | i :: g => exact absurd (h i List.mem_cons_self) (by omega)
  | n + 1, g => by
    simp only [subs, List.mem_append, List.mem_map]
    constructor
    · rintro (h | ⟨f, h, rfl⟩)
      · obtain ⟨h1, h2⟩ := mem_subs.mp h
        exact ⟨h1, fun i hi => by have := h2 i hi; omega⟩
      · obtain ⟨h1, h2⟩ := mem_subs.mp h
        refine ⟨List.pairwise_append.mpr ⟨h1, List.pairwise_singleton _ _, fun a ha b hb => ?_⟩, fun i hi => ?_⟩
        · have := h2 a ha
          have := List.mem_singleton.mp hb
          omega
        · rcases List.mem_append.mp hi with e | e
          · have := h2 i e
            omega
          · have := List.mem_singleton.mp e
            omega
    · rintro ⟨h1, h2⟩
      by_cases hm : n ∈ g
      · refine .inr ⟨g.filter fun i => decide (i < n), mem_subs.mpr ⟨h1.filter _, fun i hi => by simpa using (List.mem_filter.mp hi).2⟩, ?_⟩
        refine sn_ext (List.pairwise_append.mpr ⟨h1.filter _, List.pairwise_singleton _ _, fun a ha b hb => ?_⟩) h1 fun i => ?_
        · have := (List.mem_filter.mp ha).2
          have := List.mem_singleton.mp hb
          simp at *
          omega
        · rw [List.mem_append, List.mem_filter, List.mem_singleton]
          constructor
          · rintro (⟨h, _⟩ | rfl)
            · exact h
            · exact hm
          · intro h
            have := h2 i h
            by_cases e : i = n
            · exact .inr e
            · exact .inl ⟨h, by simp; omega⟩
      · refine .inl (mem_subs.mpr ⟨h1, fun i hi => ?_⟩)
        have := h2 i hi
        have : i ≠ n := fun e => hm (e ▸ hi)
        omega
theorem subs_nd : ∀ n : Nat, (subs n).Nodup
  | 0 => by simp [subs]
  | n + 1 => by
    simp only [subs]
    refine List.nodup_append.mpr ⟨subs_nd n, ?_, ?_⟩
    · exact List.pairwise_map.mpr ((subs_nd n).imp fun h e => h (List.append_cancel_right e))
    · rintro a ha b hb rfl
      obtain ⟨f, _, e⟩ := List.mem_map.mp hb
      have := (mem_subs.mp ha).2 n (by rw [← e]; simp)
      omega
end K24
set_option autoImplicit false
namespace K24
/-! ### hd, lst of ascending lists -/
theorem hd_mem : ∀ {g : List Nat}, g ≠ [] → hd g ∈ g
  | [], h => absurd rfl h
  | i :: g, _ => by simp [hd]
theorem lst_cons {i j : Nat} {g : List Nat} : lst (i :: j :: g) = lst (j :: g) := by simp [lst]
theorem lst_one {i : Nat} : lst [i] = i := by simp [lst]
theorem lst_mem : ∀ {g : List Nat}, g ≠ [] → lst g ∈ g
  | [], h => absurd rfl h
  | [i], _ => by simp [lst]
  | i :: j :: g, _ => by
    rw [lst_cons]
    exact List.mem_cons_of_mem _ (lst_mem (by simp))
theorem hd_le : ∀ {g : List Nat}, SN g → ∀ i ∈ g, hd g ≤ i
  | [], _, i, h => absurd h (by simp)
  | a :: g, h, i, hi => by
    have h' := List.pairwise_cons.mp h
    show a ≤ i
    rcases List.mem_cons.mp hi with e | e
    · omega
    · have := h'.1 i e
      omega
theorem le_lst : ∀ {g : List Nat}, SN g → ∀ i ∈ g, i ≤ lst g
  | [], _, i, h => absurd h (by simp)
  | [a], _, i, hi => by
    have := List.mem_singleton.mp hi
    rw [lst_one]
    omega
  | a :: b :: g, h, i, hi => by
    have h' := List.pairwise_cons.mp h
    rw [lst_cons]
    rcases List.mem_cons.mp hi with e | e
    · have h1 := h'.1 b List.mem_cons_self
      have h2 := le_lst h'.2 b List.mem_cons_self
      omega
    · exact le_lst h'.2 i e
/-- an ascending list spans at least its length -/
theorem span : ∀ {g : List Nat}, SN g → g ≠ [] → hd g + (g.length - 1) ≤ lst g
  | [], _, h => absurd rfl h
  | [a], _, _ => by simp [lst, hd]
  | a :: b :: g, h, _ => by
    have h' := List.pairwise_cons.mp h
    have ih := span h'.2 (by simp)
    rw [lst_cons]
    have := h'.1 b List.mem_cons_self
    have e1 : hd (a :: b :: g) = a := rfl
    have e2 : hd (b :: g) = b := rfl
    simp only [List.length_cons] at *
    omega
/-- one that spans no more is a stretch -/
theorem full_span : ∀ {g : List Nat}, SN g → g ≠ [] → lst g = hd g + (g.length - 1) → ∀ i, hd g ≤ i → i ≤ lst g → i ∈ g
  | [], _, h, _, _, _, _ => absurd rfl h
  | [a], _, _, _, i, h1, h2 => by
    have e1 : hd [a] = a := rfl
    rw [lst_one] at h2
    have : i = a := by omega
    rw [this]; exact List.mem_cons_self
  | a :: b :: g, h, _, e, i, h1, h2 => by
    have h' := List.pairwise_cons.mp h
    have sp := span h'.2 (by simp)
    have hab := h'.1 b List.mem_cons_self
    have e1 : hd (a :: b :: g) = a := rfl
    have e2 : hd (b :: g) = b := rfl
    rw [lst_cons] at e h2
    simp only [List.length_cons] at *
    by_cases q : i = a
    · rw [q]; exact List.mem_cons_self
    · refine List.mem_cons_of_mem _ (full_span h'.2 (by simp) ?_ i ?_ h2)
      · simp only [List.length_cons]
        omega
      · omega
theorem two_of {g : List Nat} (h : SN g) (hl : 1 < g.length) : hd g < lst g := by
  have := span h (by intro e; rw [e] at hl; simp at hl)
  omega
theorem len_two {g : List Nat} {i j : Nat} (hi : i ∈ g) (hj : j ∈ g) (h : i ≠ j) : 1 < g.length := by
  match g with
  | [] => exact absurd hi (by simp)
  | [a] =>
    have := List.mem_singleton.mp hi
    have := List.mem_singleton.mp hj
    omega
  | a :: b :: g => simp
theorem len_stretch (a b : Nat) : (stretch a b).length = b + 1 - a := by simp [stretch]
theorem hd_stretch {a b : Nat} (h : a ≤ b) : hd (stretch a b) = a := by
  have h1 := hd_mem (g := stretch a b) (by intro e; have := len_stretch a b; rw [e] at this; simp at this; omega)
  have h2 := mem_stretch.mp h1
  have h3 := hd_le (sn_stretch a b) a (mem_stretch.mpr ⟨Nat.le_refl _, h⟩)
  omega
theorem lst_stretch {a b : Nat} (h : a ≤ b) : lst (stretch a b) = b := by
  have h1 := lst_mem (g := stretch a b) (by intro e; have := len_stretch a b; rw [e] at this; simp at this; omega)
  have h2 := mem_stretch.mp h1
  have h3 := le_lst (sn_stretch a b) b (mem_stretch.mpr ⟨h, Nat.le_refl _⟩)
  omega
/-! ### what a group is -/
structure Grp (k : Kd) (n : Nat) (g : List Nat) : Prop where
  sn : SN g
  lt : ∀ i ∈ g, i < n
  two : 1 < g.length
  fill : filled k n g = g
theorem grp_of {k : Kd} {n : Nat} {g : List Nat} (hn : 2 ≤ n) (h : g ∈ groups k n) : Grp k n g := by
  match k with
  | .bare =>
    have e : g = List.range n := by simpa [groups] using h
    subst e
    exact ⟨sn_range n, fun i hi => List.mem_range.mp hi, by simp; omega, rfl⟩
  | .free =>
    have h := List.mem_filter.mp (show g ∈ (subs n).filter (good .free) from h)
    obtain ⟨h1, h2⟩ := mem_subs.mp h.1
    exact ⟨h1, h2, by simpa [good] using h.2, rfl⟩
  | .line =>
    have h := List.mem_filter.mp (show g ∈ (subs n).filter (good .line) from h)
    obtain ⟨h1, h2⟩ := mem_subs.mp h.1
    have h3 : 1 < g.length ∧ lst g = hd g + (g.length - 1) := by simpa [good] using h.2
    have h0 : g ≠ [] := by intro e; rw [e] at h3; simp at h3
    refine ⟨h1, h2, h3.1, sn_ext (sn_stretch _ _) h1 fun i => ?_⟩
    rw [show filled Kd.line n g = stretch (hd g) (lst g) from rfl, mem_stretch]
    exact ⟨fun q => full_span h1 h0 h3.2 i q.1 q.2, fun q => ⟨hd_le h1 i q, le_lst h1 i q⟩⟩
theorem stretch_grp {n a b : Nat} (h : a < b) (hb : b < n) : stretch a b ∈ groups .line n := by
  refine List.mem_filter.mpr ⟨mem_subs.mpr ⟨sn_stretch _ _, fun i hi => ?_⟩, ?_⟩
  · have := mem_stretch.mp hi
    omega
  · have e1 := hd_stretch (Nat.le_of_lt h)
    have e2 := lst_stretch (Nat.le_of_lt h)
    have e3 := len_stretch a b
    simp only [good, e1, e2, e3, Bool.and_eq_true, decide_eq_true_eq]
    omega
theorem free_grp {n : Nat} {g : List Nat} (h : SN g) (hb : ∀ i ∈ g, i < n) (h2 : 1 < g.length) : g ∈ groups .free n :=
  List.mem_filter.mpr ⟨mem_subs.mpr ⟨h, hb⟩, by simp [good, h2]⟩
theorem filled_grp {k : Kd} {n : Nat} {g : List Nat} (h : SN g) (hb : ∀ i ∈ g, i < n) (h2 : 1 < g.length) : filled k n g ∈ groups k n := by
  match k with
  | .bare => simp [groups, filled]
  | .free => exact free_grp h hb h2
  | .line => exact stretch_grp (two_of h h2) (hb _ (lst_mem (by intro e; rw [e] at h2; simp at h2)))
theorem sub_filled {k : Kd} {n : Nat} {g : List Nat} (h : SN g) (hb : ∀ i ∈ g, i < n) {i : Nat} (hi : i ∈ g) : i ∈ filled k n g := by
  match k with
  | .bare => exact List.mem_range.mpr (hb i hi)
  | .free => exact hi
  | .line => exact mem_stretch.mpr ⟨hd_le h i hi, le_lst h i hi⟩
theorem filled_sub {k : Kd} {n : Nat} {g f : List Nat} (G : Grp k n g) (h : ∀ i ∈ f, i ∈ g) (h0 : f ≠ []) : ∀ i ∈ filled k n f, i ∈ g := by
  intro i hi
  rw [← G.fill]
  match k with
  | .bare => exact hi
  | .free => exact sub_filled G.sn G.lt (h i hi)
  | .line =>
    have h1 := hd_le G.sn _ (h _ (hd_mem h0))
    have h2 := le_lst G.sn _ (h _ (lst_mem h0))
    have := mem_stretch.mp (show i ∈ stretch (hd f) (lst f) from hi)
    exact mem_stretch.mpr ⟨by omega, by omega⟩
/-! ### places -/
mutual
def places : Tr → List (List Int × List Int × List Nat)
  | .leaf n => [([n], [n], [])]
  | .knot k cs => placess cs ++ (groups k cs.length).map fun g => (joined cs g, srt (lvs cs), g)
def placess : List Tr → List (List Int × List Int × List Nat)
  | [] => []
  | c :: cs => places c ++ placess cs
end
theorem mem_placess {z : List Int × List Int × List Nat} : ∀ {cs : List Tr}, z ∈ placess cs ↔ ∃ c ∈ cs, z ∈ places c
  | [] => by simp [placess]
  | c :: cs => by simp [placess, mem_placess (cs := cs)]
theorem mem_places {z : List Int × List Int × List Nat} {k : Kd} {cs : List Tr} : z ∈ places (.knot k cs) ↔ (∃ c ∈ cs, z ∈ places c) ∨ ∃ g ∈ groups k cs.length, (joined cs g, srt (lvs cs), g) = z := by
  rw [places, List.mem_append, mem_placess, List.mem_map]
def inn (t : Tr) : List (List Int) := (places t).map (·.1)
theorem mem_inn {L : List Int} {k : Kd} {cs : List Tr} : L ∈ inn (.knot k cs) ↔ (∃ c ∈ cs, L ∈ inn c) ∨ ∃ g ∈ groups k cs.length, joined cs g = L := by
  unfold inn
  rw [List.mem_map]
  constructor
  · rintro ⟨z, hz, rfl⟩
    rcases mem_places.mp hz with ⟨c, hc, h⟩ | ⟨g, hg, rfl⟩
    · exact .inl ⟨c, hc, List.mem_map.mpr ⟨z, h, rfl⟩⟩
    · exact .inr ⟨g, hg, rfl⟩
  · rintro (⟨c, hc, h⟩ | ⟨g, hg, rfl⟩)
    · obtain ⟨z, hz, rfl⟩ := List.mem_map.mp h
      exact ⟨z, mem_places.mpr (.inl ⟨c, hc, hz⟩), rfl⟩
    · exact ⟨_, mem_places.mpr (.inr ⟨g, hg, rfl⟩), rfl⟩
theorem inn_leaf (n : Int) : inn (.leaf n) = [[n]] := by simp [inn, places]
/-- what is told of a tree that is looked at -/
structure Wf (t : Tr) : Prop where
  ok : ok t
  nd : (lv t).Nodup
theorem Wf.child {k : Kd} {cs : List Tr} (w : Wf (.knot k cs)) {c : Tr} (hc : c ∈ cs) : Wf c := ⟨(ok_knot w.ok).2 c hc, nd_child (by have := w.nd; rwa [lv] at this) hc⟩
theorem Wf.nds {k : Kd} {cs : List Tr} (w : Wf (.knot k cs)) : (lvs cs).Nodup := by have := w.nd; rwa [lv] at this
theorem Wf.two {k : Kd} {cs : List Tr} (w : Wf (.knot k cs)) : 2 ≤ cs.length := (ok_knot w.ok).1
theorem Wf.ne {k : Kd} {cs : List Tr} (w : Wf (.knot k cs)) {i : Nat} (h : i < cs.length) : ∃ x, x ∈ lv (K24.child cs i) := by
  have := lv_ne _ (w.child (child_mem h)).ok
  match e : lv (K24.child cs i), this with
  | x :: r, _ => exact ⟨x, List.mem_cons_self⟩
theorem one {k : Kd} {cs : List Tr} (w : Wf (.knot k cs)) {i j : Nat} (hi : i < cs.length) (hj : j < cs.length) {x : Int} (h1 : x ∈ lv (child cs i)) (h2 : x ∈ lv (child cs j)) : i = j :=
  apart w.nds (child_at hi) (child_at hj) h1 h2
theorem lv_knot (k : Kd) (cs : List Tr) : lv (.knot k cs) = lvs cs := by rw [lv]
theorem mem_lv {k : Kd} {cs : List Tr} {x : Int} : x ∈ lv (.knot k cs) ↔ ∃ i, i < cs.length ∧ x ∈ lv (child cs i) := by
  rw [lv_knot, mem_lvs]
  constructor
  · rintro ⟨c, hc, h⟩
    obtain ⟨i, hi, rfl⟩ := mem_child hc
    exact ⟨i, hi, h⟩
  · rintro ⟨i, hi, h⟩
    exact ⟨_, child_mem hi, h⟩
theorem inn_lot : ∀ t : Tr, Wf t → ∀ L ∈ inn t, L ≠ [] ∧ sub L (lv t) ∧ SS L := Tr.ind (fun n _ L h => by
    rw [inn_leaf] at h
    rw [List.mem_singleton.mp h]
    exact ⟨by simp, fun x hx => by simpa [lv] using hx, List.pairwise_singleton _ _⟩) fun k cs ih w L h => by
  rcases mem_inn.mp h with ⟨c, hc, h⟩ | ⟨g, hg, rfl⟩
  · obtain ⟨h1, h2, h3⟩ := ih c hc (w.child hc) L h
    exact ⟨h1, fun x hx => by rw [lv_knot]; exact mem_lvs.mpr ⟨c, hc, h2 x hx⟩, h3⟩
  · have G := grp_of w.two hg
    have h0 : g ≠ [] := by intro e; have := G.two; rw [e] at this; simp at this
    obtain ⟨x, hx⟩ := w.ne (G.lt _ (hd_mem h0))
    refine ⟨fun e => ?_, fun y hy => ?_, joined_ss w.nds G.sn G.lt⟩
    · have : x ∈ joined cs g := mem_joined.mpr ⟨_, hd_mem h0, hx⟩
      rw [e] at this
      exact absurd this (by simp)
    · obtain ⟨i, hi, h⟩ := mem_joined.mp hy
      exact mem_lv.mpr ⟨i, G.lt i hi, h⟩
/-! ### the least tree of a lot -/
theorem least_in {k : Kd} {cs : List Tr} (w : Wf (.knot k cs)) {lot : List Int} (h0 : lot ≠ []) {c : Tr} (hc : c ∈ cs) (hs : sub lot (lv c)) : least (.knot k cs) lot = least c lot := by
  rw [least_knot]
  exact leasts_child w.nds h0 hc hs
theorem least_own {k : Kd} {cs : List Tr} {lot : List Int} (h : ∀ c ∈ cs, ¬ sub lot (lv c)) : least (.knot k cs) lot = .knot k cs := by
  rw [least_knot]
  exact leasts_own h
theorem hull_in {k : Kd} {cs : List Tr} (w : Wf (.knot k cs)) {lot : List Int} (h0 : lot ≠ []) {c : Tr} (hc : c ∈ cs) (hs : sub lot (lv c)) : hull (.knot k cs) lot = hull c lot := by
  unfold hull
  rw [least_in w h0 hc hs]
theorem place_in {k : Kd} {cs : List Tr} (w : Wf (.knot k cs)) {lot : List Int} (h0 : lot ≠ []) {c : Tr} (hc : c ∈ cs) (hs : sub lot (lv c)) : place (.knot k cs) lot = place c lot := by
  unfold place
  rw [least_in w h0 hc hs]
theorem cross_in {k : Kd} {cs : List Tr} (w : Wf (.knot k cs)) {lot : List Int} (h0 : lot ≠ []) {c : Tr} (hc : c ∈ cs) (hs : sub lot (lv c)) : cross (.knot k cs) lot = cross c lot := by
  unfold cross
  rw [least_in w h0 hc hs]
theorem hull_own {k : Kd} {cs : List Tr} {lot : List Int} (h : ∀ c ∈ cs, ¬ sub lot (lv c)) : hull (.knot k cs) lot = joined cs (filled k cs.length (met cs lot)) := by
  unfold hull
  rw [least_own h]
theorem place_own {k : Kd} {cs : List Tr} {lot : List Int} (h : ∀ c ∈ cs, ¬ sub lot (lv c)) : place (.knot k cs) lot = (srt (lvs cs), met cs lot) := by
  unfold place
  rw [least_own h]
theorem cross_own {k : Kd} {cs : List Tr} {lot : List Int} (h : ∀ c ∈ cs, ¬ sub lot (lv c)) : cross (.knot k cs) lot = cross1 k cs (met cs lot) := by
  unfold cross
  rw [least_own h]
/-- a group's own lot -/
theorem grp_no {k : Kd} {cs : List Tr} (w : Wf (.knot k cs)) {g : List Nat} (G : Grp k cs.length g) : ∀ c ∈ cs, ¬ sub (joined cs g) (lv c) := by
  intro c hc hs
  obtain ⟨m, hm, rfl⟩ := mem_child hc
  have h0 : g ≠ [] := by intro e; have := G.two; rw [e] at this; simp at this
  have h2 := two_of G.sn G.two
  have key : ∀ i ∈ g, i = m := fun i hi => by
    obtain ⟨x, hx⟩ := w.ne (G.lt i hi)
    exact one w (G.lt i hi) hm hx (hs x (mem_joined.mpr ⟨i, hi, hx⟩))
  have := key _ (hd_mem h0)
  have := key _ (lst_mem h0)
  omega
theorem met_joined {k : Kd} {cs : List Tr} (w : Wf (.knot k cs)) {g : List Nat} (hs : SN g) (hb : ∀ i ∈ g, i < cs.length) : met cs (joined cs g) = g := by
  refine sn_ext (sn_met _ _) hs fun i => ?_
  rw [mem_met]
  constructor
  · rintro ⟨hi, x, hx, hj⟩
    obtain ⟨j, hjg, hxj⟩ := mem_joined.mp hj
    rw [one w hi (hb j hjg) hx hxj]
    exact hjg
  · intro hi
    obtain ⟨x, hx⟩ := w.ne (hb i hi)
    exact ⟨hb i hi, x, hx, mem_joined.mpr ⟨i, hi, hx⟩⟩
theorem met_two {k : Kd} {cs : List Tr} {lot : List Int} (h0 : lot ≠ []) (hs : sub lot (lv (.knot k cs))) (h : ∀ c ∈ cs, ¬ sub lot (lv c)) : 1 < (met cs lot).length := by
  match lot, h0 with
  | x :: r, _ =>
    obtain ⟨i, hi, hx⟩ := mem_lv.mp (hs x List.mem_cons_self)
    have no := h _ (child_mem hi)
    have : ∃ y ∈ x :: r, y ∉ lv (child cs i) := by
      apply Classical.byContradiction
      intro q
      exact no fun y hy => Classical.byContradiction fun hn => q ⟨y, hy, hn⟩
    obtain ⟨y, hy, hyn⟩ := this
    obtain ⟨j, hj, hyj⟩ := mem_lv.mp (hs y hy)
    refine len_two (mem_met.mpr ⟨hi, x, hx, List.mem_cons_self⟩) (mem_met.mpr ⟨hj, y, hyj, hy⟩) fun e => hyn ?_
    rw [e]
    exact hyj
theorem met_lt {cs : List Tr} {lot : List Int} : ∀ i ∈ met cs lot, i < cs.length := fun _ h => (mem_met.mp h).1
/-! ### the theorems -/
theorem place_is : ∀ t : Tr, Wf t → ∀ z ∈ places t, place t z.1 = z.2 := Tr.ind (fun n _ z h => by
    have e : z = ([n], [n], []) := by simpa [places] using h
    rw [e]
    simp [place, least]) fun k cs ih w z h => by
  rcases mem_places.mp h with ⟨c, hc, h⟩ | ⟨g, hg, rfl⟩
  · have hz : z.1 ∈ inn c := List.mem_map.mpr ⟨z, h, rfl⟩
    obtain ⟨h1, h2, _⟩ := inn_lot c (w.child hc) _ hz
    rw [place_in w h1 hc h2]
    exact ih c hc (w.child hc) z h
  · have G := grp_of w.two hg
    show place _ (joined cs g) = _
    rw [place_own (grp_no w G), met_joined w G.sn G.lt]
theorem hull_mem : ∀ t : Tr, Wf t → ∀ lot : List Int, lot ≠ [] → sub lot (lv t) → hull t lot ∈ inn t ∧ sub lot (hull t lot) := Tr.ind (fun n _ lot h0 hs => by
    have e : hull (.leaf n) lot = [n] := by simp [hull, least]
    rw [e, inn_leaf]
    refine ⟨by simp, fun x hx => ?_⟩
    have := hs x hx
    simpa [lv] using this) fun k cs ih w lot h0 hs => by
  by_cases q : ∃ c ∈ cs, sub lot (lv c)
  · obtain ⟨c, hc, hsc⟩ := q
    rw [hull_in w h0 hc hsc]
    obtain ⟨h1, h2⟩ := ih c hc (w.child hc) lot h0 hsc
    exact ⟨mem_inn.mpr (.inl ⟨c, hc, h1⟩), h2⟩
  · have no : ∀ c ∈ cs, ¬ sub lot (lv c) := fun c hc h => q ⟨c, hc, h⟩
    rw [hull_own no]
    have h2 := met_two h0 hs no
    refine ⟨mem_inn.mpr (.inr ⟨_, filled_grp (sn_met _ _) met_lt h2, rfl⟩), fun x hx => ?_⟩
    obtain ⟨i, hi, hxi⟩ := mem_lv.mp (hs x hx)
    exact mem_joined.mpr ⟨i, sub_filled (sn_met _ _) met_lt (mem_met.mpr ⟨hi, x, hxi, hx⟩), hxi⟩
theorem hull_least : ∀ t : Tr, Wf t → ∀ lot : List Int, lot ≠ [] → ∀ L ∈ inn t, sub lot L → sub (hull t lot) L := Tr.ind (fun n _ lot h0 L hL hs => by
    have e : hull (.leaf n) lot = [n] := by simp [hull, least]
    rw [e]
    rw [inn_leaf] at hL
    rw [List.mem_singleton.mp hL]
    exact fun x hx => hx) fun k cs ih w lot h0 L hL hs => by
  have hLs := (inn_lot _ w L hL).2.1
  rcases mem_inn.mp hL with ⟨c, hc, h⟩ | ⟨g, hg, rfl⟩
  · have hLc := (inn_lot c (w.child hc) L h).2.1
    rw [hull_in w h0 hc fun x hx => hLc x (hs x hx)]
    exact ih c hc (w.child hc) lot h0 L h hs
  · have G := grp_of w.two hg
    by_cases q : ∃ c ∈ cs, sub lot (lv c)
    · obtain ⟨c, hc, hsc⟩ := q
      rw [hull_in w h0 hc hsc]
      have hh := (inn_lot c (w.child hc) _ (hull_mem c (w.child hc) lot h0 hsc).1).2.1
      obtain ⟨m, hm, rfl⟩ := mem_child hc
      match lot, h0 with
      | x :: r, _ =>
        obtain ⟨j, hj, hxj⟩ := mem_joined.mp (hs x List.mem_cons_self)
        have e := one w (G.lt j hj) hm hxj (hsc x List.mem_cons_self)
        exact fun y hy => mem_joined.mpr ⟨m, e ▸ hj, hh y hy⟩
    · have no : ∀ c ∈ cs, ¬ sub lot (lv c) := fun c hc h => q ⟨c, hc, h⟩
      rw [hull_own no]
      have h2 := met_two h0 (fun x hx => hLs x (hs x hx)) no
      have hmg : ∀ i ∈ met cs lot, i ∈ g := fun i hi => by
        obtain ⟨hi1, x, hx, hxl⟩ := mem_met.mp hi
        obtain ⟨j, hj, hxj⟩ := mem_joined.mp (hs x hxl)
        rw [one w hi1 (G.lt j hj) hx hxj]
        exact hj
      intro y hy
      obtain ⟨i, hi, hyi⟩ := mem_joined.mp hy
      exact mem_joined.mpr ⟨i, filled_sub G hmg (by intro e; rw [e] at h2; simp at h2) i hi, hyi⟩
theorem hull_fix {t : Tr} (w : Wf t) {L : List Int} (h : L ∈ inn t) : hull t L = L := by
  obtain ⟨h0, hs, h3⟩ := inn_lot t w L h
  obtain ⟨h1, h2⟩ := hull_mem t w L h0 hs
  exact ss_ext (inn_lot t w _ h1).2.2 h3 fun x => ⟨fun hx => hull_least t w L h0 L h (fun _ q => q) x hx, fun hx => h2 x hx⟩
theorem hull_iff {t : Tr} (w : Wf t) {lot : List Int} (h0 : lot ≠ []) (hs : sub lot (lv t)) : hull t lot = lot ↔ lot ∈ inn t :=
  ⟨fun e => e ▸ (hull_mem t w lot h0 hs).1, fun h => hull_fix w h⟩
/-- any shortest inner lot above a lot is its hull -/
theorem hull_short {t : Tr} (w : Wf t) {lot M : List Int} (h0 : lot ≠ []) (hs : sub lot (lv t)) (hM : M ∈ inn t) (hm : sub lot M) (hl : ∀ L ∈ inn t, sub lot L → M.length ≤ L.length) : hull t lot = M := by
  obtain ⟨h1, h2⟩ := hull_mem t w lot h0 hs
  exact ss_sub_eq (inn_lot t w _ h1).2.2 (inn_lot t w _ hM).2.2 (hull_least t w lot h0 M hM hm) (hl _ h1 h2)
end K24
set_option autoImplicit false
namespace K24
/-! ### strong lots, overlaps -/
mutual
def trees : Tr → List Tr
  | .leaf n => [.leaf n]
  | .knot k cs => .knot k cs :: treess cs
def treess : List Tr → List Tr
  | [] => []
  | c :: cs => trees c ++ treess cs
end
theorem mem_treess {z : Tr} : ∀ {cs : List Tr}, z ∈ treess cs ↔ ∃ c ∈ cs, z ∈ trees c
  | [] => by simp [treess]
  | c :: cs => by simp [treess, mem_treess (cs := cs)]
theorem mem_trees {z : Tr} {k : Kd} {cs : List Tr} : z ∈ trees (.knot k cs) ↔ z = .knot k cs ∨ ∃ c ∈ cs, z ∈ trees c := by
  rw [trees, List.mem_cons, mem_treess]
def parts (t : Tr) : List Int := srt (lv t)
def strong (t : Tr) : List (List Int) := (trees t).map parts
theorem mem_parts {t : Tr} {x : Int} : x ∈ parts t ↔ x ∈ lv t := mem_srt
theorem trees_self : ∀ t : Tr, t ∈ trees t
  | .leaf n => by simp [trees]
  | .knot k cs => by simp [trees]
theorem trees_sub : ∀ t : Tr, ∀ z ∈ trees t, sub (lv z) (lv t) := Tr.ind (fun n z h => by
    have e : z = .leaf n := by simpa [trees] using h
    rw [e]
    exact fun x hx => hx) fun k cs ih z h => by
  rcases mem_trees.mp h with rfl | ⟨c, hc, h⟩
  · exact fun x hx => hx
  · intro x hx
    rw [lv_knot]
    exact mem_lvs.mpr ⟨c, hc, ih c hc z h x hx⟩
theorem nest : ∀ t : Tr, Wf t → ∀ z ∈ trees t, ∀ L ∈ inn t, sub (lv z) L ∨ sub L (lv z) ∨ ∀ x ∈ lv z, x ∉ L := Tr.ind (fun n w z h L hL => by
    have e : z = .leaf n := by simpa [trees] using h
    rw [e]
    exact .inr (.inl (inn_lot _ w L hL).2.1)) fun k cs ih w z h L hL => by
  rcases mem_trees.mp h with rfl | ⟨c, hc, h⟩
  · exact .inr (.inl (inn_lot _ w L hL).2.1)
  · have hz := trees_sub c z h
    obtain ⟨i, hi, rfl⟩ := mem_child hc
    rcases mem_inn.mp hL with ⟨d, hd, hLd⟩ | ⟨g, hg, rfl⟩
    · obtain ⟨j, hj, rfl⟩ := mem_child hd
      by_cases e : i = j
      · subst e
        exact ih _ hc (w.child hc) z h L hLd
      · refine .inr (.inr fun x hx hxL => e ?_)
        exact one w hi hj (hz x hx) ((inn_lot _ (w.child hd) L hLd).2.1 x hxL)
    · have G := grp_of w.two hg
      by_cases e : i ∈ g
      · exact .inl fun x hx => mem_joined.mpr ⟨i, e, hz x hx⟩
      · refine .inr (.inr fun x hx hxL => e ?_)
        obtain ⟨j, hj, hxj⟩ := mem_joined.mp hxL
        rw [one w hi (G.lt j hj) (hz x hx) hxj]
        exact hj
def common (a b : List Int) : Nat := (a.filter fun x => decide (x ∈ b)).length
def ovl (a b : List Int) : Prop := 0 < common a b ∧ common a b < min a.length b.length
theorem ovl_no {a b : List Int} (ha : SS a) (hb : SS b) (h : sub a b ∨ sub b a ∨ ∀ x ∈ a, x ∉ b) : ¬ ovl a b := by
  rintro ⟨h1, h2⟩
  rcases h with h | h | h
  · have e : a.filter (fun x => decide (x ∈ b)) = a := List.filter_eq_self.mpr fun x hx => by simpa using h x hx
    unfold common at h2
    rw [e] at h2
    omega
  · have e : a.filter (fun x => decide (x ∈ b)) = b := ss_ext (ha.filter _) hb fun x => by
      rw [List.mem_filter]
      constructor
      · rintro ⟨_, q⟩
        simpa using q
      · intro q
        exact ⟨h x q, by simpa using q⟩
    unfold common at h2
    rw [e] at h2
    omega
  · have e : a.filter (fun x => decide (x ∈ b)) = [] := List.filter_eq_nil_iff.mpr fun x hx => by simpa using h x hx
    unfold common at h1
    rw [e] at h1
    simp at h1
theorem ovl_of {a b : List Int} (ha : SS a) {x y z : Int} (hx : x ∈ a) (hx' : x ∈ b) (hy : y ∈ a) (hy' : y ∉ b) (hz : z ∈ b) (hz' : z ∉ a) : ovl a b := by
  have nf : (a.filter fun x => decide (x ∈ b)).Nodup := ss_nd (ha.filter _)
  have mf : ∀ u, u ∈ a.filter (fun x => decide (x ∈ b)) ↔ u ∈ a ∧ u ∈ b := fun u => by simp [List.mem_filter]
  refine ⟨List.length_pos_of_mem ((mf x).mpr ⟨hx, hx'⟩), ?_⟩
  have h1 := nd_sub_len (a := y :: a.filter fun x => decide (x ∈ b)) (b := a) (List.nodup_cons.mpr ⟨fun q => hy' ((mf y).mp q).2, nf⟩) fun u hu => by
    rcases List.mem_cons.mp hu with e | e
    · rw [e]; exact hy
    · exact ((mf u).mp e).1
  have h2 := nd_sub_len (a := z :: a.filter fun x => decide (x ∈ b)) (b := b) (List.nodup_cons.mpr ⟨fun q => hz' ((mf z).mp q).1, nf⟩) fun u hu => by
    rcases List.mem_cons.mp hu with e | e
    · rw [e]; exact hz
    · exact ((mf u).mp e).2
  simp only [List.length_cons] at h1 h2
  unfold common
  omega
theorem strong_no {t : Tr} (w : Wf t) {S L : List Int} (hS : S ∈ strong t) (hL : L ∈ inn t) : ¬ ovl S L := by
  obtain ⟨z, hz, rfl⟩ := List.mem_map.mp hS
  have nz : (lv z).Nodup := by
    have : ∀ t : Tr, Wf t → ∀ z ∈ trees t, (lv z).Nodup := Tr.ind (fun n w z h => by
        have e : z = .leaf n := by simpa [trees] using h
        rw [e]; exact w.nd) fun k cs ih w z h => by
      rcases mem_trees.mp h with rfl | ⟨c, hc, h⟩
      · exact w.nd
      · exact ih c hc (w.child hc) z h
    exact this t w z hz
  refine ovl_no (srt_ss nz) (inn_lot t w L hL).2.2 ?_
  rcases nest t w z hz L hL with h | h | h
  · exact .inl fun x hx => h x (mem_srt.mp hx)
  · exact .inr (.inl fun x hx => mem_srt.mpr (h x hx))
  · exact .inr (.inr fun x hx => h x (mem_srt.mp hx))
/-! ### crossing lots -/
theorem mem_others {n i : Nat} {g : List Nat} : i ∈ others n g ↔ i < n ∧ i ∉ g := by
  unfold others
  rw [List.mem_filter, List.mem_range]
  simp
theorem others_nil {k : Kd} {n : Nat} {g : List Nat} (G : Grp k n g) : others n g = [] ↔ g = List.range n := by
  constructor
  · intro e
    refine sn_ext G.sn (sn_range n) fun i => ⟨fun h => List.mem_range.mpr (G.lt i h), fun h => ?_⟩
    apply Classical.byContradiction
    intro q
    have : i ∈ others n g := mem_others.mpr ⟨List.mem_range.mp h, q⟩
    rw [e] at this
    exact absurd this (by simp)
  · rintro rfl
    match e : others n (List.range n) with
    | [] => rfl
    | i :: r =>
      have : i ∈ others n (List.range n) := by rw [e]; exact List.mem_cons_self
      obtain ⟨h1, h2⟩ := mem_others.mp this
      exact absurd (List.mem_range.mpr h1) h2
theorem pair_ovl {k : Kd} {cs : List Tr} (w : Wf (.knot k cs)) {g : List Nat} (G : Grp k cs.length g) {a b : Nat} (ha : a ∈ g) (hb : b < cs.length) (hn : b ∉ g) {C : List Int} (hC : ∀ x, x ∈ C ↔ x ∈ lv (child cs a) ∨ x ∈ lv (child cs b)) : ovl (joined cs g) C := by
  obtain ⟨x, hx⟩ := w.ne (G.lt a ha)
  obtain ⟨z, hz⟩ := w.ne hb
  have h0 : g ≠ [] := by intro e; rw [e] at ha; exact absurd ha (by simp)
  have h2 := two_of G.sn G.two
  obtain ⟨c, hc, hca⟩ : ∃ c ∈ g, c ≠ a := by
    by_cases q : hd g = a
    · exact ⟨lst g, lst_mem h0, by omega⟩
    · exact ⟨hd g, hd_mem h0, q⟩
  obtain ⟨y, hy⟩ := w.ne (G.lt c hc)
  refine ovl_of (joined_ss w.nds G.sn G.lt) (x := x) (y := y) (z := z) (mem_joined.mpr ⟨a, ha, hx⟩) ((hC x).mpr (.inl hx)) (mem_joined.mpr ⟨c, hc, hy⟩) (fun q => ?_) ((hC z).mpr (.inr hz)) fun q => ?_
  · rcases (hC y).mp q with q | q
    · exact hca (one w (G.lt c hc) (G.lt a ha) hy q)
    · exact hn (one w (G.lt c hc) hb hy q ▸ hc)
  · obtain ⟨j, hj, hzj⟩ := mem_joined.mp q
    exact hn (one w (G.lt j hj) hb hzj hz ▸ hj)
theorem mem_pair {cs : List Tr} {a b : Nat} {x : Int} : x ∈ joined cs [a, b] ↔ x ∈ lv (child cs a) ∨ x ∈ lv (child cs b) := by
  rw [mem_joined]
  simp
theorem joined_swap (cs : List Tr) (a b : Nat) : joined cs [a, b] = joined cs [b, a] := by
  unfold joined
  refine srt_congr ?_
  simp only [List.flatMap_cons, List.flatMap_nil, List.append_nil]
  exact List.perm_append_comm
theorem pair_stretch {a : Nat} : stretch a (a + 1) = [a, a + 1] := by
  have : a + 1 + 1 - a = 2 := by omega
  unfold stretch
  rw [this]
  rfl
theorem cross1_is {k : Kd} {cs : List Tr} (w : Wf (.knot k cs)) {g : List Nat} (hg : g ∈ groups k cs.length) :
    (g = List.range cs.length ∧ cross1 k cs g = none) ∨ (g ≠ List.range cs.length ∧ ∃ C, cross1 k cs g = some C ∧ (∃ f ∈ groups k cs.length, joined cs f = C) ∧ ovl (joined cs g) C) := by
  have G := grp_of w.two hg
  have h0 : g ≠ [] := by intro e; have := G.two; rw [e] at this; simp at this
  by_cases e : g = List.range cs.length
  · refine .inl ⟨e, ?_⟩
    unfold cross1
    rw [if_pos ((others_nil G).mpr e)]
  · refine .inr ⟨e, ?_⟩
    have ho : others cs.length g ≠ [] := fun q => e ((others_nil G).mp q)
    unfold cross1
    rw [if_neg ho]
    obtain ⟨hb1, hb2⟩ := mem_others.mp (hd_mem ho)
    match k, w, hg, G with
    | .bare, w, hg, G => exact absurd (by simpa [groups] using hg) e
    | .free, w, hg, G =>
      rw [if_pos rfl]
      have ha := hd_mem h0
      refine ⟨_, rfl, ?_, pair_ovl w G ha hb1 hb2 fun x => mem_pair⟩
      rcases Nat.lt_or_gt_of_ne (fun q => hb2 (q ▸ ha) : hd g ≠ hd (others cs.length g)) with q | q
      · exact ⟨_, free_grp (List.pairwise_cons.mpr ⟨by simpa using q, List.pairwise_singleton _ _⟩) (by
          intro i hi
          have hi' : i = hd g ∨ i = hd (others cs.length g) := by simpa using hi
          rcases hi' with rfl | rfl
          · exact G.lt _ ha
          · exact hb1) (by simp), rfl⟩
      · exact ⟨_, free_grp (List.pairwise_cons.mpr ⟨by simpa using q, List.pairwise_singleton _ _⟩) (by
          intro i hi
          have hi' : i = hd (others cs.length g) ∨ i = hd g := by simpa using hi
          rcases hi' with rfl | rfl
          · exact hb1
          · exact G.lt _ ha) (by simp), joined_swap _ _ _⟩
    | .line, w, hg, G =>
      rw [if_neg (by decide)]
      by_cases q : 0 < hd g
      · rw [if_pos q]
        have ha := hd_mem h0
        have hl := G.lt _ ha
        refine ⟨_, rfl, ⟨stretch (hd g - 1) (hd g), stretch_grp (by omega) hl, ?_⟩, ?_⟩
        · have e1 : hd g = (hd g - 1) + 1 := by omega
          rw [show stretch (hd g - 1) (hd g) = [hd g - 1, hd g] from by
            have := pair_stretch (a := hd g - 1)
            rwa [← e1] at this]
        · exact pair_ovl w G ha (b := hd g - 1) (by omega) (fun h => by have := hd_le G.sn _ h; omega) fun x => by rw [mem_pair]; exact Or.comm
      · rw [if_neg q]
        have ha := lst_mem h0
        have hl := G.lt _ ha
        have hfull : lst g + 1 < cs.length := by
          have hx : ¬ hd (others cs.length g) ≤ lst g := fun h => hb2 (by
            have hm : hd (others cs.length g) ∈ filled .line cs.length g := mem_stretch.mpr ⟨by omega, h⟩
            rw [G.fill] at hm
            exact hm)
          omega
        refine ⟨_, rfl, ⟨stretch (lst g) (lst g + 1), stretch_grp (by omega) hfull, by rw [pair_stretch]⟩, ?_⟩
        exact pair_ovl w G ha (b := lst g + 1) hfull (fun h => by have := le_lst G.sn _ h; omega) fun x => mem_pair
theorem joined_all {k : Kd} {cs : List Tr} (w : Wf (.knot k cs)) : joined cs (List.range cs.length) = parts (.knot k cs) := by
  refine ss_ext (joined_ss w.nds (sn_range _) fun i hi => List.mem_range.mp hi) (srt_ss w.nd) fun x => ?_
  rw [mem_joined, mem_parts, mem_lv]
  constructor
  · rintro ⟨i, hi, h⟩
    exact ⟨i, List.mem_range.mp hi, h⟩
  · rintro ⟨i, hi, h⟩
    exact ⟨i, List.mem_range.mpr hi, h⟩
theorem cross_is : ∀ t : Tr, Wf t → ∀ L ∈ inn t, (cross t L = none ∧ L ∈ strong t) ∨ ∃ C, cross t L = some C ∧ C ∈ inn t ∧ ovl L C := Tr.ind (fun n w L hL => by
    rw [inn_leaf] at hL
    rw [List.mem_singleton.mp hL]
    exact .inl ⟨by simp [cross, least], by simp [strong, trees, parts, lv, srt, ins]⟩) fun k cs ih w L hL => by
  rcases mem_inn.mp hL with ⟨c, hc, h⟩ | ⟨g, hg, rfl⟩
  · obtain ⟨h0, hs, _⟩ := inn_lot c (w.child hc) L h
    rw [cross_in w h0 hc hs]
    rcases ih c hc (w.child hc) L h with ⟨h1, h2⟩ | ⟨C, h1, h2, h3⟩
    · obtain ⟨z, hz, e⟩ := List.mem_map.mp h2
      exact .inl ⟨h1, List.mem_map.mpr ⟨z, mem_trees.mpr (.inr ⟨c, hc, hz⟩), e⟩⟩
    · exact .inr ⟨C, h1, mem_inn.mpr (.inl ⟨c, hc, h2⟩), h3⟩
  · have G := grp_of w.two hg
    rw [cross_own (grp_no w G), met_joined w G.sn G.lt]
    rcases cross1_is w hg with ⟨rfl, h2⟩ | ⟨_, C, h2, h3, h4⟩
    · exact .inl ⟨h2, List.mem_map.mpr ⟨_, trees_self _, (joined_all w).symm⟩⟩
    · exact .inr ⟨C, h2, mem_inn.mpr (.inr h3), h4⟩
/-! ### how many strong lots -/
theorem one_of {α : Type} [DecidableEq α] {a : α} : ∀ {l : List α}, l.Nodup → a ∈ l → (l.filter fun x => decide (x = a)).length = 1
  | [], _, h => absurd h (by simp)
  | x :: l, hn, h => by
    have hn' := List.nodup_cons.mp hn
    by_cases e : x = a
    · subst e
      rw [List.filter_cons_of_pos (by simp), List.length_cons]
      have : l.filter (fun y => decide (y = x)) = [] := List.filter_eq_nil_iff.mpr fun y hy => by
        have : y ≠ x := fun e => hn'.1 (e ▸ hy)
        simpa using this
      rw [this]
      rfl
    · rw [List.filter_cons_of_neg (by simpa using e)]
      refine one_of hn'.2 ?_
      rcases List.mem_cons.mp h with q | q
      · exact absurd q.symm e
      · exact q
theorem groups_nd (k : Kd) (n : Nat) : (groups k n).Nodup := by
  match k with
  | .bare => simp [groups]
  | .line => exact (subs_nd n).filter _
  | .free => exact (subs_nd n).filter _
theorem range_grp (k : Kd) {n : Nat} (h : 2 ≤ n) : List.range n ∈ groups k n := by
  match k with
  | .bare => simp [groups]
  | .free => exact free_grp (sn_range n) (fun i hi => List.mem_range.mp hi) (by simp; omega)
  | .line =>
    have e : List.range n = stretch 0 (n - 1) := sn_ext (sn_range n) (sn_stretch _ _) fun i => by
      rw [List.mem_range, mem_stretch]
      omega
    rw [e]
    exact stretch_grp (by omega) (by omega)
def free? (t : Tr) (L : List Int) : Bool := (cross t L).isNone
theorem count_child {k : Kd} {cs : List Tr} (w : Wf (.knot k cs)) (ih : ∀ c ∈ cs, ((inn c).filter (free? c)).length = (trees c).length) : ∀ ds : List Tr, (∀ d ∈ ds, d ∈ cs) →
    (((placess ds).map (·.1)).filter (free? (.knot k cs))).length = (treess ds).length
  | [], _ => by simp [placess, treess]
  | d :: ds, h => by
    have hd := h d List.mem_cons_self
    have e1 := count_child w ih ds fun e he => h e (List.mem_cons_of_mem _ he)
    have e2 : ((places d).map (·.1)).filter (free? (.knot k cs)) = (inn d).filter (free? d) := List.filter_congr fun L hL => by
      obtain ⟨h0, hs, _⟩ := inn_lot d (w.child hd) L hL
      unfold free?
      rw [cross_in w h0 hd hs]
    rw [placess, treess, List.map_append, List.filter_append, List.length_append, List.length_append, e1, e2, ih d hd]
theorem count_is : ∀ t : Tr, Wf t → ((inn t).filter (free? t)).length = (trees t).length := Tr.ind (fun n w => by
    have e : free? (.leaf n) [n] = true := by simp [free?, cross, least]
    rw [inn_leaf, List.filter_cons_of_pos e]
    simp [trees]) fun k cs ih w => by
  have e1 := count_child w (fun c hc => ih c hc (w.child hc)) cs fun d hd => hd
  have e2 : ((groups k cs.length).map fun g => joined cs g).filter (free? (.knot k cs)) = ((groups k cs.length).filter fun g => decide (g = List.range cs.length)).map fun g => joined cs g := by
    rw [List.filter_map]
    congr 1
    refine List.filter_congr fun g hg => ?_
    have G := grp_of w.two hg
    show free? _ (joined cs g) = _
    unfold free?
    rw [cross_own (grp_no w G), met_joined w G.sn G.lt]
    rcases cross1_is w hg with ⟨h1, h2⟩ | ⟨h1, C, h2, _⟩
    · rw [h2, decide_eq_true h1]; rfl
    · rw [h2, decide_eq_false h1]; rfl
  have e3 : inn (.knot k cs) = (placess cs).map (·.1) ++ (groups k cs.length).map fun g => joined cs g := by
    unfold inn
    rw [places, List.map_append, List.map_map]
    rfl
  rw [e3, List.filter_append, List.length_append, e1, e2, List.length_map, one_of (groups_nd _ _) (range_grp _ w.two), trees]
  rfl
end K24
namespace K24
open PySem PySem.Spec PyProof.Rows L2
open AutoSeq1 (wpAny_loadPart')
set_option maxHeartbeats 1000000 in
theorem ext_tup (l b : Addr) (us ws : Array Value) (n m : Nat) (dd : Option Addr) (sl : Array (Option Value)) (h0 : Builtin.List.listTooLong (us.size + ws.size) = false) (h1 : us.size ≤ sizeLine) (h2 : us.size + ws.size ≤ sizeLine + 1) :
    Meets (Builtin.«list.extend» ⟨[.ref l, .ref b], []⟩) (fun _ R s => s.heap.get? l = some { cls := .type "list", dict := none, data := .seq us n, slots := #[] } ∧
      s.heap.get? b = some { cls := .type "tuple", dict := dd, data := .seq ws m, slots := sl } ∧
      R (.ok (.ret Value.none)) { s with heap := s.heap.update l (Obj.mapSeq fun x => x ++ ws), toks := s.toks }) :=
  .of_wp fun prog w A R s h => by
    obtain ⟨hp, g, d, tk, os⟩ := s
    obtain ⟨hl, hb, h⟩ := h
    have f1 := AutoSeq1.sub_tuple_tuple
    have f2 := AutoSeq1.sub_list_list
    have f3 := AutoSeq1.sub_tuple_list
    have f4 := AutoSeq1.sub_list_tuple
    have z : (us ++ ws).size ≤ sizeLine + 1 := by
      rw [Array.size_append]
      exact h2
    have q : ¬ (!us.isEmpty && Builtin.List.listTooLong (us.size + ws.size)) = true := by
      rw [h0, Bool.and_false]
      exact Bool.false_ne_true
    wp_walk using (wpAny_updateSeq hl rfl (hz := h1) (_hz' := z)), wpAny_loadPart' hl, wpAny_loadPart' hb
    exact ⟨_, rfl, h⟩
section
variable {X : Cx}
/-- l.extend(t) for a tuple t -/
def rExtT (K : PySem.W.Frag) : V → List V → Hp → VK → Prop := fun x vs H Q => ∃ l b xs zs, x = .ref l ∧ vs = [.ref b] ∧ H l = some (.lst xs) ∧ SqT K H b zs ∧ xs.length + zs.length ≤ sizeLine ∧ Q .non (upd H l (.lst (xs ++ zs)))
theorem mt_extT : MtM X "list.extend" (rExtT X.K) := by
  intro pins s σ H x vs v us Q I rx rv h
  obtain ⟨l, b, xs, zs, rfl, rfl, hH, hB, hz, q⟩ := h
  cases rx
  obtain ⟨u, rfl, ru⟩ := rv.one
  cases ru
  obtain ⟨z, its, n, r, hl, e⟩ := I.lstM hH
  obtain ⟨ws, r2, ⟨⟨c, dd, dt, sl⟩, e2, hc, m, hd⟩, z2⟩ := I.tuple hB
  simp only at hc hd
  subst hc hd
  have l2 := r2.length
  have hsz : its.toArray.size + ws.toArray.size ≤ sizeLine := by
    rw [List.size_toArray, List.size_toArray]
    omega
  refine call_meets F.slot_list_extend ⟨_, e, rfl⟩ F.entry_list_extend (F.args_list_extend_2 _ _)
    (ext_tup l b its.toArray ws.toArray n m dd sl (notLongL hsz) (by rw [List.size_toArray]; omega) (by omega)) ⟨e, e2, ?_⟩
  refine ⟨.non, _, I.lset (its' := its ++ ws) hH e (by simp) (r.append r2) ?_, rfl, q⟩
  rw [List.length_append]
  omega
end
end K24
/-! enumerate(t) for a tuple t, as what a for walks -/
namespace K24
open PySem PySem.Spec PyProof.Rows L2
open AutoSeq1 (wpAny_loadPart')
set_option maxHeartbeats 1000000 in
theorem enum_newT (t : Addr) (us : Array Value) (n : Nat) (dd : Option Addr) (sl : Array (Option Value)) :
    Meets (Builtin.«enumerate.__new__» ⟨[.type "enumerate", .ref t], []⟩) (fun _ R s => s.heap.get? t = some { cls := .type "tuple", dict := dd, data := .seq us n, slots := sl } ∧
      R (.ok (.ret (.ref (s.heap.push { cls := .type "tuple_iterator", data := .fields #[.ref t, .int 0 0] }).objs.size)))
        { s with heap := (s.heap.push { cls := .type "tuple_iterator", data := .fields #[.ref t, .int 0 0] }).push { cls := .type "enumerate", data := .fields #[.none, .bool false, .ref s.heap.objs.size, rawInt 0, .none, .none] } }) :=
  .of_wp fun prog w A R s h => by
    obtain ⟨hp, g, d, tk, os⟩ := s
    obtain ⟨ht, h⟩ := h
    have f1 := sub_enumerate
    have hT : Heap.IsTuple (Shared.heap ⟨hp, g, d, tk, os⟩) t us := ⟨_, ht, rfl, n, rfl⟩
    wp_walk using wpAny_loadPart' ht
    refine wpAny_stack_any fun st => wpAny_pure ?_
    split
    · rename_i c _ _ _ _ _
      cases (c == Value.type "enumerate") <;> (wp_walk using wpAny_loadPart' ht, wpAny_pyIter_tuple hT) <;> exact ⟨_, rfl, h⟩
    · wp_walk using wpAny_loadPart' ht, wpAny_pyIter_tuple hT
      exact ⟨_, rfl, h⟩
section
variable {prog : Program} {w : World} {A : Around} {E : Value → Shared → Prop} {s : Shared}
theorem call_enumT {t : Addr} {us : Array Value} {Q : Value → Shared → Prop} (hT : IsTup s.heap t us)
    (h : ∀ h', IsEnum h' (s.heap.objs.size + 1) s.heap.objs.size 0 .none → h'.IsTupleIter s.heap.objs.size t 0 → (∀ b o, s.heap.get? b = some o → h'.get? b = some o) → Q (.ref (s.heap.objs.size + 1)) { s with heap := h' }) :
    wpAny (model prog w) A (call (.type "enumerate") [.ref t]) Q E s := by
  obtain ⟨⟨c, dd, dt, sl⟩, ht, hc, n, hd⟩ := hT
  simp only at hc hd
  subst hc hd
  have z : (s.heap.push { cls := .type "tuple_iterator", data := .fields #[.ref t, .int 0 0] }).objs.size = s.heap.objs.size + 1 := Heap.size_push ..
  refine callType_new F.called_enumerate (by decide) (F.typeCall_enumerate_1 _) (F.newCall_enumerate_1 _) (fun obj => F.args_object_init_2 obj _) F.entry_enumerate_new (enum_newT t us n dd sl) ⟨ht, ?_⟩
  show _ ∧ _
  rw [z]
  have e1 : IsEnum ((s.heap.push { cls := .type "tuple_iterator", data := .fields #[.ref t, .int 0 0] }).push
      { cls := .type "enumerate", data := .fields #[.none, .bool false, .ref s.heap.objs.size, rawInt 0, .none, .none] }) (s.heap.objs.size + 1) s.heap.objs.size 0 .none := by
    have q := Heap.get?_push_size (s.heap.push { cls := .type "tuple_iterator", data := .fields #[.ref t, .int 0 0] })
      (o := { cls := .type "enumerate", data := .fields #[.none, .bool false, .ref s.heap.objs.size, rawInt 0, .none, .none] }) rfl
    rw [z] at q
    exact q
  exact ⟨⟨_, e1, rfl⟩, h _ e1 ⟨_, Heap.get?_push_of_some _ (Heap.get?_push_size _ rfl), rfl, rfl⟩ fun b o q => Heap.get?_push_of_some _ (Heap.get?_push_of_some _ q)⟩
end
/-- the tuple at a, each item in a new pair -/
def IteT (K : PySem.W.Frag) (a : Addr) : It :=
  ⟨fun i H => ∃ (xs : List V) (x : V), SqT K H a xs ∧ xs[i]? = some x,
    fun i H v H' => ∃ T x, v = .ref T ∧ H T = none ∧ H' = upd H T (.tup [.int (i : Nat), x]) ∧ ∀ xs, SqT K H a xs → xs[i]? = some x,
    fun i H => ∃ xs : List V, SqT K H a xs ∧ xs.length = i⟩
theorem turn_enumT {P : Program} {w : World} {K : PySem.W.Frag} {elts : List Expr} {kk : Nat} {tpos : Pos} (a e it : Addr) :
    Turn P w K (.Tuple elts kk tpos) (IteT K a) [e, it] e (fun i h => (∃ old, IsEnum h e it ((i : Nat) : Int) old) ∧ h.IsTupleIter it a i ∧ e ≠ it ∧ a ≠ it ∧ e ≠ a) where
  mem := by simp
  obj := fun i h st b hb => by
    obtain ⟨⟨old, he⟩, ⟨o, ho, hc, hd⟩, _⟩ := st
    have q : b = e ∨ b = it := by simpa using hb
    rcases q with rfl | rfl
    · exact ⟨_, he, fun v z => nomatch z⟩
    · exact ⟨o, ho, fun v z => by rw [hd] at z; cases z⟩
  keep := fun i h h' st k => by
    obtain ⟨⟨old, he⟩, hi, hne⟩ := st
    exact ⟨⟨old, k e (by simp) _ he⟩, hi.at fun o q => k it (by simp) o q, hne⟩
  item := by
    intro X hP hw hK hc i pins s σ H E I hf st hg
    subst hP hw hK
    obtain ⟨⟨old, he⟩, hit, hne, hat, hea⟩ := st
    obtain ⟨xs, x, hq, hx⟩ := hg
    obtain ⟨its, rv, p, hz⟩ := I.tuple hq
    obtain ⟨u, hu, ru⟩ := rv.get hx
    have hel : e < s.heap.objs.size := Heap.lt_size he
    have hil : it < s.heap.objs.size := by
      obtain ⟨_, q, _⟩ := hit
      exact Heap.lt_size q
    have hlt : i < its.toArray.size := by
      have := (List.getElem?_eq_some_iff.mp hu).1
      simpa using this
    have D : Draws X.prog X.w X.A.in1 it [it, a] its.toArray.size (fun i v => its.toArray[i]? = some v) (fun i h => h.IsTupleIter it a i ∧ h.IsTuple a its.toArray) :=
      Draws.tuple (show X.A.in1.handled = none from I.ok.hd hc) it a hat its.toArray
    refine wpAny_pyNext_enum_itemC D he ⟨hit, p⟩ hlt hne (by simp; exact ⟨hne, hea⟩) fun x' h' tk hP ho hst hT hsz hk => ?_
    have ex : x' = u := by
      have h1 : its.toArray[i]? = some x' := hP
      have h2 : its.toArray[i]? = some u := by simpa using hu
      rw [h1] at h2
      exact Option.some.inj h2
    subst ex
    refine ⟨_, rfl, wpAny_letOwnedTupleGo_enum (s := { s with heap := h', toks := tk + 1 }) ho fun h'' he' sb => ?_⟩
    have hT2 : h''.get? s.heap.objs.size = some { cls := .type "tuple", data := .seq #[.int i tk, x'] } := (sb.2 _ (Nat.ne_of_gt hel)).trans hT
    have new : ObjOk X.prog X.w (upd H s.heap.objs.size (.tup [.int (i : Nat), x])) h'' s.heap.objs.size (.tup [.int (i : Nat), x]) :=
      ⟨by show 2 ≤ sizeLine; decide, [.int i tk, x'], .cons ⟨_, rfl⟩ (.cons ru .nil), ⟨_, hT2, rfl, _, rfl⟩⟩
    have I1 : Inv X pins σ (upd H s.heap.objs.size (.tup [.int (i : Nat), x])) { s with heap := h'', toks := tk + 1 } := by
      refine I.turnedNew (ch := [e, it]) (fun b ob hb q => ?_) hf (Nat.le_refl _) new
      have n1 : b ≠ e := fun z => hb (by simp [z])
      have n2 : b ≠ it := fun z => hb (by simp [z])
      exact (sb.2 b n1).trans (hk b ob n1 n2 q)
    refine ⟨.ref s.heap.objs.size, _, I1, rfl, ⟨_, x, rfl, I.hok.fresh (Nat.le_refl _), rfl, fun ys hy => by rw [I.tuple_inj hy hq]; exact hx⟩, ⟨⟨x', ?_⟩, hst.1.at fun o q => (sb.2 it (Ne.symm hne)).trans q, hne, hat, hea⟩, fun b hb => ?_⟩
    · have e1 : ((i + 1 : Nat) : Int) = (i : Int) + 1 := by omega
      rw [e1]
      exact he'
    · have hb' : b < s.heap.objs.size := by
        have q : b = e ∨ b = it := by simpa using hb
        rcases q with rfl | rfl
        · exact hel
        · exact hil
      rw [upd_ne (Nat.ne_of_lt hb')]
      exact (hf b hb).1
  done := by
    intro X hP hw hK hc i pins s σ H E I hf st hg
    subst hP hw hK
    obtain ⟨⟨old, he⟩, hit, hne, hat, hea⟩ := st
    obtain ⟨xs, hq, hx⟩ := hg
    obtain ⟨its, rv, p, hz⟩ := I.tuple hq
    obtain ⟨f0, f1, f2, f3, f4, f5⟩ := hf it (by simp)
    have hl := rv.length
    have D : Draws X.prog X.w X.A.in1 it [it, a] its.toArray.size (fun i v => its.toArray[i]? = some v) (fun i h => h.IsTupleIter it a i ∧ h.IsTuple a its.toArray) :=
      Draws.tuple (show X.A.in1.handled = none from I.ok.hd hc) it a hat its.toArray
    have hi : i = its.toArray.size := by
      rw [List.size_toArray]
      omega
    subst hi
    exact wpAny_pyNext_enum_endD D he ⟨hit, p⟩ fun h' eb => ⟨rfl, I.turned (t' := s.toks) (fun b o hb q => eb b o hb q) f0 f1 f3 f4 f5⟩
  self := fun A i s Q E st h => by
    obtain ⟨⟨_, he⟩, _⟩ := st
    exact wpAny_pyIter_enum he h
def iEnumT (K : PySem.W.Frag) (ta : TA) : TI := fun σ H R => ta σ H fun vs H1 => ∃ a xs, vs = [.ref a] ∧ SqT K H1 a xs ∧ R (IteT K a) H1
theorem pi_enumT {X : Cx} {e : Expr} {ta : TA} {p pos tpos : Pos} {elts : List Expr} {kk : Nat} (hg : Gl X "enumerate") (hm : X.mg "enumerate" = none) (ha : PA X [e] ta) (hs : starEach [e] X.env = [(false, eval e X.env)] := by rfl) :
    PI X (.Tuple elts kk tpos) (.Call (.Name "enumerate" p) [e] [] pos) (iEnumT X.K ta) := by
  refine ⟨fun pins s σ H R I h => ?_⟩
  refine Call_ (ld_blt I hg hm boot_enumerate (PyProof.Rows.callWith_type1 (thn (ha.run pos pins s σ H _ I h) fun us s1 ⟨vs, H1, I1, r1, q1⟩ => ?_) hs rfl))
  obtain ⟨a, xs, rfl, hq, q⟩ := q1
  obtain ⟨u, rfl, ru⟩ := r1.one
  cases ru
  obtain ⟨its, rv, p', hz⟩ := I1.tuple hq
  have hal : a < s1.heap.objs.size := by
    obtain ⟨o, ho, _⟩ := id p'
    exact Heap.lt_size ho
  refine call_enumT p' fun h' he hit hk => wpAny_pyIter_enum he ?_
  have I2 : Inv X pins σ H1 { s1 with heap := h' } := I1.kept (t' := s1.toks) hk
  refine ⟨s1.heap.objs.size + 1, [s1.heap.objs.size + 1, s1.heap.objs.size], _, _, H1, rfl, I2, turn_enumT a (s1.heap.objs.size + 1) s1.heap.objs.size, ⟨⟨.none, he⟩, hit, Nat.succ_ne_self _, Nat.ne_of_lt hal, ?_⟩, fun b hb => ?_, q⟩
  · exact Nat.ne_of_gt (Nat.lt_succ_of_lt hal)
  · have hle : s1.heap.objs.size ≤ b := by
      have z : b = s1.heap.objs.size + 1 ∨ b = s1.heap.objs.size := by simpa using hb
      rcases z with rfl | rfl
      · exact Nat.le_succ _
      · exact Nat.le_refl _
    exact I1.fpOk hle (I1.hok.fresh hle)
theorem walk_enumT {K : PySem.W.Frag} {a : Addr} {xs : List V} : Walk (IteT K a) xs.length (fun H => SqT K H a xs) (YPair (fun i => some (.int (i : Nat))) (fun i => xs[i]?)) := by
  refine ⟨fun i _ hi q => ⟨xs, xs[i], q, by simp [hi]⟩, fun _ q => ⟨xs, q, rfl⟩, fun i H v H' _ q y => ?_⟩
  obtain ⟨T, x, h1, h2, h3, h4⟩ := y
  exact ⟨T, .int (i : Nat), x, h1, h2, h3, rfl, h4 xs q⟩
end K24
/-! sorted(l) for a list of tuples of ints of any lengths -/
namespace K24
open PySem PySem.Spec PyProof.Rows L2
/-- the value is a tuple of these ints -/
def IsTI (h : Heap) (v : Value) (ns : List Int) : Prop := ∃ t its, v = .ref t ∧ IsTup h t its ∧ IntsAre its.toList ns
section
variable {prog : Program} {w : World} {A : Around} {E : Value → Shared → Prop} {s : Shared}
theorem lex_go {fin : Bool} {Q : Bool → Shared → Prop} : ∀ (xs ys : List Int) (i : Nat) (vs ws : List Value), IntsAre vs xs → IntsAre ws ys → fin = decide (xs.length < ys.length) → Q (HT.lexLt xs ys) s →
    PySem.W.KatLex prog w A true fin Q (vs.zip ws) i s
  | [], [], i, _, _, .nil, .nil, hf, h => by
    subst hf
    exact PySem.W.kat_nil h
  | [], y :: ys, i, _, _, .nil, .cons _ _ _, hf, h => by
    subst hf
    refine PySem.W.kat_nil (?_ : Q _ s)
    have e : decide (([] : List Int).length < (y :: ys).length) = true := decide_eq_true (Nat.succ_pos _)
    rw [e]
    exact h
  | x :: xs, [], i, _, _, .cons _ _ _, .nil, hf, h => by
    subst hf
    refine PySem.W.kat_nil (?_ : Q _ s)
    have e : decide ((x :: xs).length < ([] : List Int).length) = false := decide_eq_false (Nat.not_lt_zero _)
    rw [e]
    exact h
  | x :: xs, y :: ys, i, _, _, .cons _ t ha, .cons _ u hb, hf, h => by
    rw [HT.lexLt_cons] at h
    refine PySem.W.kat_cons (SeqAt.EqAt.int_int x t y u prog w _ _ ?_)
    refine PySem.W.kat_go (fun e => ?_) (fun e => ?_)
    · have q : x = y := by simpa using e
      rw [if_pos q] at h
      exact PySem.W.kat_yes (lex_go xs ys (i + 1) _ _ ha hb (by rw [hf]; simp) h)
    · have q : ¬ x = y := by simpa using e
      rw [if_neg q] at h
      exact PySem.W.kat_no (oneLt_any_int h)
theorem lt_tups {v u : Value} {ns ms : List Int} {Q : Bool → Shared → Prop} (hv : IsTI s.heap v ns) (hu : IsTI s.heap u ms) (h : Q (HT.lexLt ns ms) s) : wpAny (model prog w) A (keyLt' (tuples' true) v u) Q E s := by
  obtain ⟨a, xs, rfl, ⟨o, ho, hc, n, hd⟩, ia⟩ := hv
  obtain ⟨b, ys, rfl, ⟨o', ho', hc', n', hd'⟩, ib⟩ := hu
  refine PySem.W.kat_lt ho hd ho' hd' (lex_go ns ms 0 _ _ ia ib ?_ h)
  have l1 := ia.length
  have l2 := ib.length
  rw [Array.length_toList] at l1 l2
  rw [l1, l2]
theorem lt_one {v u : Value} {ns ms : List Int} {Q : Bool → Shared → Prop} (hr : A.units < cLine) (hv : IsTI s.heap v ns) (hu : IsTI s.heap u ms) (h : Q (HT.lexLt ns ms) s) : wpAny (model prog w) A (keyLt' oneType' v u) Q E s := by
  obtain ⟨a, xs, rfl, ⟨⟨c, dd, dt, sl⟩, ho, hc, n, hd⟩, ia⟩ := hv
  obtain ⟨b, ys, rfl, ⟨⟨c', dd', dt', sl'⟩, ho', hc', n', hd'⟩, ib⟩ := hu
  simp only at hc hd hc' hd'
  subst hc hd hc' hd'
  rw [keyLt'_oneType, oneLt'_eq]
  simp only [if_true]
  refine wpAny_bind (wpAny_cRoomFor hr ?_)
  refine wpAny_bind (wpAny_callSpecialIfBound?_slot (T := "tuple") ⟨_, ho, rfl⟩ F.slot_tuple_lt (call_meets F.slot_tuple_lt ⟨_, ho, rfl⟩ F.entry_tuple_lt (F.args_tuple_lt_2 _ _)
    (HT.tuple_lt_ints a b xs ys n n' dd dd' sl sl' ns ms ia ib) ⟨ho, ho', ?_⟩))
  exact wpAny_truthy_bool h
theorem paired_left {α β : Type} {F : α → β → Prop} : ∀ {l : List α} {m : List β}, Paired F l m → ∀ a ∈ l, ∃ b, F a b
  | _, _, .nil, a, h => absurd h (by simp)
  | _, _, .cons (b := b) h t, a, ha => by
    rcases List.mem_cons.mp ha with e | e
    · exact ⟨b, e ▸ h⟩
    · exact paired_left t a e
/-- the first items of tuples -/
theorem firsts {M : Model} : ∀ (vs : List Value) (nss : List (List Int)) {Q : List (Option Value) → Shared → Prop}, Paired (IsTI s.heap) vs nss →
    (∀ fs : List (Option Value), fs.length = nss.length → (∀ i : Nat, (fs[i]?.bind id).isSome = (nss[i]?.bind List.head?).isSome) → Q fs s) → wpAny M A (vs.mapM firstOfTuple') Q E s
  | [], [], Q, .nil, h => by
    rw [List.mapM_nil]
    exact wpAny_pure (h [] rfl fun i => rfl)
  | v :: vs, ns :: nss, Q, .cons hv t, h => by
    obtain ⟨a, xs, rfl, ⟨o, ho, hc, n, hd⟩, ia⟩ := hv
    rw [List.mapM_cons]
    refine wpAny_bind ?_
    rw [PySem.W.kas_first_eq]
    refine wpAny_bind (PySem.W.Looks.here (show PySem.W.Looks M s.heap (typeOf (.ref a)) o.cls from (PySem.W.Looks.ld ho).andThen .now) ?_)
    rw [hc, if_neg (by first | decide | simp)]
    refine wpAny_bind (listItems_at ho hd (wpAny_pure ?_))
    refine wpAny_bind (firsts vs nss t fun fs hl hh => wpAny_pure (h _ (by simp [hl]) fun i => ?_))
    match i with
    | 0 =>
      have : xs[0]?.isSome = ns.head?.isSome := by
        rw [← Array.getElem?_toList]
        generalize xs.toList = l at ia
        cases ia with
        | nil => rfl
        | cons k u r => rfl
      simpa using this
    | i + 1 => simpa using hh i
theorem kind_one {M : Model} {v : Value} {vs : List Value} {nss : List (List Int)} {Q : SortKind → Shared → Prop} (hp : Paired (IsTI s.heap) (v :: vs) ([] :: nss)) (h : Q oneType' s) : wpAny M A (keyKind' (v :: vs).toArray) Q E s := by
  rw [keyKind'_eq, List.mapM_toArray, map_eq_pure_bind]
  refine wpAny_bind (wpAny_bind (firsts _ _ hp fun fs hl hh => wpAny_pure ?_))
  have h0 := hh 0
  match fs, hl with
  | f :: fs, _ =>
    have e0 : f = none := by
      cases f with
      | none => rfl
      | some y => simp at h0
    subst e0
    rw [if_neg (by simp), if_neg (by simp)]
    rw [oneTypeOnly'_eq, List.mapM_toArray, map_eq_pure_bind]
    refine wpAny_bind (wpAny_bind (wpAny_bind (PySem.W.kas_mapM (r := Value.type "tuple") _ (fun u hu Q' hq => ?_) (wpAny_pure ?_))))
    · obtain ⟨ns, t, its, rfl, ⟨o, ho, hc, _⟩, _⟩ := paired_left hp u hu
      have q := PySem.W.Looks.here (M := M) (A := A) (E := E) (Q := Q') (show PySem.W.Looks M s.heap (typeOf (.ref t)) o.cls from (PySem.W.Looks.ld ho).andThen .now)
      rw [hc] at q
      exact q hq
    · have ha : ((List.map (fun _ => Value.type "tuple") (v :: vs)).toArray.all fun x => x == Value.type "tuple") = true := by
        simp only [List.all_toArray, List.all_map, List.all_eq_true]
        intro _ _
        rfl
      have hz : (List.map (fun _ => Value.type "tuple") (v :: vs)).toArray[0]? = some (Value.type "tuple") := by simp
      rw [hz]
      simp only [ha, if_true]
      exact wpAny_pure (wpAny_pure h)
/-- two tuples, or a list whose first one is empty, or all with items -/
theorem ti_keeps {h h' : Heap} {v : Value} {ns : List Int} (hv : IsTI h v ns) (k : ∀ b o, h.get? b = some o → o.cls = .type "tuple" → h'.get? b = some o) : IsTI h' v ns := by
  obtain ⟨t, its, e, ⟨o, ho, hc, d⟩, i⟩ := hv
  exact ⟨t, its, e, ⟨o, k t o ho hc, hc, d⟩, i⟩
theorem paired_map {α β : Type} {F : α → β → Prop} (f : α → β) : ∀ {l : List α}, (∀ a ∈ l, F a (f a)) → Paired F l (l.map f)
  | [], _ => .nil
  | a :: l, h => .cons (h a List.mem_cons_self) (paired_map f fun b hb => h b (List.mem_cons_of_mem _ hb))
theorem katTups_of {h : Heap} : ∀ {vs : List Value} {k : Value → List Int}, (∀ v ∈ vs, IsTI h v (k v)) → (∀ v ∈ vs, k v ≠ []) → ∃ fs, PySem.W.KatTups h vs fs ∧ fs.length = vs.length ∧ ∀ f ∈ fs, ∃ n t, f = Value.int n t
  | [], _, _, _ => ⟨[], PySem.W.KatTups.nil, rfl, fun f hf => absurd hf (by simp)⟩
  | v :: vs, k, hv, hn => by
    obtain ⟨fs, h1, h2, h3⟩ := katTups_of (vs := vs) (k := k) (fun u hu => hv u (List.mem_cons_of_mem _ hu)) fun u hu => hn u (List.mem_cons_of_mem _ hu)
    have n0 := hn v List.mem_cons_self
    obtain ⟨t, its, e, ⟨o, ho, hc, n, hd⟩, i⟩ := hv v List.mem_cons_self
    subst e
    have : ∃ f, its[0]? = some f ∧ ∃ n t, f = Value.int n t := by
      rw [← Array.getElem?_toList]
      generalize its.toList = l at i
      generalize k (Value.ref t) = ns at i n0
      cases i with
      | nil => exact absurd rfl n0
      | cons m u r => exact ⟨_, rfl, m, u, rfl⟩
    obtain ⟨f, hf, hi⟩ := this
    refine ⟨f :: fs, PySem.W.KatTups.cons ho hc hd hf h1, by simp [h2], fun g hg => ?_⟩
    rcases List.mem_cons.mp hg with rfl | hg
    · exact hi
    · exact h3 g hg
theorem ti_sortable {a : Addr} {vs : List Value} {k : Value → List Int} (h2 : 2 ≤ vs.length) (hr : A.units < cLine) (hv : ∀ v ∈ vs, IsTI s.heap v (k v)) (hk : (∀ v ∈ vs, k v ≠ []) ∨ ∃ v r, vs = v :: r ∧ k v = [])
    (ha : ∀ o, s.heap.get? a = some o → o.cls ≠ .type "tuple") : SrtO.SortableO prog w A s a vs fun v u => HT.lexLt (k v) (k u) := by
  intro h' keep
  have hv' : ∀ v ∈ vs, IsTI h' v (k v) := fun v hm => ti_keeps (hv v hm) fun b o e c => keep b o (fun z => by subst z; exact ha o e c) e
  rcases hk with hk | ⟨v, r, e, hk⟩
  · obtain ⟨fs, h3, h4, h5⟩ := katTups_of hv' hk
    refine ⟨tuples' true, fun Q E hq => ?_, fun p q hp hq => lt_tups (s := { s with heap := h' }) (Q := fun r s' => s' = { s with heap := h' } ∧ r = HT.lexLt (k p.1) (k q.1)) (hv' _ hp) (hv' _ hq) ⟨rfl, rfl⟩⟩
    refine PySem.W.kat_kind (T := .type "int") h3 (by omega) (fun f hm => ?_) (by rfl) ?_
    · obtain ⟨n, t, rfl⟩ := h5 f hm
      exact PySem.W.Looks.now
    · have z : (Value.type "int" != Value.type "tuple") = true := by first | decide +kernel | rfl | decide
      rw [z]
      exact hq
  · subst e
    refine ⟨oneType', fun Q E hq => ?_, fun p q hp hq => lt_one (s := { s with heap := h' }) (Q := fun r s' => s' = { s with heap := h' } ∧ r = HT.lexLt (k p.1) (k q.1)) hr (hv' _ hp) (hv' _ hq) ⟨rfl, rfl⟩⟩
    have q := paired_map k hv'
    rw [List.map_cons, hk] at q
    exact kind_one (s := { s with heap := h' }) q hq
end
/-- sorted(xs), xs a list of tuples of ints (k says which), all with items or the first without -/
def rSortTI (K : PySem.W.Frag) : List V → Hp → VK → Prop := fun vs H Q => ∃ (a : Addr) (xs : List V) (k : V → List Int), vs = [V.ref a] ∧ SqL K H a xs ∧ (∀ x ∈ xs, ∃ t, x = V.ref t ∧ SqT K H t ((k x).map V.int)) ∧
  ((∀ x ∈ xs, k x ≠ []) ∨ ∃ x r, xs = x :: r ∧ k x = []) ∧ ∀ ys p, ys.Perm xs → ys.Pairwise (fun x y => HT.lexLt (k y) (k x) = false) → H p = none → Q (.ref p) (upd H p (.lst ys))
theorem cr_sortTI {X : Cx} (hr : X.A.in1.in1.units < cLine) : CallR X (.builtin "sorted") (rSortTI X.K) := by
  intro pins s σ H vs us Q I r h
  obtain ⟨a, xs, k, rfl, hs, hx, hn, q⟩ := h
  obtain ⟨its, rv, hl, hz⟩ := I.list hs
  obtain ⟨u, rfl, ru⟩ := vals1 r
  obtain rfl : u = Value.ref a := ru
  obtain ⟨e1, e2⟩ := refs_back rv fun x m => by
    obtain ⟨t, e, _⟩ := hx x m
    exact ⟨t, e⟩
  have hti : ∀ v ∈ its, IsTI s.heap v (k (backV v)) := fun v hv => by
    obtain ⟨t, rfl⟩ := e2 v hv
    have hm : V.ref t ∈ xs := by
      rw [e1]
      exact List.mem_map.mpr ⟨_, hv, rfl⟩
    obtain ⟨t', e, ht⟩ := hx _ hm
    cases e
    obtain ⟨ws, r2, p, _⟩ := I.tuple ht
    exact ⟨t, ws.toArray, rfl, p, by have z := L2.intsAre_of r2; show IntsAre ws.toArray.toList (k (V.ref t)); simpa using z⟩
  have hne : (∀ v ∈ its, k (backV v) ≠ []) ∨ ∃ v r, its = v :: r ∧ k (backV v) = [] := by
    rcases hn with hn | ⟨x, r, e, hk⟩
    · exact .inl fun v hv => hn _ (by rw [e1]; exact List.mem_map.mpr ⟨_, hv, rfl⟩)
    · cases its with
      | nil => rw [e1] at e; simp at e
      | cons v r2 =>
        rw [e1, List.map_cons] at e
        have e3 := (List.cons.inj e).1
        exact .inr ⟨v, r2, rfl, by rw [e3]; exact hk⟩
  refine SrtO.sorted_ord (NtL.swo_lexL fun v => k (backV v)) hl.isList (by rw [← rv.length]; exact hz) (fun h2 h₁ a' ha kk => ?_) fun out hso hst => ?_
  · refine ti_sortable (s := { s with heap := h₁ }) h2 hr (fun v hv => ti_keeps (hti v hv) fun b o e _ => (kk b o e).2) hne fun o e => ?_
    have e' : some o = some (seqObj "list" its.toArray 0) := e.symm.trans ha
    cases e'
    intro c
    exact absurd (Value.type.inj c) (by decide)
  · have h3 : ∀ u ∈ out, ∃ a, u = Value.ref a := fun u hu => e2 u (hst.perm.mem_iff.mp hu)
    obtain ⟨n, hn'⟩ := PyProof.Rows.sortedAll_at s.heap its out.toArray
    have hb : (out.map backV).Perm xs := by
      rw [e1]
      exact hst.perm.map _
    refine ⟨.ref _, upd H (s.heap.objs.size + 1) (.lst (out.map backV)), I.laid (t' := s.toks) (fun _ _ e => PyProof.Rows.sortedAll_old e) (Nat.le_succ _) ⟨?_, out, n, vals_back h3, hn'⟩, rfl, q _ _ hb ?_ (I.hok.fresh (Nat.le_succ _))⟩
    · rw [hb.length_eq]
      exact hz
    · rw [List.pairwise_map]
      exact hso
end K24
/-! sorted(l, key=len) -/
namespace K24
open PySem PySem.Spec PyProof.Rows L2
theorem each_vals : ∀ {xs : List V} {us : List Value}, Vals xs us → PySem.W.EachIs (fun (v : Value) (x : V) => RelV x v) us xs
  | _, _, .nil => .nil
  | _, _, .cons r t => .cons r (each_vals t)
theorem vals_each : ∀ {us : List Value} {xs : List V}, PySem.W.EachIs (fun (v : Value) (x : V) => RelV x v) us xs → Vals xs us
  | _, _, .nil => .nil
  | _, _, .cons r t => .cons r (vals_each t)
/-- sorted(xs, key=len): some arrangement by the lengths k -/
def tSortLen (K : PySem.W.Frag) (t : TA) : TE := fun σ H Q => t σ H fun vs H1 => ∃ (a : Addr) (xs : List V) (k : V → Nat), vs = [V.ref a] ∧ SqL K H1 a xs ∧ (∀ x ∈ xs, ∃ b ns, x = V.ref b ∧ SqT K H1 b ns ∧ ns.length = k x) ∧
  ∀ ys p, ys.Perm xs → ys.Pairwise (fun x y => k x ≤ k y) → H1 p = none → Q (.ref p) (upd H1 p (.lst ys))
theorem key_fields (a : Addr) : Builtin.«list.sort» ⟨[.ref a], [(Str.ofString "key", .builtin "len")]⟩ = ksk_tree a (.builtin "len") false := ksk_t4 "len" a
theorem pe_sortLen {X : Cx} {e : Expr} {t : TA} {p lp kpos pos : Pos} (hg : Gl X "sorted") (hm : X.mg "sorted" = none) (hgl : Gl X "len") (hml : X.mg "len" = none) (hr : X.A.units + 66 < cLine) (ha : PA X [e] t)
    (he : backTo pos (starEach [e] X.env) = (false, eval e X.env) :: backTo pos (starEach [] X.env) := by rfl) (hpl : (backTo pos (starEach [e] X.env)).any (·.1) = false := by rfl) :
    PE X (.Call (.Name "sorted" p) [e] [⟨some "key", .Name "len" lp, kpos⟩] pos) (tSortLen X.K t) := by
  refine ⟨fun pins s σ H Q I h => ?_⟩
  refine wpAny_Call_Name_kw (ld_blt I hg hm boot_sorted ?_)
  refine PyProof.Rows.callWith_kw (thn (ha.run pos pins s σ H _ I h) fun us s1 ⟨vs, H1, I1, r1, q1⟩ => ?_) he hpl rfl rfl
  refine wpAny_evalAll_cons (wpAny_bind (ld_blt I1 hgl hml PySem.boot_len (wpAny_bind (wpAny_standAt (wpAny_pure (wpAny_evalAll_nil ?_))))))
  obtain ⟨a, xs, k, rfl, hs, hx, q⟩ := q1
  obtain ⟨u, rfl, ru⟩ := vals1 r1
  obtain rfl : u = Value.ref a := ru
  obtain ⟨its, rv, hl, hz⟩ := I1.list hs
  show wpAny (model X.prog X.w) X.A (call (.builtin "sorted") [.ref a] [(Str.ofString "key", .builtin "len")]) (EP X pins σ Q) X.xe s1
  have hl63 := line63
  refine PySem.W.sorted_key_data (b := false) (fun x : V => PyData.int (k x)) hl.isList (each_vals rv) (PySem.W.AllAlike.of fun _ _ => by simp [PySem.W.alike]) (PySem.W.Sortable.others fun _ => ⟨by simp, by simp⟩) hz
    (fun x _ => by simp only [PyData.depth]; show X.A.units + 2 + 0 < cLine; omega) (ksk_s1 _ _) (fun _ => ksk_l1 _ _) key_fields (fun v x hR hx' h' tk keep => ?_) fun out c h' tk keep fr at_ hlen each => ?_
  · obtain ⟨b, ns, rfl, hb, hk⟩ := hx x hx'
    obtain rfl : v = Value.ref b := hR
    obtain ⟨ws, r2, pb, z2⟩ := I1.tuple hb
    have pb' : IsTup h' b ws.toArray := by
      obtain ⟨o, ho, r⟩ := pb
      exact ⟨o, keep b o ho, r⟩
    have l2 := r2.length
    refine len_tuple (s := { s1 with heap := h', toks := tk }) pb' (by simp only [List.size_toArray] <;> omega) ?_
    refine ⟨h', _, rfl, fun _ _ e => e, ?_⟩
    have e : ((ws.toArray.size : Nat) : Int) = ((k (V.ref b) : Nat) : Int) := by
      rw [List.size_toArray, ← l2, hk]
    rw [e]
    exact Reads.int _ _
  · have r2 := vals_each each
    have pm : (xs.mergeSort (PySem.W.dataLe false fun x : V => PyData.int (k x))).Perm xs := List.mergeSort_perm _ _
    refine ⟨.ref _, upd H1 (s1.heap.objs.size + 1) (.lst _), I1.laid (t' := tk) keep (Nat.le_succ _) ⟨?_, out, c, r2, at_⟩, rfl, q _ _ pm ?_ (I1.hok.fresh (Nat.le_succ _))⟩
    · rw [pm.length_eq]
      exact hz
    · rw [PySem.W.dataLe_int (fun x : V => ((k x : Nat) : Int))]
      refine (List.pairwise_mergeSort (le := fun a b : V => decide (((k a : Nat) : Int) ≤ ((k b : Nat) : Int))) (fun a b c h1 h2 => ?_) (fun a b => ?_) xs).imp fun h => ?_
      · simp at *
        omega
      · simp
        omega
      · simpa using h
end K24
namespace K24
open PySem PySem.Spec PyProof.Rows L2
def top (i : Nat) : Stmt := PySem.Challenge.pw_oncetested_k24_inner_lots_of_shapes.main.body.getD (i + 2) (.Pass ⟨0, 0, 0, 0⟩)
abbrev sU : Stmt := PySem.Challenge.pw_oncetested_k24_inner_lots_of_shapes.main.body.getD 1 (.Pass ⟨0, 0, 0, 0⟩)
/-! ### data in the heap: ints, texts, tuples of them -/
mutual
inductive Dt (H : Hp) : V → PyData → Prop
  | int (i : Int) : Dt H (.int i) (.int i)
  | str (x : Str) : Dt H (.str x) (.str x)
  | non : Dt H .non .none
  | tup {a : Addr} {xs : List V} {ds : List PyData} : H a = some (.tup xs) → Dts H xs ds → Dt H (.ref a) (.tuple ds)
inductive Dts (H : Hp) : List V → List PyData → Prop
  | nil : Dts H [] []
  | cons {v : V} {vs : List V} {d : PyData} {ds : List PyData} : Dt H v d → Dts H vs ds → Dts H (v :: vs) (d :: ds)
end
mutual
theorem Dt.dp {K : PySem.W.Frag} {H : Hp} : ∀ {v : V} {d : PyData}, Dt H v d → Dp K H v d
  | _, _, .int i => .int i
  | _, _, .str x => .str x
  | _, _, .non => .non
  | _, _, .tup h t => .tup (SqT.of h) t.dp
theorem Dts.dp {K : PySem.W.Frag} {H : Hp} : ∀ {vs : List V} {ds : List PyData}, Dts H vs ds → DpAll K H vs ds
  | _, _, .nil => .nil
  | _, _, .cons h t => .cons h.dp t.dp
end
/-- all but lists and tables is as it was -/
def Kp (H H' : Hp) : Prop := ∀ b o, H b = some o → (∀ xs, o ≠ .lst xs) → (∀ ps, o ≠ .tbl ps) → H' b = some o
theorem kpS {H H' : Hp} (s : Same H H') : Kp H H' := fun b o e _ _ => s b o e
theorem Kp.refl (H : Hp) : Kp H H := fun _ _ e _ _ => e
theorem Kp.trans {H H1 H2 : Hp} (a : Kp H H1) (b : Kp H1 H2) : Kp H H2 := fun c o e n m => b c o (a c o e n m) n m
theorem Kp.tup {H H' : Hp} (k : Kp H H') {a : Addr} {xs : List V} (h : H a = some (.tup xs)) : H' a = some (.tup xs) := k a _ h (fun _ z => by cases z) (fun _ z => by cases z)
mutual
theorem Dt.kp {H H' : Hp} (k : Kp H H') : ∀ {v : V} {d : PyData}, Dt H v d → Dt H' v d
  | _, _, .int i => .int i
  | _, _, .str x => .str x
  | _, _, .non => .non
  | _, _, .tup h t => .tup (k.tup h) (t.kp k)
theorem Dts.kp {H H' : Hp} (k : Kp H H') : ∀ {vs : List V} {ds : List PyData}, Dts H vs ds → Dts H' vs ds
  | _, _, .nil => .nil
  | _, _, .cons h t => .cons (h.kp k) (t.kp k)
end
theorem Dt.sm {H H' : Hp} {v : V} {d : PyData} (h : Dt H v d) (s : Same H H') : Dt H' v d := h.kp (kpS s)
theorem Dts.sm {H H' : Hp} {vs : List V} {ds : List PyData} (h : Dts H vs ds) (s : Same H H') : Dts H' vs ds := h.kp (kpS s)
theorem Dts.length {H : Hp} : ∀ {vs : List V} {ds : List PyData}, Dts H vs ds → vs.length = ds.length
  | _, _, .nil => rfl
  | _, _, .cons _ t => congrArg Nat.succ t.length
theorem Dts.get {H : Hp} : ∀ {vs : List V} {ds : List PyData}, Dts H vs ds → ∀ {i : Nat} {v : V}, vs[i]? = some v → ∃ d, ds[i]? = some d ∧ Dt H v d
  | _, _, .nil, i, v, h => by simp at h
  | _, _, .cons (d := d) h t, 0, v, e => ⟨d, rfl, by have e' := Option.some.inj e; subst e'; exact h⟩
  | _, _, .cons h t, i + 1, v, e => t.get (i := i) (by simpa using e)
theorem Dts.app {H : Hp} : ∀ {vs ws : List V} {ds es : List PyData}, Dts H vs ds → Dts H ws es → Dts H (vs ++ ws) (ds ++ es)
  | _, _, _, _, .nil, h => h
  | _, _, _, _, .cons a t, h => .cons a (t.app h)
theorem Dts.one {H : Hp} {v : V} {d : PyData} (h : Dt H v d) : Dts H [v] [d] := .cons h .nil
theorem Dt.int_of {H : Hp} {v : V} {n : Int} (h : Dt H v (.int n)) : v = .int n := by cases h; rfl
theorem Dt.tup_of {H : Hp} {v : V} {ds : List PyData} (h : Dt H v (.tuple ds)) : ∃ a xs, v = .ref a ∧ H a = some (.tup xs) ∧ Dts H xs ds := by
  cases h with
  | tup h t => exact ⟨_, _, rfl, h, t⟩
/-! ### trees as data -/
def kname : Kd → Str
  | .bare => "bare"
  | .line => "line"
  | .free => "free"
mutual
def enc : Tr → PyData
  | .leaf n => .int n
  | .knot k cs => .tuple [.str (kname k), .tuple (encs cs)]
def encs : List Tr → List PyData
  | [] => []
  | c :: cs => enc c :: encs cs
end
theorem encs_map : ∀ cs : List Tr, encs cs = cs.map enc
  | [] => by simp [encs]
  | c :: cs => by simp [encs, encs_map cs]
theorem dt_leaf {H : Hp} {v : V} {n : Int} (h : Dt H v (enc (.leaf n))) : v = .int n := by
  rw [enc] at h
  exact h.int_of
theorem dt_knot {H : Hp} {v : V} {k : Kd} {cs : List Tr} (h : Dt H v (enc (.knot k cs))) : ∃ a b vs, v = .ref a ∧ H a = some (.tup [.str (kname k), .ref b]) ∧ H b = some (.tup vs) ∧ Dts H vs (cs.map enc) := by
  rw [enc, encs_map] at h
  obtain ⟨a, xs, rfl, ha, t⟩ := h.tup_of
  cases t with
  | cons h1 t =>
    cases t with
    | cons h2 t =>
      cases t
      cases h1
      obtain ⟨b, vs, rfl, hb, t2⟩ := h2.tup_of
      exact ⟨a, b, vs, rfl, ha, hb, t2⟩
theorem dt_mk {H : Hp} {a b : Addr} {k : Kd} {cs : List Tr} {vs : List V} (ha : H a = some (.tup [.str (kname k), .ref b])) (hb : H b = some (.tup vs)) (t : Dts H vs (cs.map enc)) : Dt H (.ref a) (enc (.knot k cs)) := by
  rw [enc, encs_map]
  exact .tup ha (.cons (.str _) (.cons (.tup hb t) .nil))
def isLf : Tr → Bool
  | .leaf _ => true
  | .knot _ _ => false
/-! ### lots as data -/
def lotV (L : List Int) : List V := L.map V.int
def lotD (L : List Int) : PyData := .tuple (L.map PyData.int)
theorem dts_ints {H : Hp} : ∀ L : List Int, Dts H (L.map V.int) (L.map PyData.int)
  | [] => .nil
  | n :: L => .cons (.int n) (dts_ints L)
theorem dts_int_of {H : Hp} : ∀ {L : List Int} {vs : List V}, Dts H vs (L.map PyData.int) → vs = L.map V.int
  | [], _, .nil => rfl
  | n :: L, _, .cons h t => by rw [h.int_of, dts_int_of t]; rfl
theorem dt_lot {H : Hp} {v : V} {L : List Int} (h : Dt H v (lotD L)) : ∃ a, v = .ref a ∧ H a = some (.tup (L.map V.int)) := by
  obtain ⟨a, xs, rfl, ha, t⟩ := h.tup_of
  rw [dts_int_of t] at ha
  exact ⟨a, rfl, ha⟩
theorem dt_lot_mk {H : Hp} {a : Addr} {L : List Int} (h : H a = some (.tup (L.map V.int))) : Dt H (.ref a) (lotD L) := .tup h (dts_ints L)
/-! ### heaps -/
theorem same_upd {H : Hp} {p : Addr} {o : HO} (h : H p = none) : Same H (upd H p o) := fun b x e => by
  rw [upd_ne (ne_of_none e h)]
  exact e
/-- the list at l, made on the way, may change -/
theorem same_upd2 {H H1 : Hp} {l : Addr} {o : HO} (s : Same H H1) (h : H l = none) : Same H (upd H1 l o) := fun b x e => by
  rw [upd_ne (ne_of_none e h)]
  exact s b x e
theorem none_of_same {H H1 : Hp} {l : Addr} (s : Same H H1) (h : H1 l = none) : H l = none := s.free h
/-! ### what stands in the module -/
structure Zs (mg : Str → Option Value) : Prop where
  isi : mg "isinstance" = none
  int : mg "int" = none
  tup : mg "tuple" = none
  lst : mg "list" = none
  sorted : mg "sorted" = none
  all : mg "all" = none
  any : mg "any" = none
  enum : mg "enumerate" = none
  rng : mg "range" = none
  len : mg "len" = none
  abs : mg "abs" = none
  min : mg "min" = none
  zip : mg "zip" = none
  bool : mg "bool" = none
/-- a def of the module -/
structure Df (K : PySem.W.Frag) (mg : Str → Option Value) (x : Str) (st : Stmt) (f : Addr) (fd : FuncData) (ps : List Str) : Prop where
  F : Fun K x x st f fd
  g : mg x = some (.ref f)
  b : Binds K fd ps []

end K24
namespace K24
open PySem PySem.Spec PyProof.Rows L2
/-- turns of any kind -/
theorem turns_it {J : It} {n : Nat} {G : Hp → Prop} {Y : Nat → Hp → V → Hp → Prop} (w : Walk J n G Y) {R : V → Hp → (Hp → Prop) → Prop} {Qd : Hp → Prop} {H0 : Hp} (Pv : Nat → Hp → Prop) (h0 : Pv 0 H0) (hG : ∀ i H, i ≤ n → Pv i H → G H)
    (hs : ∀ i x H H', i < n → Pv i H → Y i H x H' → R x H' (Pv (i + 1))) (hd : ∀ H, Pv n H → Qd H) :
    ∃ W : Nat → Nat → Hp → Prop, (∃ m, W 0 m H0) ∧ ∀ i m H, W i m H → (J.stop i H ∧ Qd H) ∨ (J.go i H ∧ ∃ Nx : Hp → Prop, (∀ H', Nx H' → ∃ m', m' < m ∧ W (i + 1) m' H') ∧ ∀ x H', J.yld i H x H' → R x H' Nx) := by
  refine ⟨fun i m H => m = n - i ∧ i ≤ n ∧ Pv i H, ⟨n, by simp, Nat.zero_le _, h0⟩, ?_⟩
  rintro i m H ⟨rfl, hi, p⟩
  have q := hG i H hi p
  by_cases hlt : i < n
  · exact .inr ⟨w.goes i H hlt q, Pv (i + 1), fun H' p' => ⟨n - (i + 1), by omega, rfl, hlt, p'⟩, fun x H' y => hs i x H H' hlt p (w.yields i H x H' hlt q y)⟩
  · have e : i = n := by omega
    subst e
    exact .inl ⟨w.stops H q, hd H p⟩
theorem lots_at {H : Hp} {zs : List V} {Ls : List (List Int)} (h : Dts H zs (Ls.map lotD)) {i : Nat} {v : V} (e : zs[i]? = some v) : ∃ L a, Ls[i]? = some L ∧ v = .ref a ∧ H a = some (.tup (L.map V.int)) := by
  obtain ⟨d, hd, hdt⟩ := h.get e
  rw [List.getElem?_map] at hd
  cases hL : Ls[i]? with
  | none => rw [hL] at hd; simp at hd
  | some L =>
    rw [hL] at hd
    obtain rfl : lotD L = d := Option.some.inj hd
    obtain ⟨a, rfl, ha⟩ := dt_lot hdt
    exact ⟨L, a, rfl, rfl, ha⟩
section
variable {P : Program} {w : World} {K : PySem.W.Frag} {mg : Str → Option Value} {base : Heap}
theorem scU : FnScope ["lots", "lot", "part"] ["lots"] (defScope sU) := ⟨rfl, rfl, rfl, by decide +kernel, rfl, by decide +kernel, by decide +kernel⟩
def spU (K : PySem.W.Frag) : Sp := fun vs H Q _ => ∃ (a : Addr) (zs : List V) (Ls : List (List Int)), vs = [.ref a] ∧ SqL K H a zs ∧ Dts H zs (Ls.map lotD) ∧ Ls.flatten.length ≤ 100000 ∧ ∀ H' p, Same H H' → H p = none → H' p = some (.tup ((srt Ls.flatten).map V.int)) → Q (.ref p) H'
theorem line_lt {n : Nat} (h : n ≤ 100000) : n < sizeLine := Nat.lt_of_le_of_lt h (by decide)
theorem okU {f : Addr} {fd : FuncData} (D : Df K mg "union_of" sU f fd ["lots"]) (Z : Zs mg) : FnOk P w K mg base CX0 1 f fd ["lots"] (spU K) := by
  refine D.F.ok scU (fun vs H Q E h => ?_) (fun cdv A outer s H vs Q E hr h => ?_)
  · obtain ⟨a, zs, Ls, rfl, _⟩ := h
    rfl
  obtain ⟨a, zs, Ls, rfl, ha, hz, hl, q⟩ := h
  refine ⟨_, pss_one (ps_ret (pe_callTy call_tuple_of rfl Z.tup (by decide +kernel) (pa_cons (pe_callB cr_sortedI rfl Z.sorted boot_sorted (pa_cons
    (pe_lc2 (own := [("lot", 1), ("part", 2)]) (vs1 := [2]) (g := gName 1) (g1 := gName 2) (wi1 := iTup K (tVar 1)) (tt := tYes) (tt1 := tYes) rfl scU.nd (pi_list (pv 0)) (blkOk_by (N := ["lots", "lot", "part"]) (sc := defScope sU) (by decide +kernel)) (by decide)
      (fun _ _ _ _ _ => pg_name (i := 1) scU.nd rfl (.inl rfl)) (fun _ _ _ _ _ => pts_nil) (fun _ _ _ _ _ => pi_tup (pv 1)) (fun _ _ _ _ _ => pg_name (i := 2) scU.nd rfl (.inl rfl)) (fun _ _ _ _ _ => pts_nil) (fun _ _ _ _ _ => pv 2)) pa_nil)) pa_nil))), ?_⟩
  have hzl := hz.length
  rw [List.length_map] at hzl
  refine ⟨_, rfl, a, rfl, ⟨_, ha⟩, fun dd hdd => ?_⟩
  refine turns_it (walk_list (K := K) (xs := zs)) (fun i H' => Same H H' ∧ H' dd = some (.lst (((Ls.take i).flatten).map V.int))) ⟨same_upd hdd, by rw [upd_same]; simp⟩ (fun i H' _ ⟨s2, _⟩ => s2.seq ha) ?_ ?_
  · rintro i x H1 H2 hi ⟨sm, hd⟩ ⟨rfl, hxi⟩
    obtain ⟨L, b, hL, rfl, hb⟩ := lots_at (hz.sm sm) hxi
    refine ⟨rfl, ?_⟩
    refine iteT (B := True) ?_
    refine ⟨_, rfl, b, rfl, ⟨_, SqT.of hb⟩, ?_⟩
    have ll : ((Ls.take (i + 1)).flatten).length ≤ 100000 := by
      have e := congrArg (fun l => l.flatten.length) (List.take_append_drop (i + 1) Ls)
      simp only [List.flatten_append, List.length_append] at e
      omega
    have e1 : (Ls.take (i + 1)).flatten = (Ls.take i).flatten ++ L := by
      rw [List.take_add_one, hL, List.flatten_append]
      simp
    rw [e1, List.length_append] at ll
    refine turns_it (walk_tup (K := K) (xs := L.map V.int)) (fun j H' => Same H H' ∧ H' b = some (.tup (L.map V.int)) ∧ H' dd = some (.lst (((Ls.take i).flatten ++ L.take j).map V.int))) ⟨sm, hb, by rw [hd]; simp⟩ (fun j H' _ ⟨_, s2, _⟩ => SqT.of s2) ?_ ?_
    · rintro j u H3 H4 hj ⟨s3, hb3, hd3⟩ ⟨rfl, hu⟩
      obtain ⟨m, hm, rfl⟩ : ∃ m, L[j]? = some m ∧ u = .int m := by
        rw [List.getElem?_map] at hu
        cases e : L[j]? with
        | none => rw [e] at hu; simp at hu
        | some m => rw [e] at hu; exact ⟨m, rfl, (Option.some.inj hu).symm⟩
      refine ⟨rfl, ?_⟩
      refine iteT (B := True) ?_
      have hdb : b ≠ dd := fun z => by rw [z, hd3] at hb3; cases hb3
      refine ⟨_, rfl, _, hd3, ?_, same_upd2 s3 hdd, ?_, ?_⟩
      · rw [List.length_map, List.length_append]
        have : (L.take j).length ≤ L.length := by rw [List.length_take]; omega
        exact line_lt (by omega)
      · rw [upd_ne hdb]
        exact hb3
      · rw [upd_same, List.take_add_one, hm]
        simp
    · rintro H3 ⟨s3, hb3, hd3⟩
      rw [List.length_map, List.take_length] at hd3
      rw [e1]
      exact ⟨s3, hd3⟩
  · rintro H1 ⟨sm, hd⟩
    rw [hzl, List.take_length] at hd
    refine ⟨dd, Ls.flatten, rfl, SqL.of hd, fun ns' p pm so hp0 => ?_⟩
    refine ⟨p, _, rfl, .inl ⟨SqL.of upd_same, fun p2 hp2 => ?_⟩⟩
    have hd0 := hdd
    have s2 : Same H (upd H1 p (.lst (ns'.map V.int))) := same_upd2 sm (sm.free hp0)
    refine q _ p2 (same_upd2 s2 (s2.free hp2)) (s2.free hp2) ?_
    rw [upd_same, srt_uniq pm so]
end
end K24
namespace K24
open PySem PySem.Spec PyProof.Rows L2
theorem sm_tup {K : PySem.W.Frag} {H H' : Hp} {a : Addr} {xs : List V} (s : Same H H') (h : SqT K H a xs) : SqT K H' a xs := by
  rcases h with (h | ⟨o, h⟩) | h
  · exact .inl (.inl (s _ _ h))
  · exact .inl (.inr ⟨o, s _ _ h⟩)
  · exact .inr h
def Sq (K : PySem.W.Frag) (H : Hp) (a : Addr) (xs : List V) : Prop := SqL K H a xs ∨ SqT K H a xs
theorem Sq.sm {K : PySem.W.Frag} {H H' : Hp} {a : Addr} {xs : List V} (h : Sq K H a xs) (s : Same H H') : Sq K H' a xs := h.elim (fun h => .inl (s.seq h)) fun h => .inr (sm_tup s h)
/-- a list or a tuple, walked: whatever walk it is -/
def iSeq (K : PySem.W.Frag) (tl : TE) : TI := fun σ H R => tl σ H fun x H1 => ∃ a xs, x = .ref a ∧ Sq K H1 a xs ∧ ∀ (J : It) (G : Hp → Prop), Walk J xs.length G (YAt xs) → (∀ H', Same H1 H' → G H') → R J H1
theorem pi_seq {X : Cx} {tg l : Expr} {tl : TE} (hl : PE X l tl) : PI X tg l (iSeq X.K tl) := by
  refine ⟨fun pins s σ H R I h => ?_⟩
  refine thn (hl.run pins s σ H _ I h) fun v s1 ⟨x, H1, I1, r1, q1⟩ => ?_
  obtain ⟨a, xs, rfl, hq, q⟩ := q1
  cases r1
  rcases hq with hq | hq
  · obtain ⟨its, rv, p, hz⟩ := I1.list hq
    exact wpAny_pyIter_list p.isList (pi_one (tk := s1.toks) I1 _ (turn_list a _) ⟨_, Heap.get?_push_size _ rfl, rfl, rfl⟩ (q _ _ walk_list fun H' s => s.seq hq))
  · obtain ⟨its, rv, p, hz⟩ := I1.tuple hq
    exact wpAny_pyIter_tuple (show s1.heap.IsTuple a its.toArray from p) (pi_one (tk := s1.toks) I1 _ (turn_tuple a _) ⟨_, Heap.get?_push_size _ rfl, rfl, rfl⟩ (q _ _ walk_tup fun H' s => sm_tup s hq))
/-- x in a list or tuple of ints -/
theorem in_ints (n : Int) : ∀ L : List Int, inV (.int n) (L.map V.int) = decide (n ∈ L)
  | [] => rfl
  | m :: L => by
    have ih := in_ints n L
    unfold inV at ih ⊢
    rw [List.map_cons, List.any_cons, ih]
    by_cases e : m = n
    · subst e
      simp [eqV]
    · have : eqV (.int m) (.int n) = false := by simp [eqV, e]
      rw [this, Bool.false_or]
      simp [Ne.symm e]
theorem flat_ints : ∀ L : List Int, (L.map V.int).all flatV = true
  | [] => rfl
  | m :: L => by
    rw [List.map_cons, List.all_cons, flat_ints L]
    rfl
end K24
namespace K24
open PySem PySem.Spec PyProof.Rows L2
section
variable {P : Program} {w : World} {K : PySem.W.Frag} {mg : Str → Option Value} {base : Heap}
abbrev s1 : Stmt := top 1
theorem sc1 : FnScope ["tree"] ["tree"] (defScope s1) := ⟨rfl, rfl, rfl, by decide +kernel, rfl, by decide +kernel, by decide +kernel⟩
def sp1 : Sp := fun vs H Q _ => ∃ v t, vs = [v] ∧ Dt H v (enc t) ∧ Q (.bl (isLf t)) H
theorem ok1 {f : Addr} {fd : FuncData} (F : Fun K "is_leaf" "is_leaf" s1 f fd) (Z : Zs mg) : FnOk P w K mg base CX0 1 f fd ["tree"] sp1 := by
  refine F.ok sc1 (fun vs H Q E h => ?_) (fun cdv A outer s H vs Q E hr h => ?_)
  · obtain ⟨v, t, rfl, _⟩ := h
    rfl
  obtain ⟨v, t, rfl, hd, q⟩ := h
  refine ⟨_, pss_one (ps_ret (pe_callB call_isi rfl Z.isi (by decide +kernel) (pa_cons (pv 0) (pa_cons (pe_bltn (v := .ty "int") rfl Z.int (by decide +kernel) rfl) pa_nil)))), ?_⟩
  cases t with
  | leaf n =>
    obtain rfl := dt_leaf hd
    exact ⟨_, rfl, _, _, _, _, true, rfl, .ty _, .base (.int n), kit_ty (by decide +kernel), q⟩
  | knot k cs =>
    obtain ⟨a, b, xs, rfl, ha, hb, _⟩ := dt_knot hd
    exact ⟨_, rfl, _, _, _, _, false, rfl, .ty _, .base (.tup ha), kit_ty (by decide +kernel), q⟩
/-! parts_of -/
abbrev s2 : Stmt := top 2
theorem sc2 : FnScope ["shape", "child"] ["shape"] (defScope s2) := ⟨rfl, rfl, rfl, by decide +kernel, rfl, by decide +kernel, by decide +kernel⟩
def sp2 (n : Nat) : Sp := fun vs H Q _ => ∃ v t, vs = [v] ∧ Dt H v (enc t) ∧ ok t ∧ (lv t).length ≤ n ∧ n ≤ 100 ∧ ∀ H' p, Same H H' → H p = none → H' p = some (.tup ((parts t).map V.int)) → Q (.ref p) H'
theorem len_child {cs : List Tr} {c : Tr} (hc : c ∈ cs) : (lv c).length ≤ (lvs cs).length := by
  induction cs with
  | nil => exact absurd hc (by simp)
  | cons d cs ih =>
    simp only [lvs, List.length_append]
    rcases List.mem_cons.mp hc with e | e
    · rw [e]; omega
    · have := ih e
      omega
theorem len_less {k : Kd} {cs : List Tr} (o : ok (.knot k cs)) {c : Tr} (hc : c ∈ cs) : (lv c).length < (lv (.knot k cs)).length := by
  obtain ⟨h2, ho⟩ := ok_knot o
  have pos : ∀ d ∈ cs, 1 ≤ (lv d).length := fun d hd => by
    have := lv_ne d (ho d hd)
    exact List.length_pos_iff.mpr this
  rw [lv_knot]
  match cs, h2 with
  | a :: b :: cs, _ =>
    simp only [lvs, List.length_append]
    have pa := pos a List.mem_cons_self
    have pb := pos b (List.mem_cons_of_mem _ List.mem_cons_self)
    rcases List.mem_cons.mp hc with e | e
    · rw [e]; omega
    · have := len_child e
      simp only [lvs, List.length_append] at this
      omega
theorem lvs_take {cs : List Tr} {i : Nat} {c : Tr} (h : cs[i]? = some c) : lvs (cs.take (i + 1)) = lvs (cs.take i) ++ lv c := by
  rw [lvs_flat, lvs_flat, List.take_add_one, h]
  simp
theorem lvs_take_len {cs : List Tr} (i : Nat) : (lvs (cs.take i)).length ≤ (lvs cs).length := by
  induction cs generalizing i with
  | nil => simp [lvs]
  | cons d cs ih =>
    cases i with
    | zero => simp [lvs]
    | succ i =>
      have := ih i
      simp only [List.take_succ_cons, lvs, List.length_append]
      omega
theorem cs_len : ∀ {cs : List Tr}, (∀ c ∈ cs, ok c) → cs.length ≤ (lvs cs).length
  | [], _ => Nat.zero_le _
  | c :: cs, h => by
    have h1 := cs_len (cs := cs) fun d hd => h d (List.mem_cons_of_mem _ hd)
    have h2 := lv_ne c (h c List.mem_cons_self)
    have h3 : 1 ≤ (lv c).length := List.length_pos_iff.mpr h2
    simp only [lvs, List.length_append, List.length_cons]
    omega
theorem line_big {n : Nat} (h : n ≤ 1000000) : n ≤ sizeLine := Nat.le_trans h (by decide)
theorem flat_perm : ∀ cs : List Tr, ((cs.map parts).flatten).Perm (lvs cs)
  | [] => by simp [lvs]
  | c :: cs => by
    simp only [List.map_cons, List.flatten_cons, lvs]
    exact (srt_perm (lv c)).append (flat_perm cs)
theorem kp_mask {H : Hp} {dd : Addr} {zs ys : List V} (h : H dd = some (.lst zs)) : Kp H (upd H dd (.lst ys)) := fun b o e n1 n2 => by
  have : b ≠ dd := fun z => by
    rw [z, h] at e
    exact n1 _ (Option.some.inj e).symm
  rw [upd_ne this]
  exact e
theorem ok2_step {n : Nat} {f f1 fu : Addr} {fd fd1 fdu : FuncData} (D : Df K mg "parts_of" s2 f fd ["shape"]) (D1 : Df K mg "is_leaf" s1 f1 fd1 ["tree"]) (DU : Df K mg "union_of" sU fu fdu ["lots"]) (Z : Zs mg)
    (G : FnOk P w K mg base CX0 (n + 1) f fd ["shape"] (sp2 n)) : FnOk P w K mg base CX0 (n + 2) f fd ["shape"] (sp2 (n + 1)) := by
  have G1 : FnOk P w K mg base CX0 1 f1 fd1 ["tree"] sp1 := ok1 D1.F Z
  have GU : FnOk P w K mg base CX0 1 fu fdu ["lots"] (spU K) := okU DU Z
  refine D.F.ok sc2 (fun vs H Q E h => ?_) (fun cdv A outer s H vs Q E hr h => ?_)
  · obtain ⟨v, t, rfl, _⟩ := h
    rfl
  obtain ⟨v, t, rfl, hd, ho, hl, hn, q⟩ := h
  have hr1 : Room 1 _ := hr.mono (by omega)
  refine ⟨_, pss_cons (ps_if (pt_truth (pe_call G1 hr1 rfl D1.g D1.F.kp D1.b .nil pass0 (pa_cons (pv 0) pa_nil)) (fun _ => rfl)) (pss_one (ps_ret (pe_tup (pa_cons (pv 0) pa_nil)))) pss_nil)
    (pss_one (ps_ret (pe_call GU hr1 rfl DU.g DU.F.kp DU.b .nil pass0 (pa_cons
      (pe_lc (own := [("child", 1)]) (g := gName 1) (tt := tYes) rfl sc2.nd (pi_tup (pe_ix ix_tup (pv 0) pe_int (fun _ _ => rfl))) (blkOk_by (N := ["shape", "child"]) (sc := defScope s2) (by decide +kernel))
        (fun _ _ _ _ _ => pg_name (i := 1) sc2.nd rfl (.inl rfl)) (fun _ _ _ _ _ => pts_nil) (fun _ _ _ _ _ => pe_call G hr rfl D.g D.F.kp D.b .nil pass0 (pa_cons (pv 1) pa_nil))) pa_nil)))), ?_⟩
  cases t with
  | leaf m =>
    obtain rfl := dt_leaf hd
    refine ⟨_, rfl, _, _, rfl, hd, true, rfl, ?_⟩
    refine iteT ⟨_, rfl, (by show 1 ≤ sizeLine; decide), fun p hp => ?_⟩
    exact q _ p (same_upd hp) hp upd_same
  | knot k cs =>
    obtain ⟨a, b, xs, rfl, ha, hb, hx⟩ := dt_knot hd
    obtain ⟨_, hoc⟩ := ok_knot ho
    refine ⟨_, rfl, _, _, rfl, hd, false, rfl, ?_⟩
    refine iteF ?_
    have hlx := hx.length
    rw [List.length_map] at hlx
    have hcl := cs_len hoc
    rw [lv_knot] at hl
    refine ⟨_, rfl, a, _, 1, .ref b, rfl, rfl, SqT.of ha, rfl, b, rfl, ⟨_, SqT.of hb⟩, fun dd hdd => ?_⟩
    refine lc_it (walk_tup (K := K) (xs := xs)) (fun i H' => Same H H' ∧ ∃ zs, H' dd = some (.lst zs) ∧ Dts H' zs (((cs.take i).map parts).map lotD)) ⟨same_upd hdd, [], upd_same, by simpa using Dts.nil⟩
      (fun i H' _ ⟨s2, _⟩ => SqT.of (s2 _ _ hb)) ?_ ?_
    · rintro i x H2 H3 hi ⟨sm2, zs, hz, hzs⟩ ⟨rfl, hxi⟩
      obtain ⟨d, hdi, hdt⟩ := hx.get hxi
      rw [List.getElem?_map] at hdi
      cases hci : cs[i]? with
      | none => rw [hci] at hdi; simp at hdi
      | some c =>
        rw [hci] at hdi
        obtain rfl : enc c = d := Option.some.inj hdi
        have hc : c ∈ cs := List.mem_of_getElem? hci
        have hlc := len_less ho hc
        rw [lv_knot] at hlc
        refine ⟨rfl, ?_⟩
        refine iteT (B := True) ?_
        refine ⟨x, rfl, x, c, rfl, hdt.sm sm2, hoc c hc, by omega, by omega, fun H4 p4 sm4 h40 h4 => ?_⟩
        refine ⟨zs, sm4 _ _ hz, ?_, same_upd2 (sm2.trans sm4) hdd, zs ++ [.ref p4], upd_same, ?_⟩
        · have := hzs.length
          rw [List.length_map, List.length_map, List.length_take] at this
          exact line_lt (by omega)
        · rw [List.take_add_one, hci]
          simp only [List.map_append]
          exact ((hzs.sm sm4).app (.one (dt_lot_mk h4))).kp (kp_mask (sm4 _ _ hz))
    · rintro H2 ⟨sm2, zs, hz, hzs⟩
      rw [hlx, List.take_length] at hzs
      have fl := (flat_perm cs).length_eq
      refine ⟨dd, zs, cs.map parts, rfl, SqL.of hz, hzs, by omega, fun H4 p4 sm4 h40 h4 => ?_⟩
      refine q _ p4 (sm2.trans sm4) (sm2.free h40) ?_
      rw [h4, srt_congr (flat_perm cs)]
      rfl
theorem none2 {f : Addr} {fd : FuncData} : FnOk P w K mg base CX0 1 f fd ["shape"] (sp2 0) := by
  have no : ∀ vs H Q E, ¬ sp2 0 vs H Q E := fun vs H Q E h => by
    obtain ⟨v, t, _, _, ho, hl, _⟩ := h
    have := lv_ne t ho
    exact this (List.eq_nil_of_length_eq_zero (by omega))
  exact ⟨fun vs H Q E h => absurd h (no vs H Q E), fun A outer s H args us vs Q E _ _ _ _ h => absurd h (no vs H Q E)⟩
theorem ok2 {f f1 fu : Addr} {fd fd1 fdu : FuncData} (D : Df K mg "parts_of" s2 f fd ["shape"]) (D1 : Df K mg "is_leaf" s1 f1 fd1 ["tree"]) (DU : Df K mg "union_of" sU fu fdu ["lots"]) (Z : Zs mg) : ∀ n, FnOk P w K mg base CX0 (n + 1) f fd ["shape"] (sp2 n)
  | 0 => none2
  | n + 1 => ok2_step D D1 DU Z (ok2 D D1 DU Z n)
end
end K24
namespace K24
open PySem PySem.Spec PyProof.Rows L2
/-! how many trees -/
theorem trees_len : ∀ t : Tr, ok t → (trees t).length + 1 ≤ 2 * (lv t).length := Tr.ind (fun n _ => by simp [trees, lv]) fun k cs ih o => by
  obtain ⟨h2, ho⟩ := ok_knot o
  have key : ∀ ds : List Tr, (∀ d ∈ ds, d ∈ cs) → (treess ds).length + ds.length ≤ 2 * (lvs ds).length := by
    intro ds
    induction ds with
    | nil => intro _; simp [treess, lvs]
    | cons d ds ih2 =>
      intro h
      have h1 := ih d (h d List.mem_cons_self) (ho d (h d List.mem_cons_self))
      have h3 := ih2 fun e he => h e (List.mem_cons_of_mem _ he)
      simp only [treess, lvs, List.length_append, List.length_cons]
      omega
  have := key cs fun d hd => hd
  rw [lv_knot, trees, List.length_cons]
  omega
theorem treess_take {cs : List Tr} {i : Nat} {c : Tr} (h : cs[i]? = some c) : treess (cs.take (i + 1)) = treess (cs.take i) ++ trees c := by
  have e : ∀ ds : List Tr, treess ds = ds.flatMap trees := by
    intro ds
    induction ds with
    | nil => simp [treess]
    | cons d ds ih => simp [treess, ih]
  rw [e, e, List.take_add_one, h]
  simp
theorem treess_take_len {cs : List Tr} (i : Nat) : (treess (cs.take i)).length ≤ (treess cs).length := by
  induction cs generalizing i with
  | nil => simp [treess]
  | cons d cs ih =>
    cases i with
    | zero => simp [treess]
    | succ i =>
      have := ih i
      simp only [List.take_succ_cons, treess, List.length_append]
      omega
theorem treess_mem_len {cs : List Tr} {c : Tr} (hc : c ∈ cs) : (trees c).length ≤ (treess cs).length := by
  induction cs with
  | nil => exact absurd hc (by simp)
  | cons d cs ih =>
    simp only [treess, List.length_append]
    rcases List.mem_cons.mp hc with e | e
    · rw [e]; omega
    · have := ih e
      omega
/-- the child that stands at a place -/
theorem child_dt {H : Hp} {cs : List Tr} {xs : List V} (hx : Dts H xs (cs.map enc)) {i : Nat} {x : V} (h : xs[i]? = some x) : ∃ c, cs[i]? = some c ∧ c ∈ cs ∧ Dt H x (enc c) := by
  obtain ⟨d, hd, hdt⟩ := hx.get h
  rw [List.getElem?_map] at hd
  cases hc : cs[i]? with
  | none => rw [hc] at hd; simp at hd
  | some c =>
    rw [hc] at hd
    obtain rfl : enc c = d := Option.some.inj hd
    exact ⟨c, rfl, List.mem_of_getElem? hc, hdt⟩
section
variable {P : Program} {w : World} {K : PySem.W.Frag} {mg : Str → Option Value} {base : Heap}
abbrev s3 : Stmt := top 3
theorem sc3 : FnScope ["shape", "trees", "child"] ["shape"] (defScope s3) := ⟨rfl, rfl, rfl, by decide +kernel, rfl, by decide +kernel, by decide +kernel⟩
def sp3 (n : Nat) : Sp := fun vs H Q _ => ∃ v t, vs = [v] ∧ Dt H v (enc t) ∧ ok t ∧ (lv t).length ≤ n ∧ n ≤ 100 ∧ ∀ H' p zs, Same H H' → H p = none → H' p = some (.lst zs) → Dts H' zs ((trees t).map enc) → Q (.ref p) H'
theorem ok3_step {n : Nat} {f f1 : Addr} {fd fd1 : FuncData} (D : Df K mg "trees_of" s3 f fd ["shape"]) (D1 : Df K mg "is_leaf" s1 f1 fd1 ["tree"]) (Z : Zs mg)
    (G : FnOk P w K mg base CX0 (n + 1) f fd ["shape"] (sp3 n)) : FnOk P w K mg base CX0 (n + 2) f fd ["shape"] (sp3 (n + 1)) := by
  have G1 : FnOk P w K mg base CX0 1 f1 fd1 ["tree"] sp1 := ok1 D1.F Z
  refine D.F.ok sc3 (fun vs H Q E h => ?_) (fun cdv A outer s H vs Q E hr h => ?_)
  · obtain ⟨v, t, rfl, _⟩ := h
    rfl
  obtain ⟨v, t, rfl, hd, ho, hl, hn, q⟩ := h
  have hr1 : Room 1 _ := hr.mono (by omega)
  refine ⟨_, pss_cons (ps_set (i := 1) sc3.nd rfl (.inl rfl) (pe_lst (pa_cons (pv 0) pa_nil)))
    (pss_cons (ps_if (pt_not (pt_truth (pe_call G1 hr1 rfl D1.g D1.F.kp D1.b .nil pass0 (pa_cons (pv 0) pa_nil)) (fun _ => rfl)))
      (pss_one (ps_for PassesOwn.never rfl (pi_tup (pe_ix ix_tup (pv 0) pe_int (fun _ _ => rfl))) (pg_name (i := 2) sc3.nd rfl (.inl rfl))
        (pss_one (ps_expr (pe_bm PySem.F.plainAttrs_list PySem.F.slot_list_extend PySem.F.type_list_extend mt_extend (pv 1) (pa_cons (pe_call G hr rfl D.g D.F.kp D.b .nil pass0 (pa_cons (pv 2) pa_nil)) pa_nil)))))) pss_nil)
    (pss_one (ps_ret (pv 1)))), ?_⟩
  refine ⟨_, rfl, (by show 1 ≤ sizeLine; decide), fun l hl' => ?_⟩
  have s0 : Same H (upd H l (.lst [v])) := same_upd hl'
  cases t with
  | leaf m =>
    refine ⟨_, rfl, _, _, rfl, hd.sm s0, true, rfl, ?_⟩
    refine iteF ?_
    refine ⟨_, rfl, ?_⟩
    refine q _ l _ s0 hl' upd_same ?_
    rw [trees]
    exact .one (hd.sm s0)
  | knot k cs =>
    obtain ⟨a, b, xs, rfl, ha, hb, hx⟩ := dt_knot hd
    obtain ⟨_, hoc⟩ := ok_knot ho
    refine ⟨_, rfl, _, _, rfl, hd.sm s0, false, rfl, ?_⟩
    refine iteT ?_
    refine ⟨_, rfl, a, _, 1, .ref b, rfl, rfl, SqT.of (s0 _ _ ha), rfl, b, rfl, ⟨_, SqT.of (s0 _ _ hb)⟩, ?_⟩
    have hlx := hx.length
    refine for_it (walk_tup (K := K) (xs := xs)) (fun i σ H' => ∃ y, σ = [some (.ref a), some (.ref l), y] ∧ Same H H' ∧ ∃ zs, H' l = some (.lst zs) ∧ Dts H' zs ((Tr.knot k cs :: treess (cs.take i)).map enc))
      ⟨none, rfl, s0, _, upd_same, by simpa [treess] using Dts.one (hd.sm s0)⟩ (fun i σ H' _ ⟨_, _, sm, _⟩ => SqT.of (sm _ _ hb)) ?_ ?_
    · rintro i x σ H1 H2 hi ⟨y, rfl, sm, zs, hz, hp⟩ ⟨rfl, hxi⟩
      obtain ⟨c, hci, hc, hdt⟩ := child_dt hx hxi
      have hlc := len_less ho hc
      refine ⟨_, rfl, .inl ⟨rfl, _, SqL.of hz⟩, x, rfl, x, c, rfl, hdt.sm sm, hoc c hc, by omega, by omega, fun H3 p ws sm3 hp0 hpp hws => ?_⟩
      refine ⟨l, p, _, _, rfl, rfl, sm3 _ _ hz, hpp, ?_, ?_⟩
      · have l1 := hp.length
        have l2 := hws.length
        rw [List.length_map, List.length_cons] at l1
        rw [List.length_map] at l2
        rw [l1, l2]
        have h1 := treess_take_len (cs := cs) i
        have h2 := treess_mem_len hc
        have h3 := trees_len _ ho
        rw [trees, List.length_cons] at h3
        exact line_big (by omega)
      · refine ⟨some x, rfl, same_upd2 (sm.trans sm3) hl', zs ++ ws, upd_same, ?_⟩
        rw [treess_take hci, ← List.cons_append, List.map_append]
        have k1 : Kp H3 (upd H3 l (.lst (zs ++ ws))) := fun b o e n1 n2 => by
          have : b ≠ l := fun z => by
            rw [z, sm3 _ _ hz] at e
            exact n1 _ (Option.some.inj e).symm
          rw [upd_ne this]
          exact e
        exact ((hp.sm sm3).app hws).kp k1
    · rintro σ H1 ⟨y, rfl, sm, zs, hz, hp⟩
      refine ⟨_, rfl, ?_⟩
      refine q _ l zs sm hl' hz ?_
      rw [trees]
      have := hp
      rwa [hlx, List.length_map, List.take_length] at this
theorem none3 {f : Addr} {fd : FuncData} : FnOk P w K mg base CX0 1 f fd ["shape"] (sp3 0) := by
  have no : ∀ vs H Q E, ¬ sp3 0 vs H Q E := fun vs H Q E h => by
    obtain ⟨v, t, _, _, ho, hl, _⟩ := h
    have := lv_ne t ho
    exact this (List.eq_nil_of_length_eq_zero (by omega))
  exact ⟨fun vs H Q E h => absurd h (no vs H Q E), fun A outer s H args us vs Q E _ _ _ _ h => absurd h (no vs H Q E)⟩
theorem ok3 {f f1 : Addr} {fd fd1 : FuncData} (D : Df K mg "trees_of" s3 f fd ["shape"]) (D1 : Df K mg "is_leaf" s1 f1 fd1 ["tree"]) (Z : Zs mg) : ∀ n, FnOk P w K mg base CX0 (n + 1) f fd ["shape"] (sp3 n)
  | 0 => none3
  | n + 1 => ok3_step D D1 Z (ok3 D D1 Z n)
end
/-! lots read off the heap -/
def toI : V → Int
  | .int n => n
  | _ => 0
def tI (H : Hp) : V → List Int
  | .ref a => match H a with
    | some (.tup xs) => xs.map toI
    | _ => []
  | _ => []
theorem toI_map : ∀ L : List Int, (L.map V.int).map toI = L
  | [] => rfl
  | n :: L => congrArg (List.cons n) (toI_map L)
theorem tI_of {H : Hp} {v : V} {L : List Int} (h : Dt H v (lotD L)) : tI H v = L := by
  obtain ⟨a, rfl, ha⟩ := dt_lot h
  show (match H a with | some (.tup xs) => xs.map toI | _ => []) = L
  rw [ha]
  exact toI_map L
theorem dts_lots {H : Hp} : ∀ {xs : List V} {Ls : List (List Int)}, Dts H xs (Ls.map lotD) → Ls = xs.map (tI H) ∧ ∀ x ∈ xs, Dt H x (lotD (tI H x))
  | _, [], .nil => ⟨rfl, fun x h => absurd h (by simp)⟩
  | _, L :: Ls, .cons h t => by
    obtain ⟨h1, h2⟩ := dts_lots t
    have e := tI_of h
    refine ⟨by rw [List.map_cons, e, ← h1], fun x hx => ?_⟩
    rcases List.mem_cons.mp hx with rfl | hx
    · rw [e]; exact h
    · exact h2 x hx
theorem lots_dts {H : Hp} : ∀ {xs : List V}, (∀ x ∈ xs, Dt H x (lotD (tI H x))) → Dts H xs ((xs.map (tI H)).map lotD)
  | [], _ => .nil
  | x :: xs, h => .cons (h x List.mem_cons_self) (lots_dts fun y hy => h y (List.mem_cons_of_mem _ hy))
theorem dts_perm {H : Hp} {xs ys : List V} {Ls : List (List Int)} (h : Dts H xs (Ls.map lotD)) (p : ys.Perm xs) : (ys.map (tI H)).Perm Ls ∧ Dts H ys ((ys.map (tI H)).map lotD) := by
  obtain ⟨h1, h2⟩ := dts_lots h
  rw [h1]
  exact ⟨p.map _, lots_dts fun y hy => h2 y (p.mem_iff.mp hy)⟩
section
variable {P : Program} {w : World} {K : PySem.W.Frag} {mg : Str → Option Value} {base : Heap}
theorem lt2 {k : Nat} {A : Around} (hr : Room k A) : A.in1.in1.units < cLine := by
  have := hr.un
  show A.units + 1 + 1 < cLine
  omega
theorem lt65 {k : Nat} {A : Around} (hr : Room k A) : A.units + 65 < cLine := by
  have := hr.un
  omega
theorem lt66 {k : Nat} {A : Around} (hr : Room k A) : A.units + 66 < cLine := by
  have := hr.un
  omega
/-! strong_lots -/
abbrev s4 : Stmt := top 4
theorem sc4 : FnScope ["shape", "tree"] ["shape"] (defScope s4) := ⟨rfl, rfl, rfl, by decide +kernel, rfl, by decide +kernel, by decide +kernel⟩
def sp4 (n : Nat) : Sp := fun vs H Q _ => ∃ v t, vs = [v] ∧ Dt H v (enc t) ∧ ok t ∧ (lv t).length ≤ n ∧ n ≤ 100 ∧ ∀ (H' : Hp) (p : Addr) (zs : List V) (Ls : List (List Int)), Same H H' → H p = none → H' p = some (.tup zs) → Dts H' zs (Ls.map lotD) → Ls.Perm (strong t) → Q (.ref p) H'
theorem trees_ok : ∀ t : Tr, ok t → ∀ z ∈ trees t, ok z := Tr.ind (fun n o z h => by
    have e : z = .leaf n := by simpa [trees] using h
    rw [e]; exact o) fun k cs ih o z h => by
  rcases mem_trees.mp h with rfl | ⟨c, hc, h⟩
  · exact o
  · exact ih c hc ((ok_knot o).2 c hc) z h
theorem trees_short : ∀ t : Tr, ∀ z ∈ trees t, (lv z).length ≤ (lv t).length := Tr.ind (fun n z h => by
    have e : z = .leaf n := by simpa [trees] using h
    rw [e]; exact Nat.le_refl _) fun k cs ih z h => by
  rcases mem_trees.mp h with rfl | ⟨c, hc, h⟩
  · exact Nat.le_refl _
  · have := ih c hc z h
    have := len_child hc
    rw [lv_knot]
    omega
theorem ok4 {n : Nat} {f f1 f2 f3 fu : Addr} {fd fd1 fd2 fd3 fdu : FuncData} (D : Df K mg "strong_lots" s4 f fd ["shape"]) (D1 : Df K mg "is_leaf" s1 f1 fd1 ["tree"]) (DU : Df K mg "union_of" sU fu fdu ["lots"]) (D2 : Df K mg "parts_of" s2 f2 fd2 ["shape"]) (D3 : Df K mg "trees_of" s3 f3 fd3 ["shape"]) (Z : Zs mg) :
    FnOk P w K mg base CX0 (n + 2) f fd ["shape"] (sp4 n) := by
  have G2 : FnOk P w K mg base CX0 (n + 1) f2 fd2 ["shape"] (sp2 n) := ok2 D2 D1 DU Z n
  have G3 : FnOk P w K mg base CX0 (n + 1) f3 fd3 ["shape"] (sp3 n) := ok3 D3 D1 Z n
  refine D.F.ok sc4 (fun vs H Q E h => ?_) (fun cdv A outer s H vs Q E hr h => ?_)
  · obtain ⟨v, t, rfl, _⟩ := h
    rfl
  obtain ⟨v, t, rfl, hd, ho, hl, hn, q⟩ := h
  have hu := hr.units
  have hu2 := hr.un
  refine ⟨_, pss_one (ps_ret (pe_callTy call_tuple_of rfl Z.tup (by decide +kernel) (pa_cons (pe_callB (cr_sortTI (lt2 hr)) rfl Z.sorted boot_sorted (pa_cons
    (pe_lc (own := [("tree", 1)]) (g := gName 1) (tt := tYes) rfl sc4.nd (pi_list (pe_call G3 hr rfl D3.g D3.F.kp D3.b .nil pass0 (pa_cons (pv 0) pa_nil))) (blkOk_by (N := ["shape", "tree"]) (sc := defScope s4) (by decide +kernel))
      (fun _ _ _ _ _ => pg_name (i := 1) sc4.nd rfl (.inl rfl)) (fun _ _ _ _ _ => pts_nil) (fun _ _ _ _ _ => pe_call G2 hr rfl D2.g D2.F.kp D2.b .nil pass0 (pa_cons (pv 1) pa_nil))) pa_nil)) pa_nil))), ?_⟩
  refine ⟨_, rfl, v, t, rfl, hd, ho, hl, hn, fun H1 p xs sm hp0 hpp hxs => ?_⟩
  refine ⟨p, rfl, ⟨_, SqL.of hpp⟩, fun dd hdd => ?_⟩
  have hlx := hxs.length
  rw [List.length_map] at hlx
  have tl := trees_len t ho
  refine lc_it (walk_list (K := K) (xs := xs)) (fun i H' => Same H1 H' ∧ ∃ zs, H' dd = some (.lst zs) ∧ Dts H' zs ((((trees t).take i).map parts).map lotD)) ⟨same_upd hdd, [], upd_same, by simpa using Dts.nil⟩
    (fun i H' _ ⟨s2, _⟩ => SqL.of (s2 _ _ hpp)) ?_ ?_
  · rintro i x H2 H3 hi ⟨sm2, zs, hz, hzs⟩ ⟨rfl, hxi⟩
    obtain ⟨z, hzi, hzm, hzd⟩ := child_dt hxs hxi
    refine ⟨rfl, ?_⟩
    refine iteT (B := True) ?_
    refine ⟨x, rfl, x, z, rfl, hzd.sm sm2, trees_ok t ho z hzm, by have := trees_short t z hzm; omega, hn, fun H4 p4 sm4 h40 h4 => ?_⟩
    refine ⟨zs, sm4 _ _ hz, ?_, ?_⟩
    · have := hzs.length
      rw [List.length_map, List.length_map, List.length_take] at this
      exact Nat.lt_of_le_of_lt (Nat.le_trans (Nat.le_of_eq this) (Nat.min_le_right _ _)) (small1000 (by omega))
    · have nd : dd ≠ p4 := fun e => by
        rw [e] at hz
        rw [hz] at h40
        cases h40
      have hd0 : H1 dd = none := hdd
      refine ⟨same_upd2 (sm2.trans sm4) hd0, zs ++ [.ref p4], upd_same, ?_⟩
      have k1 : Kp H4 (upd H4 dd (.lst (zs ++ [.ref p4]))) := fun b o e n1 n2 => by
        have : b ≠ dd := fun z => by
          rw [z, sm4 _ _ hz] at e
          exact n1 _ (Option.some.inj e).symm
        rw [upd_ne this]
        exact e
      rw [List.take_add_one, hzi]
      simp only [List.map_append]
      exact ((hzs.sm sm4).app (.one (dt_lot_mk h4))).kp k1
  · rintro H2 ⟨sm2, zs, hz, hzs⟩
    rw [hlx, List.take_length] at hzs
    obtain ⟨e1, e2⟩ := dts_lots hzs
    refine ⟨dd, zs, tI H2, rfl, SqL.of hz, fun x hx => ?_, .inl fun x hx => ?_, fun ys p2 pm so hp2 => ?_⟩
    · obtain ⟨a, ea, ha⟩ := dt_lot (e2 x hx)
      exact ⟨a, ea, SqT.of ha⟩
    · have : tI H2 x ∈ (trees t).map parts := by
        rw [e1]
        exact List.mem_map.mpr ⟨x, hx, rfl⟩
      obtain ⟨z, hz2, e⟩ := List.mem_map.mp this
      rw [← e]
      intro z0
      have := lv_ne z (trees_ok t ho z hz2)
      have l0 := (srt_perm (lv z)).length_eq
      rw [show srt (lv z) = parts z from rfl, z0] at l0
      exact this (List.eq_nil_of_length_eq_zero (by simpa using l0.symm))
    · obtain ⟨pp, dd2⟩ := dts_perm hzs pm
      refine ⟨p2, _, rfl, .inl ⟨SqL.of upd_same, fun p3 hp3 => ?_⟩⟩
      have sA : Same H H2 := sm.trans sm2
      have sB : Same H (upd H2 p2 (.lst ys)) := same_upd2 sA (sA.free hp2)
      have sC : Same H2 (upd H2 p2 (.lst ys)) := same_upd hp2
      have sD : Same (upd H2 p2 (.lst ys)) (upd (upd H2 p2 (.lst ys)) p3 (.tup ys)) := same_upd hp3
      exact q _ p3 ys _ (sB.trans sD) (sB.free hp3) upd_same (dd2.sm (sC.trans sD)) pp
end
end K24
namespace K24
open PySem PySem.Spec PyProof.Rows L2
theorem kp_list {H H1 : Hp} {l : Addr} {zs ys : List V} (h : H l = some (.lst zs)) : Kp H (upd H l (.lst ys)) := fun b o e n1 n2 => by
  have : b ≠ l := fun z => by
    rw [z, h] at e
    exact n1 _ (Option.some.inj e).symm
  rw [upd_ne this]
  exact e
theorem all_ints (L : List Int) (p : Int → Bool) : (L.map p).all id = true ↔ ∀ n ∈ L, p n = true := by
  rw [List.all_eq_true]
  constructor
  · intro h n hn
    exact h _ (List.mem_map.mpr ⟨n, hn, rfl⟩)
  · intro h b hb
    obtain ⟨n, hn, rfl⟩ := List.mem_map.mp hb
    exact h n hn
theorem take_snoc {α : Type} {l : List α} {i : Nat} {x : α} (h : l[i]? = some x) : l.take (i + 1) = l.take i ++ [x] := by
  rw [List.take_add_one, h]
  rfl
theorem int_at {L : List Int} {i : Nat} {x : V} (h : (L.map V.int)[i]? = some x) : ∃ n, L[i]? = some n ∧ x = .int n := by
  rw [List.getElem?_map] at h
  cases e : L[i]? with
  | none => rw [e] at h; simp at h
  | some n =>
    rw [e] at h
    exact ⟨n, rfl, (Option.some.inj h).symm⟩
section
variable {P : Program} {w : World} {K : PySem.W.Frag} {mg : Str → Option Value} {base : Heap}
/-! least_tree -/
abbrev s5 : Stmt := top 5
theorem sc5 : FnScope ["shape", "lot", "child", "parts", "part"] ["shape", "lot"] (defScope s5) := ⟨rfl, rfl, rfl, by decide +kernel, rfl, by decide +kernel, by decide +kernel⟩
def sp5 (K : PySem.W.Frag) (n : Nat) : Sp := fun vs H Q _ => ∃ v b t L, vs = [v, .ref b] ∧ Dt H v (enc t) ∧ Sq K H b (L.map V.int) ∧ L.length ≤ 1000 ∧ ok t ∧ (lv t).length ≤ n ∧ n ≤ 100 ∧
  ∀ H' v', Same H H' → Dt H' v' (enc (least t L)) → Q v' H'
theorem ok5_step {n : Nat} {f f1 f2 fu : Addr} {fd fd1 fd2 fdu : FuncData} (D : Df K mg "least_tree" s5 f fd ["shape", "lot"]) (D1 : Df K mg "is_leaf" s1 f1 fd1 ["tree"]) (DU : Df K mg "union_of" sU fu fdu ["lots"]) (D2 : Df K mg "parts_of" s2 f2 fd2 ["shape"]) (Z : Zs mg)
    (G : FnOk P w K mg base CX0 (n + 1) f fd ["shape", "lot"] (sp5 K n)) : FnOk P w K mg base CX0 (n + 2) f fd ["shape", "lot"] (sp5 K (n + 1)) := by
  have G1 : FnOk P w K mg base CX0 1 f1 fd1 ["tree"] sp1 := ok1 D1.F Z
  have G2 : FnOk P w K mg base CX0 (n + 1) f2 fd2 ["shape"] (sp2 n) := ok2 D2 D1 DU Z n
  refine D.F.ok sc5 (fun vs H Q E h => ?_) (fun cdv A outer s H vs Q E hr h => ?_)
  · obtain ⟨v, b, t, L, rfl, _⟩ := h
    rfl
  obtain ⟨v, b0, t, L, rfl, hd, hL, hLl, ho, hl, hn, q⟩ := h
  have hr1 : Room 1 _ := hr.mono (by omega)
  refine ⟨_, pss_cons (ps_if (pt_not (pt_truth (pe_call G1 hr1 rfl D1.g D1.F.kp D1.b .nil pass0 (pa_cons (pv 0) pa_nil)) (fun _ => rfl)))
      (pss_one (ps_for PassesOwn.never rfl (pi_tup (pe_ix ix_tup (pv 0) pe_int (fun _ _ => rfl))) (pg_name (i := 2) sc5.nd rfl (.inl rfl))
        (pss_cons (ps_set (i := 3) sc5.nd rfl (.inr rfl) (pe_call G2 hr rfl D2.g D2.F.kp D2.b .nil pass0 (pa_cons (pv 2) pa_nil)))
        (pss_one (ps_if (pt_truth (pe_callB (cr_all rfl) rfl Z.all (by decide +kernel) (pa_cons
          (pe_lc (own := [("part", 4)]) (g := gName 4) (tt := tYes) rfl sc5.nd (pi_seq (pv 1)) (blkOk_by (N := ["shape", "lot", "child", "parts", "part"]) (sc := defScope s5) (by decide +kernel))
            (fun _ _ _ _ _ => pg_name (i := 4) sc5.nd rfl (.inl rfl)) (fun _ _ _ _ _ => pts_nil) (fun _ _ _ _ _ => pe_cmpR (r := rIn K false) op_in_seq (pv 4) (pv 3) (by with_unfolding_all rfl))) pa_nil)) (fun _ => rfl))
          (pss_one (ps_ret (pe_call G hr rfl D.g D.F.kp D.b .nil pass0 (pa_cons (pv 2) (pa_cons (pv 1) pa_nil))))) pss_nil))))) pss_nil)
    (pss_one (ps_ret (pv 0))), ?_⟩
  cases t with
  | leaf m =>
    refine ⟨_, rfl, _, _, rfl, hd, true, rfl, ?_⟩
    refine iteF ?_
    refine ⟨_, rfl, ?_⟩
    refine q _ _ (Same.refl H) ?_
    rw [least]
    exact hd
  | knot k cs =>
    obtain ⟨a, b, xs, rfl, ha, hb, hx⟩ := dt_knot hd
    obtain ⟨_, hoc⟩ := ok_knot ho
    refine ⟨_, rfl, _, _, rfl, hd, false, rfl, ?_⟩
    refine iteT ?_
    refine ⟨_, rfl, a, _, 1, .ref b, rfl, rfl, SqT.of ha, rfl, b, rfl, ⟨_, SqT.of hb⟩, ?_⟩
    have hlx := hx.length
    rw [List.length_map] at hlx
    refine for_it (walk_tup (K := K) (xs := xs)) (fun i σ H' => ∃ y z, σ = [some (.ref a), some (.ref b0), y, z, none] ∧ Same H H' ∧ leasts cs L (.knot k cs) = leasts (cs.drop i) L (.knot k cs))
      ⟨none, none, rfl, Same.refl H, by simp⟩ (fun i σ H' _ ⟨_, _, _, sm, _⟩ => SqT.of (sm _ _ hb)) ?_ ?_
    · rintro i x σ H1 H2 hi ⟨y, z, rfl, sm, he⟩ ⟨rfl, hxi⟩
      obtain ⟨c, hci, hc, hdt⟩ := child_dt hx hxi
      have hlc := len_less ho hc
      have hdrop : cs.drop i = c :: cs.drop (i + 1) := by
        have h1 := (List.getElem?_eq_some_iff.mp hci)
        obtain ⟨h2, h3⟩ := h1
        rw [List.drop_eq_getElem_cons h2, h3]
      refine ⟨x, rfl, x, c, rfl, hdt.sm sm, hoc c hc, by omega, by omega, fun H3 p sm3 hp0 hpp => ?_⟩
      have s13 := sm.trans sm3
      refine ⟨_, rfl, b0, _, rfl, hL.sm s13, fun J Gd wk hG => fun dd hdd => ?_⟩
      rw [List.length_map] at wk
      refine lc_it wk (fun j H' => Same H3 H' ∧ H' dd = some (.lst (((L.take j).map fun n => decide (n ∈ parts c)).map V.bl))) ⟨same_upd hdd, upd_same⟩ (fun j H' _ ⟨s2, _⟩ => hG _ s2) ?_ ?_
      · rintro j u H4 H5 hj ⟨s4, hz⟩ ⟨rfl, hu⟩
        obtain ⟨m, hm, rfl⟩ := int_at hu
        refine ⟨rfl, ?_⟩
        refine iteT (B := True) ?_
        refine ⟨_, rfl, _, rfl, p, _, rfl, .inr (SqT.of (s4 _ _ hpp)), rfl, flat_ints _, _, hz, ?_, same_upd2 s4 hdd, ?_⟩
        · rw [List.length_map, List.length_map, List.length_take]
          exact Nat.lt_of_le_of_lt (Nat.min_le_right _ _) (small1000 hLl)
        · rw [upd_same, take_snoc hm]
          simp only [Bool.false_eq_true, if_false, in_ints, List.map_append, List.map_cons, List.map_nil]
      · rintro H4 ⟨s4, hz⟩
        rw [List.take_length] at hz
        refine ⟨dd, _, rfl, SqL.of hz, _, rfl, ?_⟩
        have key : (L.map fun n => decide (n ∈ parts c)).all id = true ↔ sub L (lv c) := by
          rw [all_ints]
          constructor
          · intro h m hm
            exact mem_parts.mp (of_decide_eq_true (h m hm))
          · intro h m hm
            exact decide_eq_true (mem_parts.mpr (h m hm))
        refine ite2 (fun hc2 => ?_) (fun hc2 => ?_)
        · have hs := key.mp hc2
          refine ⟨x, rfl, _, rfl, x, b0, c, L, rfl, hdt.sm (s13.trans s4), hL.sm (s13.trans s4), hLl, hoc c hc, by omega, by omega, fun H6 v' s6 hv' => ?_⟩
          refine q _ _ ((s13.trans s4).trans s6) ?_
          rw [least_knot, he, hdrop, leasts, if_pos hs]
          exact hv'
        · have hs : ¬ sub L (lv c) := fun h => hc2 (key.mpr h)
          refine ⟨_, _, rfl, s13.trans s4, ?_⟩
          rw [he, hdrop, leasts, if_neg hs]
    · rintro σ H1 ⟨y, z, rfl, sm, he⟩
      refine ⟨_, rfl, ?_⟩
      refine q _ _ sm ?_
      rw [least_knot, he, hlx, List.drop_length, leasts]
      exact hd.sm sm
theorem none5 {f : Addr} {fd : FuncData} : FnOk P w K mg base CX0 1 f fd ["shape", "lot"] (sp5 K 0) := by
  have no : ∀ vs H Q E, ¬ sp5 K 0 vs H Q E := fun vs H Q E h => by
    obtain ⟨v, b, t, L, _, _, _, _, ho, hl, _⟩ := h
    have := lv_ne t ho
    exact this (List.eq_nil_of_length_eq_zero (by omega))
  exact ⟨fun vs H Q E h => absurd h (no vs H Q E), fun A outer s H args us vs Q E _ _ _ _ h => absurd h (no vs H Q E)⟩
theorem ok5 {f f1 f2 fu : Addr} {fd fd1 fd2 fdu : FuncData} (D : Df K mg "least_tree" s5 f fd ["shape", "lot"]) (D1 : Df K mg "is_leaf" s1 f1 fd1 ["tree"]) (DU : Df K mg "union_of" sU fu fdu ["lots"]) (D2 : Df K mg "parts_of" s2 f2 fd2 ["shape"]) (Z : Zs mg) : ∀ n, FnOk P w K mg base CX0 (n + 1) f fd ["shape", "lot"] (sp5 K n)
  | 0 => none5
  | n + 1 => ok5_step D D1 DU D2 Z (ok5 D D1 DU D2 Z n)
end
end K24
namespace K24
open PySem PySem.Spec PyProof.Rows L2
def ixs (g : List Nat) : List Int := g.map fun (i : Nat) => (i : Int)
theorem any_ints (L : List Int) (p : Int → Bool) : (L.map p).any id = true ↔ ∃ n ∈ L, p n = true := by
  rw [List.any_eq_true]
  constructor
  · rintro ⟨b, hb, h⟩
    obtain ⟨n, hn, rfl⟩ := List.mem_map.mp hb
    exact ⟨n, hn, h⟩
  · rintro ⟨n, hn, h⟩
    exact ⟨_, List.mem_map.mpr ⟨n, hn, rfl⟩, h⟩
theorem any_meets (c : Tr) (L : List Int) : ((parts c).map fun n => decide (n ∈ L)).any id = meets c L := by
  rw [Bool.eq_iff_iff, any_ints, meets_iff]
  constructor
  · rintro ⟨n, hn, h⟩
    exact ⟨n, mem_parts.mp hn, of_decide_eq_true h⟩
  · rintro ⟨n, hn, h⟩
    exact ⟨n, mem_parts.mpr hn, decide_eq_true h⟩
theorem parts_len (t : Tr) : (parts t).length = (lv t).length := (srt_perm (lv t)).length_eq
section
variable {P : Program} {w : World} {K : PySem.W.Frag} {mg : Str → Option Value} {base : Heap}
/-! met_children -/
abbrev s6 : Stmt := top 6
theorem sc6 : FnScope ["knot", "lot", "met", "number", "child", "part"] ["knot", "lot"] (defScope s6) := ⟨rfl, rfl, rfl, by decide +kernel, rfl, by decide +kernel, by decide +kernel⟩
def sp6 (K : PySem.W.Frag) (n : Nat) : Sp := fun vs H Q _ => ∃ v b k cs L, vs = [v, .ref b] ∧ Dt H v (enc (.knot k cs)) ∧ Sq K H b (L.map V.int) ∧ ok (.knot k cs) ∧ (lv (.knot k cs)).length ≤ n ∧ n ≤ 100 ∧
  ∀ H' p, Same H H' → H p = none → H' p = some (.lst ((ixs (met cs L)).map V.int)) → Q (.ref p) H'
theorem met_take {cs : List Tr} {L : List Int} (i : Nat) : ((List.range (i + 1)).filter fun j => meets (child cs j) L) = ((List.range i).filter fun j => meets (child cs j) L) ++ (if meets (child cs i) L = true then [i] else []) := by
  rw [List.range_succ, List.filter_append]
  congr 1
  by_cases h : meets (child cs i) L = true
  · simp [h]
  · simp [h]
theorem ok6 {n : Nat} {f f1 f2 fu : Addr} {fd fd1 fd2 fdu : FuncData} (D : Df K mg "met_children" s6 f fd ["knot", "lot"]) (D1 : Df K mg "is_leaf" s1 f1 fd1 ["tree"]) (DU : Df K mg "union_of" sU fu fdu ["lots"]) (D2 : Df K mg "parts_of" s2 f2 fd2 ["shape"]) (Z : Zs mg) :
    FnOk P w K mg base CX0 (n + 2) f fd ["knot", "lot"] (sp6 K n) := by
  have G2 : FnOk P w K mg base CX0 (n + 1) f2 fd2 ["shape"] (sp2 n) := ok2 D2 D1 DU Z n
  refine D.F.ok sc6 (fun vs H Q E h => ?_) (fun cdv A outer s H vs Q E hr h => ?_)
  · obtain ⟨v, b, k, cs, L, rfl, _⟩ := h
    rfl
  obtain ⟨v, b0, k, cs, L, rfl, hd, hL, ho, hl, hn, q⟩ := h
  refine ⟨_, pss_cons (ps_set (i := 2) sc6.nd rfl (.inl rfl) (pe_lst pa_nil))
    (pss_cons (ps_for PassesOwn.never rfl (pi_enumT rfl Z.enum (pa_cons (pe_ix ix_tup (pv 0) pe_int (fun _ _ => rfl)) pa_nil)) (pg_tup rfl (pgs_cons (pg_name (i := 3) sc6.nd rfl (.inl rfl)) (pgs_cons (pg_name (i := 4) sc6.nd rfl (.inl rfl)) pgs_nil)))
      (pss_one (ps_if (pt_truth (pe_callB (cr_any rfl) rfl Z.any (by decide +kernel) (pa_cons
          (pe_lc (own := [("part", 5)]) (g := gName 5) (tt := tYes) rfl sc6.nd (pi_tup (pe_call G2 hr rfl D2.g D2.F.kp D2.b .nil pass0 (pa_cons (pv 4) pa_nil))) (blkOk_by (N := ["knot", "lot", "met", "number", "child", "part"]) (sc := defScope s6) (by decide +kernel))
            (fun _ _ _ _ _ => pg_name (i := 5) sc6.nd rfl (.inl rfl)) (fun _ _ _ _ _ => pts_nil) (fun _ _ _ _ _ => pe_cmpR (r := rIn K false) op_in_seq (pv 5) (pv 1) (by with_unfolding_all rfl))) pa_nil)) (fun _ => rfl))
        (pss_one (ps_expr (pe_bm PySem.F.plainAttrs_list PySem.F.slot_list_append PySem.F.type_list_append mt_append (pv 2) (pa_cons (pv 3) pa_nil)))) pss_nil)))
    (pss_one (ps_ret (pv 2)))), ?_⟩
  obtain ⟨a, b, xs, rfl, ha, hb, hx⟩ := dt_knot hd
  obtain ⟨_, hoc⟩ := ok_knot ho
  refine ⟨Nat.zero_le _, fun l hl' => ?_⟩
  have s0 : Same H (upd H l (.lst [])) := same_upd hl'
  refine ⟨_, rfl, a, _, 1, .ref b, rfl, rfl, SqT.of (s0 _ _ ha), rfl, b, xs, rfl, SqT.of (s0 _ _ hb), ?_⟩
  have hlx := hx.length
  rw [List.length_map] at hlx
  have hcl := cs_len hoc
  rw [lv_knot] at hl
  refine for_it (walk_enumT (K := K) (xs := xs)) (fun i σ H' => ∃ y z, σ = [some (.ref a), some (.ref b0), some (.ref l), y, z, none] ∧ Same H H' ∧ H' l = some (.lst ((ixs ((List.range i).filter fun j => meets (child cs j) L)).map V.int)))
    ⟨none, none, rfl, s0, upd_same⟩ (fun i σ H' _ ⟨_, _, _, sm, _⟩ => SqT.of (sm _ _ hb)) ?_ ?_
  · rintro i x σ H1 H2 hi ⟨y, z, rfl, sm, hz⟩ ⟨T, x1, x2, rfl, hT, rfl, e1, e2⟩
    have e1' : V.int (i : Nat) = x1 := Option.some.inj e1
    subst e1'
    obtain ⟨c, hci, hc, hdt⟩ := child_dt hx e2
    have hlc := len_child hc
    have smT : Same H1 (upd H1 T (.tup [.int (i : Nat), x2])) := same_upd hT
    have sA := sm.trans smT
    refine ⟨T, _, rfl, .inl (.inl upd_same), rfl, _, [x2], rfl, x2, [], rfl, rfl, ?_⟩
    refine ⟨x2, rfl, x2, c, rfl, hdt.sm sA, hoc c hc, by omega, hn, fun H3 p sm3 hp0 hpp => ?_⟩
    refine ⟨p, rfl, ⟨_, SqT.of hpp⟩, fun dd hdd => ?_⟩
    have s13 := sA.trans sm3
    refine lc_it (walk_tup (K := K) (xs := (parts c).map V.int)) (fun j H' => Same H3 H' ∧ H' dd = some (.lst ((((parts c).take j).map fun n => decide (n ∈ L)).map V.bl))) ⟨same_upd hdd, upd_same⟩ (fun j H' _ ⟨s2, _⟩ => SqT.of (s2 _ _ hpp)) ?_ ?_
    · rintro j u H4 H5 hj ⟨s4, hz4⟩ ⟨rfl, hu⟩
      obtain ⟨m, hm, rfl⟩ := int_at hu
      refine ⟨rfl, ?_⟩
      refine iteT (B := True) ?_
      refine ⟨_, rfl, _, rfl, b0, _, rfl, hL.sm (s13.trans s4), rfl, flat_ints _, _, hz4, ?_, same_upd2 s4 hdd, ?_⟩
      · rw [List.length_map, List.length_map, List.length_take, parts_len]
        exact Nat.lt_of_le_of_lt (Nat.min_le_right _ _) (small1000 (by omega))
      · rw [upd_same, take_snoc hm]
        simp only [Bool.false_eq_true, if_false, in_ints, List.map_append, List.map_cons, List.map_nil]
    · rintro H4 ⟨s4, hz4⟩
      rw [List.length_map, List.take_length] at hz4
      refine ⟨dd, _, rfl, SqL.of hz4, _, rfl, ?_⟩
      rw [any_meets]
      have hci' : child cs i = c := child_of hci
      have hl4 : H4 l = some (.lst ((ixs ((List.range i).filter fun j => meets (child cs j) L)).map V.int)) := s4 _ _ (sm3 _ _ (smT _ _ hz))
      refine ite2 (fun hm => ?_) (fun hm => ?_)
      · refine ⟨_, rfl, .inl ⟨rfl, _, SqL.of hl4⟩, _, rfl, l, _, _, rfl, rfl, hl4, ?_, ?_⟩
        · rw [List.length_map, ixs, List.length_map]
          have := List.length_filter_le (fun j => meets (child cs j) L) (List.range i)
          rw [List.length_range] at this
          exact small1000 (by omega)
        · refine ⟨_, _, rfl, same_upd2 (s13.trans s4) hl', ?_⟩
          rw [upd_same, met_take, hci', if_pos hm]
          simp [ixs]
      · refine ⟨_, _, rfl, s13.trans s4, ?_⟩
        rw [hl4, met_take, hci', if_neg hm, List.append_nil]
  · rintro σ H1 ⟨y, z, rfl, sm, hz⟩
    refine ⟨_, rfl, ?_⟩
    refine q _ l sm hl' ?_
    rw [hz, hlx]
    rfl
/-! joined_parts -/
abbrev s8 : Stmt := top 8
theorem sc8 : FnScope ["knot", "numbers", "number"] ["knot", "numbers"] (defScope s8) := ⟨rfl, rfl, rfl, by decide +kernel, rfl, by decide +kernel, by decide +kernel⟩
def sp8 (K : PySem.W.Frag) (n : Nat) : Sp := fun vs H Q _ => ∃ v b k cs g, vs = [v, .ref b] ∧ Dt H v (enc (.knot k cs)) ∧ SqL K H b ((ixs g).map V.int) ∧ (∀ i ∈ g, i < cs.length) ∧ g.length ≤ 1000 ∧ ok (.knot k cs) ∧ (lv (.knot k cs)).length ≤ n ∧ n ≤ 100 ∧
  ∀ H' p, Same H H' → H p = none → H' p = some (.tup ((joined cs g).map V.int)) → Q (.ref p) H'
theorem flat_perm2 (cs : List Tr) : ∀ g : List Nat, ((g.map fun i => parts (child cs i)).flatten).Perm (g.flatMap fun i => lv (child cs i))
  | [] => by simp
  | i :: g => by
    rw [List.map_cons, List.flatten_cons, List.flatMap_cons]
    exact (srt_perm _).append (flat_perm2 cs g)
theorem flat_len {cs : List Tr} {n : Nat} (hb : ∀ c ∈ cs, (lv c).length ≤ n) : ∀ {g : List Nat}, (∀ i ∈ g, i < cs.length) → (g.flatMap fun i => lv (child cs i)).length ≤ n * g.length
  | [], _ => by simp
  | i :: g, h => by
    have h1 := flat_len hb (g := g) fun j hj => h j (List.mem_cons_of_mem _ hj)
    have h2 := hb _ (child_mem (h i List.mem_cons_self))
    rw [List.flatMap_cons, List.length_append, List.length_cons, Nat.mul_add]
    omega
theorem ok8 {n : Nat} {f f1 f2 fu : Addr} {fd fd1 fd2 fdu : FuncData} (D : Df K mg "joined_parts" s8 f fd ["knot", "numbers"]) (D1 : Df K mg "is_leaf" s1 f1 fd1 ["tree"]) (DU : Df K mg "union_of" sU fu fdu ["lots"]) (D2 : Df K mg "parts_of" s2 f2 fd2 ["shape"]) (Z : Zs mg) :
    FnOk P w K mg base CX0 (n + 2) f fd ["knot", "numbers"] (sp8 K n) := by
  have G2 : FnOk P w K mg base CX0 (n + 1) f2 fd2 ["shape"] (sp2 n) := ok2 D2 D1 DU Z n
  refine D.F.ok sc8 (fun vs H Q E h => ?_) (fun cdv A outer s H vs Q E hr h => ?_)
  · obtain ⟨v, b, k, cs, g, rfl, _⟩ := h
    rfl
  obtain ⟨v, b0, k, cs, g, rfl, hd, hg, hb', hgl, ho, hl, hn, q⟩ := h
  have GU : FnOk P w K mg base CX0 1 fu fdu ["lots"] (spU K) := okU DU Z
  have hr1 : Room 1 _ := hr.mono (by omega)
  refine ⟨_, pss_one (ps_ret (pe_call GU hr1 rfl DU.g DU.F.kp DU.b .nil pass0 (pa_cons
      (pe_lc (own := [("number", 2)]) (g := gName 2) (tt := tYes) rfl sc8.nd (pi_list (pv 1)) (blkOk_by (N := ["knot", "numbers", "number"]) (sc := defScope s8) (by decide +kernel))
        (fun _ _ _ _ _ => pg_name (i := 2) sc8.nd rfl (.inl rfl)) (fun _ _ _ _ _ => pts_nil) (fun _ _ _ _ _ => pe_call G2 hr rfl D2.g D2.F.kp D2.b .nil pass0 (pa_cons
          (pe_ix (r := rIxT K) ix_tup (pe_ix (r := rIxT K) ix_tup (pv 0) pe_int (fun _ _ => rfl)) (pv 2) (fun _ _ => rfl)) pa_nil))) pa_nil))), ?_⟩
  obtain ⟨a, b, xs, rfl, ha, hb, hx⟩ := dt_knot hd
  obtain ⟨_, hoc⟩ := ok_knot ho
  have hlx := hx.length
  rw [List.length_map] at hlx
  rw [lv_knot] at hl
  have hgx : (ixs g).length = g.length := by rw [ixs, List.length_map]
  refine ⟨_, rfl, b0, rfl, ⟨_, hg⟩, fun dd hdd => ?_⟩
  refine lc_it (walk_list (K := K) (xs := (ixs g).map V.int)) (fun i H' => Same H H' ∧ ∃ zs, H' dd = some (.lst zs) ∧ Dts H' zs (((g.take i).map fun j => parts (child cs j)).map lotD)) ⟨same_upd hdd, [], upd_same, by simpa using Dts.nil⟩
    (fun i H' _ ⟨s2, _⟩ => s2.seq hg) ?_ ?_
  · rintro i x H2 H3 hi ⟨sm2, zs, hz, hzs⟩ ⟨rfl, hxi⟩
    obtain ⟨m, hm, rfl⟩ := int_at hxi
    rw [ixs, List.getElem?_map] at hm
    cases hj : g[i]? with
    | none => rw [hj] at hm; simp at hm
    | some j =>
      rw [hj] at hm
      obtain rfl : ((j : Nat) : Int) = m := Option.some.inj hm
      have hjg : j ∈ g := List.mem_of_getElem? hj
      have hjl := hb' j hjg
      have hxj : ∃ u, xs[j]? = some u := ⟨_, List.getElem?_eq_getElem (by omega)⟩
      obtain ⟨u, hu⟩ := hxj
      obtain ⟨c, hci, hc, hdt⟩ := child_dt hx hu
      have hlc := len_child hc
      have hcj : child cs j = c := child_of hci
      refine ⟨rfl, ?_⟩
      refine iteT (B := True) ?_
      refine ⟨_, rfl, a, _, 1, .ref b, rfl, rfl, SqT.of (sm2 _ _ ha), rfl, _, rfl, b, xs, j, u, rfl, rfl, SqT.of (sm2 _ _ hb), atI_nat hu, u, c, rfl, hdt.sm sm2, hoc c hc, by omega, hn, fun H4 p4 sm4 h40 h4 => ?_⟩
      refine ⟨zs, sm4 _ _ hz, ?_, same_upd2 (sm2.trans sm4) hdd, zs ++ [.ref p4], upd_same, ?_⟩
      · have := hzs.length
        rw [List.length_map, List.length_map, List.length_take] at this
        exact line_lt (by omega)
      · rw [take_snoc hj]
        simp only [List.map_append, List.map_cons, List.map_nil, hcj]
        exact ((hzs.sm sm4).app (.one (dt_lot_mk h4))).kp (kp_mask (sm4 _ _ hz))
  · rintro H2 ⟨sm2, zs, hz, hzs⟩
    rw [List.length_map, hgx, List.take_length] at hzs
    have fl := (flat_perm2 cs g).length_eq
    have h2 := flat_len (cs := cs) (n := n) (fun d hd => by have := len_child hd; omega) hb'
    have h4 : n * g.length ≤ 100 * 1000 := Nat.mul_le_mul hn hgl
    refine ⟨dd, zs, g.map fun j => parts (child cs j), rfl, SqL.of hz, hzs, by omega, fun H4 p4 sm4 h40 h4 => ?_⟩
    refine q _ p4 (sm2.trans sm4) (sm2.free h40) ?_
    rw [h4, srt_congr (flat_perm2 cs g)]
    rfl
end
end K24
namespace K24
open PySem PySem.Spec PyProof.Rows L2
theorem itT {c A B : Prop} [Decidable c] (h : c) (a : A) : if c then A else B := by
  rw [if_pos h]
  exact a
theorem itF {c A B : Prop} [Decidable c] (h : ¬ c) (b : B) : if c then A else B := by
  rw [if_neg h]
  exact b
theorem ixs_get {g : List Nat} {i j : Nat} (h : g[i]? = some j) : ((ixs g).map V.int)[i]? = some (.int (j : Nat)) := by
  rw [ixs, List.map_map, List.getElem?_map, h]
  rfl
theorem at_hd {g : List Nat} (h : g ≠ []) : atI ((ixs g).map V.int) 0 = some (.int (hd g : Nat)) := by
  match g, h with
  | i :: g, _ => exact atI_nat (j := 0) rfl
theorem lst_get : ∀ {g : List Nat}, g ≠ [] → g[g.length - 1]? = some (lst g)
  | [], h => absurd rfl h
  | [i], _ => rfl
  | i :: j :: g, _ => by
    rw [lst_cons]
    have := lst_get (g := j :: g) (by simp)
    simpa using this
theorem at_lst {g : List Nat} (h : g ≠ []) : atI ((ixs g).map V.int) (-1) = some (.int (lst g : Nat)) := by
  have h1 := ixs_get (lst_get h)
  have hl : ((ixs g).map V.int).length = g.length := by rw [List.length_map, ixs, List.length_map]
  have h0 : 0 < g.length := List.length_pos_iff.mpr h
  unfold atI ixN
  rw [hl, if_neg (by omega), if_pos (by omega)]
  show ((ixs g).map V.int)[(-1 + (g.length : Int)).toNat]? = _
  rw [show (-1 + (g.length : Int)).toNat = g.length - 1 by omega]
  exact h1
theorem rg_range (n : Nat) : rgV 0 (n : Int) = (ixs (List.range n)).map V.int := by
  unfold rgV ixs
  rw [List.map_map, show ((n : Int) - 0).toNat = n by omega]
  exact List.map_congr_left fun i _ => by simp
theorem rg_stretch (a b : Nat) : rgV (a : Int) ((b : Int) + 1) = (ixs (stretch a b)).map V.int := by
  unfold rgV ixs stretch
  rw [List.map_map, List.map_map, show ((b : Int) + 1 - (a : Int)).toNat = b + 1 - a by omega]
  exact List.map_congr_left fun i _ => by simp
theorem str_ne {a b : Str} (h : a ≠ b) : ¬ decide (V.str a = V.str b) = true := by
  intro q
  have := of_decide_eq_true q
  injection this with e
  exact h e
theorem str_eq {a b : Str} (h : a = b) : decide (V.str a = V.str b) = true := decide_eq_true (by rw [h])
theorem bare_ne : kname .line ≠ "bare" ∧ kname .free ≠ "bare" ∧ kname .free ≠ "line" ∧ kname .bare ≠ "free" ∧ kname .line ≠ "free" := by decide +kernel
/-- what is told of the least tree -/
theorem least_spec : ∀ t : Tr, Wf t → ∀ L : List Int, L ≠ [] → sub L (lv t) → Wf (least t L) ∧ (lv (least t L)).length ≤ (lv t).length ∧ ∀ k cs, least t L = .knot k cs → 1 < (met cs L).length := Tr.ind (fun n w L _ _ => by
    rw [least]
    exact ⟨w, Nat.le_refl _, fun k cs e => by cases e⟩) fun k cs ih w L h0 hs => by
  by_cases q : ∃ c ∈ cs, sub L (lv c)
  · obtain ⟨c, hc, hsc⟩ := q
    rw [least_in w h0 hc hsc]
    obtain ⟨h1, h2, h3⟩ := ih c hc (w.child hc) L h0 hsc
    refine ⟨h1, ?_, h3⟩
    have := len_child hc
    rw [lv_knot]
    omega
  · have no : ∀ c ∈ cs, ¬ sub L (lv c) := fun c hc h => q ⟨c, hc, h⟩
    rw [least_own no]
    refine ⟨w, Nat.le_refl _, fun k' cs' e => ?_⟩
    cases e
    exact met_two h0 hs no
theorem least_inn : ∀ t : Tr, Wf t → ∀ L ∈ inn t, ∀ k cs, least t L = .knot k cs → met cs L ∈ groups k cs.length := Tr.ind (fun n w L _ k cs e => by
    rw [least] at e
    cases e) fun k cs ih w L hL k' cs' e => by
  rcases mem_inn.mp hL with ⟨c, hc, h⟩ | ⟨g, hg, rfl⟩
  · obtain ⟨h0, hs, _⟩ := inn_lot c (w.child hc) L h
    rw [least_in w h0 hc hs] at e
    exact ih c hc (w.child hc) L h k' cs' e
  · have G := grp_of w.two hg
    rw [least_own (grp_no w G)] at e
    cases e
    rw [met_joined w G.sn G.lt]
    exact hg
theorem last_room {k : Kd} {n : Nat} {g : List Nat} (hn : 2 ≤ n) (hg : g ∈ groups k n) (hk : k ≠ .free) (ho : others n g ≠ []) (h0 : ¬ 0 < hd g) : lst g + 1 < n := by
  have G := grp_of hn hg
  obtain ⟨hb1, hb2⟩ := mem_others.mp (hd_mem ho)
  match k, hg, hk, G with
  | .bare, hg, _, G => exact absurd ((others_nil G).mpr (by simpa [groups] using hg)) ho
  | .line, hg, _, G =>
    have hx : ¬ hd (others n g) ≤ lst g := fun h => hb2 (by
      have hm : hd (others n g) ∈ filled .line n g := mem_stretch.mpr ⟨by omega, h⟩
      rw [G.fill] at hm
      exact hm)
    omega
theorem sn_others (n : Nat) (g : List Nat) : SN (others n g) := (sn_range n).filter _
/-! == of lots -/
theorem eqv_ints : ∀ a b : List Int, PyData.eqvAll (a.map PyData.int) (b.map PyData.int) = decide (a = b)
  | [], [] => by simp [PyData.eqvAll]
  | [], y :: b => by simp [PyData.eqvAll]
  | x :: a, [] => by simp [PyData.eqvAll]
  | x :: a, y :: b => by
    have ih := eqv_ints a b
    simp only [List.map_cons, PyData.eqvAll, PyData.eqv, ih]
    by_cases h : x = y <;> by_cases h2 : a = b <;> simp [h, h2]
theorem eqv_lot (a b : List Int) : PyData.eqv (lotD a) (lotD b) = decide (a = b) := by
  unfold lotD
  rw [PyData.eqv, eqv_ints]
theorem lay_ints : ∀ a : List Int, PyData.canLayAll0 (a.map PyData.int) = true
  | [] => by simp [PyData.canLayAll0]
  | x :: a => by simp [PyData.canLayAll0, PyData.canLay0, lay_ints a]
theorem dep_ints : ∀ a : List Int, PyData.depthAll (a.map PyData.int) = 0
  | [] => by simp [PyData.depthAll]
  | x :: a => by simp [PyData.depthAll, PyData.depth, dep_ints a]
theorem shaped_lot (a : List Int) : SeqAt.shaped (lotD a) = true := by
  show ((lotD a).canLay0 && decide ((lotD a).depth ≤ 64)) = true
  unfold lotD
  rw [Bool.and_eq_true]
  refine ⟨by rw [PyData.canLay0]; exact lay_ints a, decide_eq_true ?_⟩
  rw [PyData.depth, dep_ints]
  decide
theorem dp_ints {K : PySem.W.Frag} {H : Hp} : ∀ L : List Int, DpAll K H (L.map V.int) (L.map PyData.int)
  | [] => .nil
  | n :: L => .cons (.int n) (dp_ints L)
section
variable {P : Program} {w : World} {K : PySem.W.Frag} {mg : Str → Option Value} {base : Heap}
/-! filled_children -/
abbrev s7 : Stmt := top 7
theorem sc7 : FnScope ["knot", "numbers"] ["knot", "numbers"] (defScope s7) := ⟨rfl, rfl, rfl, by decide +kernel, rfl, by decide +kernel, by decide +kernel⟩
def sp7 (K : PySem.W.Frag) : Sp := fun vs H Q _ => ∃ v b k cs g, vs = [v, .ref b] ∧ Dt H v (enc (.knot k cs)) ∧ SqL K H b ((ixs g).map V.int) ∧ g ≠ [] ∧ (∀ i ∈ g, i < cs.length) ∧ cs.length ≤ 1000 ∧
  ∀ H' p, Same H H' → H p = none → H' p = some (.lst ((ixs (filled k cs.length g)).map V.int)) → Q (.ref p) H'
theorem ok7 {f : Addr} {fd : FuncData} (D : Df K mg "filled_children" s7 f fd ["knot", "numbers"]) (Z : Zs mg) : FnOk P w K mg base CX0 1 f fd ["knot", "numbers"] (sp7 K) := by
  refine D.F.ok sc7 (fun vs H Q E h => ?_) (fun cdv A outer s H vs Q E hr h => ?_)
  · obtain ⟨v, b, k, cs, g, rfl, _⟩ := h
    rfl
  obtain ⟨v, b0, k, cs, g, rfl, hd0, hg, hg0, hb', hcl, q⟩ := h
  refine ⟨_, pss_cons (ps_if (pt_cmpR op_eq (pe_ix ix_tup (pv 0) pe_int (fun _ _ => rfl)) pe_str (nomark _))
      (pss_one (ps_ret (pe_listRg rfl rfl Z.lst (prg_1 rfl Z.rng (pe_callB call_len_seq rfl Z.len PySem.boot_len (pa_cons (pe_ix ix_tup (pv 0) pe_int (fun _ _ => rfl)) pa_nil)))))) pss_nil)
    (pss_cons (ps_if (pt_cmpR op_eq (pe_ix ix_tup (pv 0) pe_int (fun _ _ => rfl)) pe_str (nomark _))
      (pss_one (ps_ret (pe_listRg rfl rfl Z.lst (prg_2 rfl Z.rng (pe_ix ix_list (pv 1) pe_int (fun _ _ => rfl)) (pe_op op_add (pe_ix ix_list (pv 1) (pe_un un_neg pe_int) (fun _ _ => rfl)) pe_int))))) pss_nil)
    (pss_one (ps_ret (pe_callTy call_list_of rfl Z.lst (by decide +kernel) (pa_cons (pv 1) pa_nil))))), ?_⟩
  obtain ⟨a, b, xs, rfl, ha, hb, hx⟩ := dt_knot hd0
  have hlx := hx.length
  rw [List.length_map] at hlx
  obtain ⟨n1, n2, n3, n4, n5⟩ := bare_ne
  refine ⟨_, rfl, a, _, 0, .str (kname k), rfl, rfl, SqT.of ha, rfl, rfl, _, rfl, ?_⟩
  have hlast := hb' _ (lst_mem hg0)
  match k, ha, q with
  | .bare, ha, q =>
    refine itT (str_eq rfl) ?_
    refine ⟨_, rfl, a, _, 1, .ref b, rfl, rfl, SqT.of ha, rfl, b, xs, rfl, .inr (SqT.of hb), _, rfl, RgOk.of_le (by omega) (by rw [hlx]; omega) (by omega) (by omega), fun p hp => ?_⟩
    refine q _ p (same_upd hp) hp ?_
    rw [upd_same, hlx, rg_range]
    rfl
  | .line, ha, q =>
    refine itF (str_ne n1) ?_
    refine ⟨_, rfl, a, _, 0, .str (kname .line), rfl, rfl, SqT.of ha, rfl, rfl, _, rfl, ?_⟩
    refine itT (str_eq rfl) ?_
    refine ⟨_, rfl, b0, _, 0, _, rfl, rfl, hg, at_hd hg0, _, rfl, 1, rfl, b0, _, -1, _, rfl, rfl, hg, at_lst hg0, _, _, rfl, rfl, _, _, rfl, rfl, RgOk.of_le (by omega) (by omega) ?_ (by omega), fun p hp => ?_⟩
    · have := hb' _ (hd_mem hg0)
      omega
    · refine q _ p (same_upd hp) hp ?_
      rw [upd_same, rg_stretch]
      rfl
  | .free, ha, q =>
    refine itF (str_ne n2) ?_
    refine ⟨_, rfl, a, _, 0, .str (kname .free), rfl, rfl, SqT.of ha, rfl, rfl, _, rfl, ?_⟩
    refine itF (str_ne n3) ?_
    refine ⟨_, rfl, b0, _, rfl, .inl hg, fun p hp => ?_⟩
    exact q _ p (same_upd hp) hp upd_same
/-! inner_hull -/
abbrev s9 : Stmt := top 9
theorem sc9 : FnScope ["shape", "lot", "tree"] ["shape", "lot"] (defScope s9) := ⟨rfl, rfl, rfl, by decide +kernel, rfl, by decide +kernel, by decide +kernel⟩
def sp9 (K : PySem.W.Frag) (n : Nat) : Sp := fun vs H Q _ => ∃ v b t L, vs = [v, .ref b] ∧ Dt H v (enc t) ∧ Sq K H b (L.map V.int) ∧ L.length ≤ 1000 ∧ Wf t ∧ L ≠ [] ∧ sub L (lv t) ∧ (lv t).length ≤ n ∧ n ≤ 100 ∧
  ∀ H' p, Same H H' → H p = none → H' p = some (.tup ((hull t L).map V.int)) → Q (.ref p) H'
structure Ps (K : PySem.W.Frag) (mg : Str → Option Value) (a : Nat → Addr) (d : Nat → FuncData) : Prop where
  Z : Zs mg
  du : Df K mg "union_of" sU (a 29) (d 29) ["lots"]
  d1 : Df K mg "is_leaf" (top 1) (a 1) (d 1) ["tree"]
  d2 : Df K mg "parts_of" (top 2) (a 2) (d 2) ["shape"]
  d3 : Df K mg "trees_of" (top 3) (a 3) (d 3) ["shape"]
  d4 : Df K mg "strong_lots" (top 4) (a 4) (d 4) ["shape"]
  d5 : Df K mg "least_tree" (top 5) (a 5) (d 5) ["shape", "lot"]
  d6 : Df K mg "met_children" (top 6) (a 6) (d 6) ["knot", "lot"]
  d7 : Df K mg "filled_children" (top 7) (a 7) (d 7) ["knot", "numbers"]
  d8 : Df K mg "joined_parts" (top 8) (a 8) (d 8) ["knot", "numbers"]
  d9 : Df K mg "inner_hull" (top 9) (a 9) (d 9) ["shape", "lot"]
  d10 : Df K mg "is_inner" (top 10) (a 10) (d 10) ["shape", "lot"]
  d11 : Df K mg "lot_place" (top 11) (a 11) (d 11) ["shape", "lot"]
  d12 : Df K mg "crossing_lot" (top 12) (a 12) (d 12) ["shape", "lot"]
variable {a : Nat → Addr} {d : Nat → FuncData}
theorem ok9 (n : Nat) (T : Ps K mg a d) : FnOk P w K mg base CX0 (n + 3) (a 9) (d 9) ["shape", "lot"] (sp9 K n) := by
  have G1 : FnOk P w K mg base CX0 1 (a 1) (d 1) ["tree"] sp1 := ok1 T.d1.F T.Z
  have G2 : FnOk P w K mg base CX0 (n + 1) (a 2) (d 2) ["shape"] (sp2 n) := ok2 T.d2 T.d1 T.du T.Z n
  have G5 : FnOk P w K mg base CX0 (n + 1) (a 5) (d 5) ["shape", "lot"] (sp5 K n) := ok5 T.d5 T.d1 T.du T.d2 T.Z n
  have G6 : FnOk P w K mg base CX0 (n + 2) (a 6) (d 6) ["knot", "lot"] (sp6 K n) := ok6 T.d6 T.d1 T.du T.d2 T.Z
  have G7 : FnOk P w K mg base CX0 1 (a 7) (d 7) ["knot", "numbers"] (sp7 K) := ok7 T.d7 T.Z
  have G8 : FnOk P w K mg base CX0 (n + 2) (a 8) (d 8) ["knot", "numbers"] (sp8 K n) := ok8 T.d8 T.d1 T.du T.d2 T.Z
  refine T.d9.F.ok sc9 (fun vs H Q E h => ?_) (fun cdv A outer s H vs Q E hr h => ?_)
  · obtain ⟨v, b, t, L, rfl, _⟩ := h
    rfl
  obtain ⟨v, b0, t, L, rfl, hd0, hL, hLl, wf, h0, hs, hl, hn, q⟩ := h
  have hr1 : Room 1 _ := hr.mono (by omega)
  have hr2 : Room (n + 1) _ := hr.mono (by omega)
  refine ⟨_, pss_cons (ps_set (i := 2) sc9.nd rfl (.inl rfl) (pe_call G5 hr2 rfl T.d5.g T.d5.F.kp T.d5.b .nil pass0 (pa_cons (pv 0) (pa_cons (pv 1) pa_nil))))
    (pss_cons (ps_if (pt_truth (pe_call G1 hr1 rfl T.d1.g T.d1.F.kp T.d1.b .nil pass0 (pa_cons (pv 2) pa_nil)) (fun _ => rfl)) (pss_one (ps_ret (pe_call G2 hr2 rfl T.d2.g T.d2.F.kp T.d2.b .nil pass0 (pa_cons (pv 2) pa_nil)))) pss_nil)
    (pss_one (ps_ret (pe_call G8 hr rfl T.d8.g T.d8.F.kp T.d8.b .nil pass0 (pa_cons (pv 2) (pa_cons
      (pe_call G7 hr1 rfl T.d7.g T.d7.F.kp T.d7.b .nil pass0 (pa_cons (pv 2) (pa_cons (pe_call G6 hr rfl T.d6.g T.d6.F.kp T.d6.b .nil pass0 (pa_cons (pv 2) (pa_cons (pv 1) pa_nil))) pa_nil))) pa_nil)))))), ?_⟩
  obtain ⟨wl, ll, lm⟩ := least_spec t wf L h0 hs
  refine ⟨_, rfl, _, rfl, v, b0, t, L, rfl, hd0, hL, hLl, wf.ok, hl, hn, fun H1 v1 sm hv1 => ?_⟩
  cases hT : least t L with
  | leaf m =>
    rw [hT] at hv1
    refine ⟨_, rfl, _, _, rfl, hv1, true, rfl, ?_⟩
    refine iteT ?_
    refine ⟨_, rfl, v1, .leaf m, rfl, hv1, trivial, by rw [hT] at ll; omega, hn, fun H2 p s2 hp0 hp => ?_⟩
    refine q _ p (sm.trans s2) (sm.free hp0) ?_
    rw [hp]
    unfold hull
    rw [hT]
    rfl
  | knot k cs =>
    rw [hT] at hv1 wl ll
    have h2 := lm k cs hT
    refine ⟨_, rfl, _, _, rfl, hv1, false, rfl, ?_⟩
    refine iteF ?_
    have hl2 : (lv (.knot k cs)).length ≤ n := by omega
    have hcl := cs_len (ok_knot wl.ok).2
    rw [lv_knot] at hl2
    refine ⟨_, rfl, _, rfl, _, rfl, _, rfl, v1, b0, k, cs, L, rfl, hv1, hL.sm sm, wl.ok, by rw [lv_knot]; exact hl2, hn, fun H2 p s2 hp0 hp => ?_⟩
    have g0 : met cs L ≠ [] := by intro e; rw [e] at h2; simp at h2
    refine ⟨v1, p, k, cs, met cs L, rfl, hv1.sm s2, SqL.of hp, g0, met_lt, by omega, fun H3 p3 s3 hp30 hp3 => ?_⟩
    have hf := filled_grp (k := k) (sn_met cs L) met_lt h2
    have G := grp_of wl.two hf
    have hfl : (filled k cs.length (met cs L)).length ≤ cs.length := by
      have q2 := nd_sub_len (a := ixs (filled k cs.length (met cs L))) (b := ixs (List.range cs.length)) ?_ ?_
      · simpa [ixs] using q2
      · unfold ixs
        exact List.pairwise_map.mpr ((sn_nd G.sn).imp fun h e => h (by omega))
      · intro x hx
        unfold ixs at hx ⊢
        obtain ⟨i, hi, rfl⟩ := List.mem_map.mp hx
        exact List.mem_map.mpr ⟨i, List.mem_range.mpr (G.lt i hi), rfl⟩
    refine ⟨v1, p3, k, cs, _, rfl, (hv1.sm s2).sm s3, SqL.of hp3, G.lt, by omega, wl.ok, by rw [lv_knot]; exact hl2, hn, fun H4 p4 s4 hp40 hp4 => ?_⟩
    refine q _ p4 (sm.trans (s2.trans (s3.trans s4))) (sm.free (s2.free (s3.free hp40))) ?_
    rw [hp4]
    unfold hull
    rw [hT]
/-! is_inner -/
abbrev s10 : Stmt := top 10
theorem sc10 : FnScope ["shape", "lot"] ["shape", "lot"] (defScope s10) := ⟨rfl, rfl, rfl, by decide +kernel, rfl, by decide +kernel, by decide +kernel⟩
def sp10 (K : PySem.W.Frag) (n : Nat) : Sp := fun vs H Q _ => ∃ v b t L, vs = [v, .ref b] ∧ Dt H v (enc t) ∧ Sq K H b (L.map V.int) ∧ L.length ≤ 1000 ∧ Wf t ∧ L ≠ [] ∧ sub L (lv t) ∧ (lv t).length ≤ n ∧ n ≤ 100 ∧
  ∀ H', Same H H' → Q (.bl (decide (hull t L = L))) H'
theorem ok10 (n : Nat) (T : Ps K mg a d) : FnOk P w K mg base CX0 (n + 4) (a 10) (d 10) ["shape", "lot"] (sp10 K n) := by
  have G9 : FnOk P w K mg base CX0 (n + 3) (a 9) (d 9) ["shape", "lot"] (sp9 K n) := ok9 n T
  refine T.d10.F.ok sc10 (fun vs H Q E h => ?_) (fun cdv A outer s H vs Q E hr h => ?_)
  · obtain ⟨v, b, t, L, rfl, _⟩ := h
    rfl
  obtain ⟨v, b0, t, L, rfl, hd0, hL, hLl, wf, h0, hs, hl, hn, q⟩ := h
  refine ⟨_, pss_one (ps_ret (pe_cmpR (op_eqD hr.units) (pe_call G9 hr rfl T.d9.g T.d9.F.kp T.d9.b .nil pass0 (pa_cons (pv 0) (pa_cons (pv 1) pa_nil))) (pe_callTy call_tuple_of rfl T.Z.tup (by decide +kernel) (pa_cons (pv 1) pa_nil)) (nomark _))), ?_⟩
  refine ⟨_, rfl, _, rfl, v, b0, t, L, rfl, hd0, hL, hLl, wf, h0, hs, hl, hn, fun H1 p sm hp0 hp => ?_⟩
  refine ⟨_, rfl, b0, L.map V.int, rfl, ?_⟩
  rcases hL.sm sm with hL1 | hL1
  · refine .inl ⟨hL1, fun p2 hp2 => ?_⟩
    have s2 : Same H1 (upd H1 p2 (.tup (L.map V.int))) := same_upd hp2
    refine ⟨lotD (hull t L), lotD L, (dt_lot_mk (s2 _ _ hp)).dp, (dt_lot_mk upd_same).dp, shaped_lot _, shaped_lot _, ?_⟩
    rw [eqv_lot]
    exact q _ (sm.trans s2)
  · refine .inr ⟨hL1, ?_⟩
    refine ⟨lotD (hull t L), lotD L, (dt_lot_mk hp).dp, .tup hL1 (dp_ints L), shaped_lot _, shaped_lot _, ?_⟩
    rw [eqv_lot]
    exact q _ sm
end
end K24
namespace K24
open PySem PySem.Spec PyProof.Rows L2
def plD (p : List Int × List Nat) : PyData := .tuple [lotD p.1, lotD (ixs p.2)]
theorem in_ixs (j : Nat) (g : List Nat) : decide ((j : Int) ∈ ixs g) = decide (j ∈ g) := by
  rw [decide_eq_decide]
  unfold ixs
  rw [List.mem_map]
  constructor
  · rintro ⟨i, hi, e⟩
    have : i = j := by omega
    exact this ▸ hi
  · intro h
    exact ⟨j, h, rfl⟩
theorem others_take (g : List Nat) (i : Nat) : others (i + 1) g = others i g ++ (if i ∈ g then [] else [i]) := by
  unfold others
  rw [List.range_succ, List.filter_append]
  congr 1
  by_cases h : i ∈ g
  · simp [h]
  · simp [h]
theorem dt_nil_lot {H : Hp} {a : Addr} (h : H a = some (.tup [])) : Dt H (.ref a) (lotD []) := dt_lot_mk (L := []) h
section
variable {P : Program} {w : World} {K : PySem.W.Frag} {mg : Str → Option Value} {base : Heap} {a : Nat → Addr} {d : Nat → FuncData}
/-! lot_place -/
theorem sc11 : FnScope ["shape", "lot", "tree", "numbers"] ["shape", "lot"] (defScope (top 11)) := ⟨rfl, rfl, rfl, by decide +kernel, rfl, by decide +kernel, by decide +kernel⟩
def sp11 (K : PySem.W.Frag) (n : Nat) : Sp := fun vs H Q _ => ∃ v b t L, vs = [v, .ref b] ∧ Dt H v (enc t) ∧ Sq K H b (L.map V.int) ∧ L.length ≤ 1000 ∧ Wf t ∧ L ≠ [] ∧ sub L (lv t) ∧ (lv t).length ≤ n ∧ n ≤ 100 ∧
  ∀ H' v', Same H H' → (hull t L = L → Dt H' v' (plD (place t L))) → (hull t L ≠ L → v' = .non) → Q v' H'
theorem ok11 (n : Nat) (T : Ps K mg a d) : FnOk P w K mg base CX0 (n + 5) (a 11) (d 11) ["shape", "lot"] (sp11 K n) := by
  have G1 : FnOk P w K mg base CX0 1 (a 1) (d 1) ["tree"] sp1 := ok1 T.d1.F T.Z
  have G2 : FnOk P w K mg base CX0 (n + 1) (a 2) (d 2) ["shape"] (sp2 n) := ok2 T.d2 T.d1 T.du T.Z n
  have G5 : FnOk P w K mg base CX0 (n + 1) (a 5) (d 5) ["shape", "lot"] (sp5 K n) := ok5 T.d5 T.d1 T.du T.d2 T.Z n
  have G6 : FnOk P w K mg base CX0 (n + 2) (a 6) (d 6) ["knot", "lot"] (sp6 K n) := ok6 T.d6 T.d1 T.du T.d2 T.Z
  have G10 : FnOk P w K mg base CX0 (n + 4) (a 10) (d 10) ["shape", "lot"] (sp10 K n) := ok10 n T
  refine T.d11.F.ok sc11 (fun vs H Q E h => ?_) (fun cdv A outer s H vs Q E hr h => ?_)
  · obtain ⟨v, b, t, L, rfl, _⟩ := h
    rfl
  obtain ⟨v, b0, t, L, rfl, hd0, hL, hLl, wf, h0, hs, hl, hn, q⟩ := h
  have hr1 : Room 1 _ := hr.mono (by omega)
  have hr2 : Room (n + 1) _ := hr.mono (by omega)
  have hr3 : Room (n + 2) _ := hr.mono (by omega)
  refine ⟨_, pss_cons (ps_if (pt_not (pt_truth (pe_call G10 hr rfl T.d10.g T.d10.F.kp T.d10.b .nil pass0 (pa_cons (pv 0) (pa_cons (pv 1) pa_nil))) (fun _ => rfl))) (pss_one (ps_ret pe_non)) pss_nil)
    (pss_cons (ps_set (i := 2) sc11.nd rfl (.inl rfl) (pe_call G5 hr2 rfl T.d5.g T.d5.F.kp T.d5.b .nil pass0 (pa_cons (pv 0) (pa_cons (pv 1) pa_nil))))
    (pss_cons (ps_set (i := 3) sc11.nd rfl (.inl rfl) (pe_ifExp (pt_truth (pe_call G1 hr1 rfl T.d1.g T.d1.F.kp T.d1.b .nil pass0 (pa_cons (pv 2) pa_nil)) (fun _ => rfl)) (pe_lst pa_nil) (pe_call G6 hr3 rfl T.d6.g T.d6.F.kp T.d6.b .nil pass0 (pa_cons (pv 2) (pa_cons (pv 1) pa_nil)))))
    (pss_one (ps_ret (pe_tup (pa_cons (pe_call G2 hr2 rfl T.d2.g T.d2.F.kp T.d2.b .nil pass0 (pa_cons (pv 2) pa_nil)) (pa_cons (pe_callTy call_tuple_of rfl T.Z.tup (by decide +kernel) (pa_cons (pv 3) pa_nil)) pa_nil))))))), ?_⟩
  obtain ⟨wl, ll, lm⟩ := least_spec t wf L h0 hs
  refine ⟨_, rfl, _, rfl, v, b0, t, L, rfl, hd0, hL, hLl, wf, h0, hs, hl, hn, fun H1 sm => ?_⟩
  refine ⟨_, rfl, ?_⟩
  by_cases hh : hull t L = L
  · rw [decide_eq_true hh]
    refine iteF ?_
    refine ⟨_, rfl, _, rfl, v, b0, t, L, rfl, hd0.sm sm, hL.sm sm, hLl, wf.ok, hl, hn, fun H2 v1 s2 hv1 => ?_⟩
    have sA := sm.trans s2
    cases hT : least t L with
    | leaf m =>
      rw [hT] at hv1 ll
      refine ⟨_, rfl, _, _, rfl, hv1, true, rfl, ?_⟩
      refine iteT ?_
      refine ⟨Nat.zero_le _, fun p hp => ?_⟩
      have s3 : Same H2 (upd H2 p (.lst [])) := same_upd hp
      refine ⟨_, rfl, v1, .leaf m, rfl, hv1.sm s3, trivial, by omega, hn, fun H3 p3 s4 hp30 hp3 => ?_⟩
      refine ⟨_, rfl, p, _, rfl, .inl ⟨SqL.of (s4 _ _ upd_same), fun p4 hp4 => ?_⟩⟩
      have s5 : Same H3 (upd H3 p4 (.tup [])) := same_upd hp4
      refine ⟨(by show 2 ≤ sizeLine; decide), fun p5 hp5 => ?_⟩
      have s6 : Same (upd H3 p4 (.tup [])) (upd (upd H3 p4 (.tup [])) p5 (.tup [.ref p3, .ref p4])) := same_upd hp5
      refine q _ _ (sA.trans (s3.trans (s4.trans (s5.trans s6)))) (fun _ => ?_) (fun z => absurd hh z)
      have e : place t L = ([m], []) := by
        unfold place
        rw [hT]
      rw [e]
      refine .tup upd_same (.cons ?_ (.cons ?_ .nil))
      · exact (dt_lot_mk (L := [m]) (s6 _ _ (s5 _ _ hp3)))
      · exact dt_nil_lot (s6 _ _ upd_same)
    | knot k cs =>
      rw [hT] at hv1 wl ll
      refine ⟨_, rfl, _, _, rfl, hv1, false, rfl, ?_⟩
      refine iteF ?_
      refine ⟨_, rfl, _, rfl, v1, b0, k, cs, L, rfl, hv1, hL.sm sA, wl.ok, by omega, hn, fun H3 p s3 hp0 hp => ?_⟩
      refine ⟨_, rfl, v1, .knot k cs, rfl, hv1.sm s3, wl.ok, by omega, hn, fun H4 p3 s4 hp30 hp3 => ?_⟩
      refine ⟨_, rfl, p, _, rfl, .inl ⟨SqL.of (s4 _ _ hp), fun p4 hp4 => ?_⟩⟩
      have s5 : Same H4 (upd H4 p4 (.tup ((ixs (met cs L)).map V.int))) := same_upd hp4
      refine ⟨(by show 2 ≤ sizeLine; decide), fun p5 hp5 => ?_⟩
      have s6 : Same (upd H4 p4 (.tup ((ixs (met cs L)).map V.int))) (upd (upd H4 p4 (.tup ((ixs (met cs L)).map V.int))) p5 (.tup [.ref p3, .ref p4])) := same_upd hp5
      refine q _ _ (sA.trans (s3.trans (s4.trans (s5.trans s6)))) (fun _ => ?_) (fun z => absurd hh z)
      have e : place t L = (parts (.knot k cs), met cs L) := by
        unfold place
        rw [hT, parts, lv_knot]
      rw [e]
      refine .tup upd_same (.cons ?_ (.cons ?_ .nil))
      · exact dt_lot_mk (s6 _ _ (s5 _ _ hp3))
      · exact dt_lot_mk (s6 _ _ upd_same)
  · rw [decide_eq_false hh]
    refine iteT ?_
    exact q _ _ sm (fun z => absurd z hh) fun _ => rfl
/-! crossing_lot -/
theorem sc12 : FnScope ["shape", "lot", "tree", "numbers", "others", "number"] ["shape", "lot"] (defScope (top 12)) := ⟨rfl, rfl, rfl, by decide +kernel, rfl, by decide +kernel, by decide +kernel⟩
def sp12 (K : PySem.W.Frag) (n : Nat) : Sp := fun vs H Q _ => ∃ v b t L, vs = [v, .ref b] ∧ Dt H v (enc t) ∧ Sq K H b (L.map V.int) ∧ L.length ≤ 1000 ∧ Wf t ∧ L ∈ inn t ∧ (lv t).length ≤ n ∧ n ≤ 100 ∧
  ∀ H' v', Same H H' → (cross t L = none → v' = .non) → (∀ C, cross t L = some C → Dt H' v' (lotD C)) → Q v' H'
theorem ok12 (n : Nat) (T : Ps K mg a d) : FnOk P w K mg base CX0 (n + 3) (a 12) (d 12) ["shape", "lot"] (sp12 K n) := by
  have G1 : FnOk P w K mg base CX0 1 (a 1) (d 1) ["tree"] sp1 := ok1 T.d1.F T.Z
  have G5 : FnOk P w K mg base CX0 (n + 1) (a 5) (d 5) ["shape", "lot"] (sp5 K n) := ok5 T.d5 T.d1 T.du T.d2 T.Z n
  have G6 : FnOk P w K mg base CX0 (n + 2) (a 6) (d 6) ["knot", "lot"] (sp6 K n) := ok6 T.d6 T.d1 T.du T.d2 T.Z
  have G8 : FnOk P w K mg base CX0 (n + 2) (a 8) (d 8) ["knot", "numbers"] (sp8 K n) := ok8 T.d8 T.d1 T.du T.d2 T.Z
  refine T.d12.F.ok sc12 (fun vs H Q E h => ?_) (fun cdv A outer s H vs Q E hr h => ?_)
  · obtain ⟨v, b, t, L, rfl, _⟩ := h
    rfl
  obtain ⟨v, b0, t, L, rfl, hd0, hL, hLl, wf, hin, hl, hn, q⟩ := h
  have hr1 : Room 1 _ := hr.mono (by omega)
  have hr2 : Room (n + 1) _ := hr.mono (by omega)
  refine ⟨_, pss_cons (ps_set (i := 2) sc12.nd rfl (.inl rfl) (pe_call G5 hr2 rfl T.d5.g T.d5.F.kp T.d5.b .nil pass0 (pa_cons (pv 0) (pa_cons (pv 1) pa_nil))))
    (pss_cons (ps_if (pt_truth (pe_call G1 hr1 rfl T.d1.g T.d1.F.kp T.d1.b .nil pass0 (pa_cons (pv 2) pa_nil)) (fun _ => rfl)) (pss_one (ps_ret pe_non)) pss_nil)
    (pss_cons (ps_set (i := 3) sc12.nd rfl (.inr rfl) (pe_call G6 hr rfl T.d6.g T.d6.F.kp T.d6.b .nil pass0 (pa_cons (pv 2) (pa_cons (pv 1) pa_nil))))
    (pss_cons (ps_setLc (i := 4) (own := [("number", 5)]) (g := gName 5) (tt := tTest (tOp (rIn K true) (tVar 5) (tVar 3))) rfl sc12.nd rfl rfl (sw_true rfl rfl rfl (by decide +kernel))
        (pi_range1 rfl T.Z.rng (pa_cons (pe_callB call_len_seq rfl T.Z.len PySem.boot_len (pa_cons (pe_ix ix_tup (pv 2) pe_int (fun _ _ => rfl)) pa_nil)) pa_nil))
        (blkOk_by (N := ["shape", "lot", "tree", "numbers", "others", "number"]) (sc := defScope (top 12)) (by decide +kernel))
        (fun _ _ _ _ _ => pg_name (i := 5) sc12.nd rfl (.inl rfl)) (fun _ _ _ _ _ => pts_one (pt_cmpR (r := rIn K true) op_notIn_seq (pv 5) (pv 3) (by with_unfolding_all rfl))) (fun _ _ _ _ _ => pv 5))
    (pss_cons (ps_if (pt_not (pt_truth (pv 4) (fun _ => rfl))) (pss_one (ps_ret pe_non)) pss_nil)
    (pss_cons (ps_if (pt_cmpR op_eq (pe_ix ix_tup (pv 2) pe_int (fun _ _ => rfl)) pe_str (nomark _))
      (pss_one (ps_ret (pe_call G8 hr rfl T.d8.g T.d8.F.kp T.d8.b .nil pass0 (pa_cons (pv 2) (pa_cons (pe_lst (pa_cons (pe_ix ix_list (pv 3) pe_int (fun _ _ => rfl)) (pa_cons (pe_ix ix_list (pv 4) pe_int (fun _ _ => rfl)) pa_nil))) pa_nil))))) pss_nil)
    (pss_cons (ps_if (pt_cmpR op_gt (pe_ix ix_list (pv 3) pe_int (fun _ _ => rfl)) pe_int (nomark _))
      (pss_one (ps_ret (pe_call G8 hr rfl T.d8.g T.d8.F.kp T.d8.b .nil pass0 (pa_cons (pv 2) (pa_cons (pe_lst (pa_cons (pe_op op_sub (pe_ix ix_list (pv 3) pe_int (fun _ _ => rfl)) pe_int) (pa_cons (pe_ix ix_list (pv 3) pe_int (fun _ _ => rfl)) pa_nil))) pa_nil))))) pss_nil)
    (pss_one (ps_ret (pe_call G8 hr rfl T.d8.g T.d8.F.kp T.d8.b .nil pass0 (pa_cons (pv 2) (pa_cons (pe_lst (pa_cons (pe_ix ix_list (pv 3) (pe_un un_neg pe_int) (fun _ _ => rfl)) (pa_cons (pe_op op_add (pe_ix ix_list (pv 3) (pe_un un_neg pe_int) (fun _ _ => rfl)) pe_int) pa_nil))) pa_nil))))))))))), ?_⟩
  obtain ⟨h0, hs, _⟩ := inn_lot t wf L hin
  obtain ⟨wl, ll, lm⟩ := least_spec t wf L h0 hs
  refine ⟨_, rfl, _, rfl, v, b0, t, L, rfl, hd0, hL, hLl, wf.ok, hl, hn, fun H1 v1 sm hv1 => ?_⟩
  cases hT : least t L with
  | leaf m =>
    rw [hT] at hv1
    have e : cross t L = none := by
      unfold cross
      rw [hT]
    refine ⟨_, rfl, _, _, rfl, hv1, true, rfl, ?_⟩
    refine iteT ?_
    exact q _ _ sm (fun _ => rfl) fun C z => by rw [e] at z; cases z
  | knot k cs =>
    rw [hT] at hv1 wl ll
    have hg := least_inn t wf L hin k cs hT
    have G := grp_of wl.two hg
    have g0 : met cs L ≠ [] := by intro e; have := G.two; rw [e] at this; simp at this
    have ec : cross t L = cross1 k cs (met cs L) := by
      unfold cross
      rw [hT]
    have hcl := cs_len (ok_knot wl.ok).2
    have hl2 : (lvs cs).length ≤ n := by
      rw [lv_knot] at ll
      omega
    refine ⟨_, rfl, _, _, rfl, hv1, false, rfl, ?_⟩
    refine iteF ?_
    refine ⟨_, rfl, _, rfl, v1, b0, k, cs, L, rfl, hv1, hL.sm sm, wl.ok, by rw [lv_knot]; exact hl2, hn, fun H2 p s2 hp0 hp => ?_⟩
    have hv2 := hv1.sm s2
    obtain ⟨a1, b1, xs, rfl, ha, hb, hx⟩ := dt_knot hv2
    have hlx := hx.length
    rw [List.length_map] at hlx
    refine ⟨_, rfl, a1, _, 1, .ref b1, rfl, rfl, SqT.of ha, rfl, b1, xs, rfl, .inr (SqT.of hb), (xs.length : Nat), rfl, by omega, by omega, fun dd hdd => ?_⟩
    have s12 := sm.trans s2
    refine lc_it (walk_range (lo := 0) (n := xs.length)) (fun i H' => Same H2 H' ∧ H' dd = some (.lst ((ixs (others i (met cs L))).map V.int))) ⟨same_upd hdd, upd_same⟩ (fun _ _ _ _ => trivial) ?_ ?_
    · rintro i x H3 H4 hi ⟨s3, hz⟩ ⟨rfl, rfl⟩
      refine ⟨rfl, ?_⟩
      refine ⟨_, rfl, _, rfl, p, _, rfl, .inl (SqL.of (s3 _ _ hp)), rfl, flat_ints _, _, rfl, ?_⟩
      rw [in_ints]
      simp only [if_true, Int.zero_add, in_ixs]
      by_cases hm : i ∈ met cs L
      · refine itF (by simp [hm]) ⟨s3, ?_⟩
        rw [hz, others_take, if_pos hm, List.append_nil]
      · refine itT (by simp [hm]) ⟨_, rfl, _, hz, ?_, same_upd2 s3 hdd, ?_⟩
        · rw [List.length_map, ixs, List.length_map]
          have : (others i (met cs L)).length ≤ i := by
            unfold others
            have := List.length_filter_le (fun j => decide (j ∉ met cs L)) (List.range i)
            rwa [List.length_range] at this
          exact small1000 (by omega)
        · rw [upd_same, others_take, if_neg hm]
          simp [ixs]
    · rintro H3 ⟨s3, hz⟩
      rw [hlx] at hz
      have sA := s12.trans s3
      have ha3 := s3 _ _ ha
      have hp3 := s3 _ _ hp
      have hv3 := hv2.sm s3
      refine ⟨_, rfl, _, .inl ⟨_, SqL.of hz, rfl⟩, ?_⟩
      by_cases ho : others cs.length (met cs L) = []
      · rw [ho]
        refine itT (by rfl) ?_
        refine q _ _ sA (fun _ => rfl) fun C z => ?_
        rw [ec] at z
        unfold cross1 at z
        rw [if_pos ho] at z
        cases z
      · refine itF (by
          intro z
          match e : others cs.length (met cs L), ho with
          | i :: r, _ => rw [e] at z; simp [ixs] at z) ?_
        obtain ⟨hb1, hb2⟩ := mem_others.mp (hd_mem ho)
        have hm1 := G.lt _ (hd_mem g0)
        have hm2 := G.lt _ (lst_mem g0)
        refine ⟨_, rfl, a1, _, 0, .str (kname k), rfl, rfl, SqT.of ha3, rfl, rfl, _, rfl, ?_⟩
        have hok := wl.ok
        by_cases hk : k = .free
        · subst hk
          refine itT (str_eq rfl) ?_
          refine ⟨_, rfl, _, rfl, p, _, 0, _, rfl, rfl, SqL.of hp3, at_hd g0, _, rfl, dd, _, 0, _, rfl, rfl, SqL.of hz, at_hd ho, (by show 2 ≤ sizeLine; decide), fun p4 hp4 => ?_⟩
          have s4 : Same H3 (upd H3 p4 (.lst [.int (hd (met cs L) : Nat), .int (hd (others cs.length (met cs L)) : Nat)])) := same_upd hp4
          refine ⟨_, p4, .free, cs, [hd (met cs L), hd (others cs.length (met cs L))], rfl, hv3.sm s4, SqL.of upd_same, ?_, by simp, hok, by rw [lv_knot]; exact hl2, hn, fun H5 p5 s5 _ hp5 => ?_⟩
          · intro i hi
            have hi' : i = hd (met cs L) ∨ i = hd (others cs.length (met cs L)) := by simpa using hi
            rcases hi' with rfl | rfl
            · exact hm1
            · exact hb1
          · refine q _ _ (sA.trans (s4.trans s5)) (fun z => ?_) fun C z => ?_
            · rw [ec] at z
              unfold cross1 at z
              rw [if_neg ho, if_pos rfl] at z
              cases z
            · rw [ec] at z
              unfold cross1 at z
              rw [if_neg ho, if_pos rfl] at z
              rw [← Option.some.inj z]
              exact dt_lot_mk hp5
        · refine itF (str_ne (by
            obtain ⟨n1, n2, n3, n4, n5⟩ := bare_ne
            cases k with
            | bare => exact n4
            | line => exact n5
            | free => exact absurd rfl hk)) ?_
          refine ⟨_, rfl, p, _, 0, _, rfl, rfl, SqL.of hp3, at_hd g0, _, _, rfl, rfl, _, rfl, ?_⟩
          by_cases h1 : 0 < hd (met cs L)
          · refine itT (decide_eq_true (by omega)) ?_
            refine ⟨_, rfl, _, rfl, p, _, 0, _, rfl, rfl, SqL.of hp3, at_hd g0, _, _, rfl, rfl, _, rfl, p, _, 0, _, rfl, rfl, SqL.of hp3, at_hd g0, (by show 2 ≤ sizeLine; decide), fun p4 hp4 => ?_⟩
            have s4 : Same H3 (upd H3 p4 (.lst [.int ((hd (met cs L) : Nat) - 1), .int (hd (met cs L) : Nat)])) := same_upd hp4
            have e1 : ((hd (met cs L) : Nat) : Int) - 1 = ((hd (met cs L) - 1 : Nat) : Int) := by omega
            refine ⟨_, p4, k, cs, [hd (met cs L) - 1, hd (met cs L)], rfl, hv3.sm s4, SqL.of (by rw [upd_same]; show some (HO.lst [V.int (((hd (met cs L) : Nat) : Int) - 1), _]) = _; rw [e1]; rfl), ?_, by simp, hok, by rw [lv_knot]; exact hl2, hn, fun H5 p5 s5 _ hp5 => ?_⟩
            · intro i hi
              have hi' : i = hd (met cs L) - 1 ∨ i = hd (met cs L) := by simpa using hi
              rcases hi' with rfl | rfl
              · omega
              · exact hm1
            · refine q _ _ (sA.trans (s4.trans s5)) (fun z => ?_) fun C z => ?_
              · rw [ec] at z
                unfold cross1 at z
                rw [if_neg ho, if_neg hk, if_pos h1] at z
                cases z
              · rw [ec] at z
                unfold cross1 at z
                rw [if_neg ho, if_neg hk, if_pos h1] at z
                rw [← Option.some.inj z]
                exact dt_lot_mk hp5
          · refine itF (fun z => h1 (by have := of_decide_eq_true z; omega)) ?_
            have hroom := last_room wl.two hg hk ho h1
            refine ⟨_, rfl, _, rfl, 1, rfl, p, _, -1, _, rfl, rfl, SqL.of hp3, at_lst g0, _, rfl, 1, rfl, p, _, -1, _, rfl, rfl, SqL.of hp3, at_lst g0, _, _, rfl, rfl, (by show 2 ≤ sizeLine; decide), fun p4 hp4 => ?_⟩
            have s4 : Same H3 (upd H3 p4 (.lst [.int (lst (met cs L) : Nat), .int ((lst (met cs L) : Nat) + 1)])) := same_upd hp4
            refine ⟨_, p4, k, cs, [lst (met cs L), lst (met cs L) + 1], rfl, hv3.sm s4, SqL.of upd_same, ?_, by simp, hok, by rw [lv_knot]; exact hl2, hn, fun H5 p5 s5 _ hp5 => ?_⟩
            · intro i hi
              have hi' : i = lst (met cs L) ∨ i = lst (met cs L) + 1 := by simpa using hi
              rcases hi' with rfl | rfl
              · exact hm2
              · exact hroom
            · refine q _ _ (sA.trans (s4.trans s5)) (fun z => ?_) fun C z => ?_
              · rw [ec] at z
                unfold cross1 at z
                rw [if_neg ho, if_neg hk, if_neg h1] at z
                cases z
              · rw [ec] at z
                unfold cross1 at z
                rw [if_neg ho, if_neg hk, if_neg h1] at z
                rw [← Option.some.inj z]
                exact dt_lot_mk hp5
end
end K24
/-! sorted(zip(xs, ys), key=lambda pair: pair[0]) -/
namespace K24
open PySem PySem.Spec PyProof.Rows L2
theorem zip_nolen : typeLookup (.type "zip") "__len__" = pure none := am_miss_of_fast (by decide +kernel)
theorem zip_nohint : typeLookup (.type "zip") "__length_hint__" = pure none := am_miss_of_fast (by decide +kernel)
/-- a zip of two lists amid its walk; what it gave out stands at B or behind -/
structure ZipAt (z TI TO i1 i2 l1 l2 : Addr) (xs ys : Array Value) (B i : Nat) (h : Heap) : Prop where
  ti : IsPair h TI (.ref i1) (.ref i2)
  a1 : h.IsListIter i1 l1 i
  a2 : h.IsListIter i2 l2 i
  b1 : h.IsList l1 xs
  b2 : h.IsList l2 ys
  st : (IsZip h z TI TO .none ∧ ∃ a b, IsPair h TO a b) ∨ ∃ T f oT, IsZipHeld h z TI TO T f ∧ h.get? T = some oT ∧ B ≤ T
/-- all but S is kept -/
theorem ZipAt.but {z TI TO i1 i2 l1 l2 S : Addr} {xs ys : Array Value} {B i : Nat} {h h' : Heap} (Z : ZipAt z TI TO i1 i2 l1 l2 xs ys B i h) (n : S ∉ [z, TI, TO, i1, i2, l1, l2]) (hS : S < B) (k : ∀ b o, b ≠ S → h.get? b = some o → h'.get? b = some o) :
    ZipAt z TI TO i1 i2 l1 l2 xs ys B i h' := by
  simp only [List.mem_cons, List.not_mem_nil, or_false, not_or] at n
  obtain ⟨nz, nTI, nTO, n1, n2, m1, m2⟩ := n
  refine ⟨k _ _ (Ne.symm nTI) Z.ti, Z.a1.at fun o e => k _ o (Ne.symm n1) e, Z.a2.at fun o e => k _ o (Ne.symm n2) e, Z.b1.at fun o e => k _ o (Ne.symm m1) e, Z.b2.at fun o e => k _ o (Ne.symm m2) e, ?_⟩
  rcases Z.st with ⟨q, a, b, p⟩ | ⟨T, f, oT, q, p, r⟩
  · exact .inl ⟨k _ _ (Ne.symm nz) q, a, b, k _ _ (Ne.symm nTO) p⟩
  · exact .inr ⟨T, f, oT, k _ _ (Ne.symm nz) q, k _ _ (Nat.ne_of_gt (Nat.lt_of_lt_of_le hS r)) p, r⟩
/-- the pairs given out -/
structure PrAt (B : Nat) (xs ys : Array Value) (Ts : List Addr) (h : Heap) : Prop where
  up : Ts.Pairwise (· < ·)
  at_ : ∀ (j : Nat) (T : Addr), Ts[j]? = some T → B ≤ T ∧ ∃ x y, xs[j]? = some x ∧ ys[j]? = some y ∧ IsPair h T x y
theorem PrAt.but {B : Nat} {xs ys : Array Value} {Ts : List Addr} {h h' : Heap} (p : PrAt B xs ys Ts h) (k : ∀ b o, B ≤ b → h.get? b = some o → h'.get? b = some o) : PrAt B xs ys Ts h' :=
  ⟨p.up, fun j T e => let ⟨q, x, y, a, b, c⟩ := p.at_ j T e; ⟨q, x, y, a, b, k _ _ q c⟩⟩
abbrev refsOf (Ts : List Addr) : Array Value := (Ts.map Value.ref).toArray
section
variable {P : Program} {w : World} {A : Around} {z TI TO i1 i2 l1 l2 S : Addr} {xs ys : Array Value} {B : Nat}
theorem zip_loop (D : ZipApart z TI TO i1 i2 l1 l2) (hB : ∀ b ∈ [z, TI, TO, i1, i2, l1, l2], b < S) (hh : A.handled = none) (hl : xs.size = ys.size) (hn : xs.size ≤ sizeLine) (res : Value) {R : Result → Shared → Prop} :
    ∀ (k i : Nat) (s : Shared) (Ts : List Addr) (c : Nat), xs.size - i = k → i ≤ xs.size → ZipAt z TI TO i1 i2 l1 l2 xs ys (S + 1) i s.heap → s.heap.get? S = some (seqObj "list" (refsOf Ts) c) → Ts.length = i → PrAt (S + 1) xs ys Ts s.heap →
      (∀ h' Ts' c', (∀ b o, b < S → b ≠ z → b ≠ TO → b ≠ i1 → b ≠ i2 → s.heap.get? b = some o → h'.get? b = some o) → h'.get? S = some (seqObj "list" (refsOf Ts') c') → Ts'.length = xs.size → PrAt (S + 1) xs ys Ts' h' → R (.ok (.ret res)) { s with heap := h' }) →
      codeAny (model P w) A (.builtin "list.extend.loop" ⟨[.ref S, .ref z, res], []⟩) R s := by
  have hBz := hB z (by simp)
  have hBTO := hB TO (by simp)
  have hBTI := hB TI (by simp)
  have hB1 := hB i1 (by simp)
  have hB2 := hB i2 (by simp)
  have hm1 := hB l1 (by simp)
  have hm2 := hB l2 (by simp)
  have nz : S ≠ z := Nat.ne_of_gt hBz
  have nTI : S ≠ TI := Nat.ne_of_gt hBTI
  have nTO : S ≠ TO := Nat.ne_of_gt hBTO
  have n1 : S ≠ i1 := Nat.ne_of_gt hB1
  have n2 : S ≠ i2 := Nat.ne_of_gt hB2
  have nS : S ∉ [z, TI, TO, i1, i2, l1, l2] := by
    simp only [List.mem_cons, List.not_mem_nil, or_false, not_or]
    exact ⟨nz, nTI, nTO, n1, n2, Nat.ne_of_gt hm1, Nat.ne_of_gt hm2⟩
  have big : ∀ {b c : Addr}, S + 1 ≤ b → c < S → b ≠ c := fun h1 h2 => Nat.ne_of_gt (Nat.lt_trans h2 h1)
  intro k
  induction k with
  | zero =>
    intro i s Ts c hk hi Z hSs hT pr hR
    obtain rfl : i = xs.size := by omega
    have e1 : xs[xs.size]? = none ∨ ys[xs.size]? = none := .inl (by simp)
    refine codeAny_builtin (F.entry_extend_loop) ?_
    rw [Around.under_plainId (F.plain_extend_loop) _]
    show wpAny _ A.in1 (pyNext (.ref z) >>= _) _ _ s
    have fin : ∀ h', (∀ b o, b ≠ z → b ≠ TO → b ≠ i1 → b ≠ i2 → s.heap.get? b = some o → h'.get? b = some o) → R (.ok (.ret res)) { s with heap := h' } := fun h' kp =>
      hR h' Ts c (fun b o _ a1 a2 a3 a4 e => kp b o a1 a2 a3 a4 e) (kp _ _ nz nTO n1 n2 hSs) hT (pr.but fun b o q e => kp b o (big q hBz) (big q hBTO) (big q hB1) (big q hB2) e)
    rcases Z.st with ⟨q, a, b, p⟩ | ⟨T, f, oT, q, p, r⟩
    · exact wpAny_bind (wpAny_pyNext_zip_end hh D q Z.ti p Z.a1 Z.a2 Z.b1 Z.b2 e1 fun h' kp => wpAny_pure (fin h' kp))
    · exact wpAny_bind (wpAny_pyNext_zip_end_held hh D q p Z.ti Z.a1 Z.a2 Z.b1 Z.b2 e1 fun h' kp => wpAny_pure (fin h' fun b o a1 _ a3 a4 e => kp b o a1 a3 a4 e))
  | succ k ih =>
    intro i s Ts c hk hi Z hSs hT pr hR
    have hlt : i < xs.size := by omega
    have hlt2 : i < ys.size := by omega
    have ex : xs[i]? = some xs[i] := Array.getElem?_eq_getElem hlt
    have ey : ys[i]? = some ys[i] := Array.getElem?_eq_getElem hlt2
    have hSl : S < s.heap.objs.size := Heap.lt_size hSs
    refine codeAny_builtin (F.entry_extend_loop) ?_
    rw [Around.under_plainId (F.plain_extend_loop) _]
    show wpAny _ A.in1 (pyNext (.ref z) >>= _) _ _ s
    have hsz : (refsOf Ts).size = i := by rw [List.size_toArray, List.length_map, hT]
    have fin : ∀ h', (∀ b o, b ≠ z → b ≠ TO → b ≠ i1 → b ≠ i2 → s.heap.get? b = some o → h'.get? b = some o) → ZipAt z TI TO i1 i2 l1 l2 xs ys (S + 1) (i + 1) h' → IsPair h' s.heap.objs.size xs[i] ys[i] →
        codeAny (model P w) A (.builtin "list.extend.loop" ⟨[.ref S, .ref z, res], []⟩) R { s with heap := h'.update S (Obj.mapSeq (·.push (.ref s.heap.objs.size))) } := fun h' kp Z' hp => by
      have hS' := kp _ _ nz nTO n1 n2 hSs
      have sb : ∀ b o, b ≠ S → h'.get? b = some o → (h'.update S (Obj.mapSeq (·.push (.ref s.heap.objs.size)))).get? b = some o := fun b o hb e => (Heap.get?_update_other _ _ (Ne.symm hb)).trans e
      have eA : (refsOf Ts).push (.ref s.heap.objs.size) = refsOf (Ts ++ [s.heap.objs.size]) := by simp [refsOf]
      obtain ⟨c2, hc2⟩ : ∃ c2, (h'.update S (Obj.mapSeq (·.push (.ref s.heap.objs.size)))).get? S = some (seqObj "list" ((refsOf Ts).push (.ref s.heap.objs.size)) c2) := ⟨_, get?_update_seq hS' (·.push (.ref s.heap.objs.size))⟩
      rw [eA] at hc2
      have pr1 : PrAt (S + 1) xs ys Ts h' := pr.but fun b o q e => kp b o (big q hBz) (big q hBTO) (big q hB1) (big q hB2) e
      have up : ∀ b o, S + 1 ≤ b → h'.get? b = some o → (h'.update S (Obj.mapSeq (·.push (.ref s.heap.objs.size)))).get? b = some o := fun b o q e => sb b o (Nat.ne_of_gt q) e
      refine ih (i + 1) { s with heap := h'.update S (Obj.mapSeq (·.push (.ref s.heap.objs.size))) } (Ts ++ [s.heap.objs.size]) c2 (by omega) hlt (Z'.but nS (Nat.lt_succ_self S) sb) hc2 (by simp [hT]) ⟨?_, fun j T e => ?_⟩ fun h2 Ts' c' kp2 q1 q2 q3 => hR h2 Ts' c' (fun b o b1 b2 b3 b4 b5 e => kp2 b o b1 b2 b3 b4 b5 (sb b o (Nat.ne_of_lt b1) (kp b o b2 b3 b4 b5 e))) q1 q2 q3
      · refine List.pairwise_append.mpr ⟨pr.up, by simp, fun a ha b hb => ?_⟩
        have eb : b = s.heap.objs.size := by simpa using hb
        obtain ⟨j, hj⟩ := List.getElem?_of_mem ha
        obtain ⟨_, x, y, _, _, e⟩ := pr.at_ j a hj
        rw [eb]
        exact Heap.lt_size e
      · rw [List.getElem?_append] at e
        split at e
        · obtain ⟨q, x, y, a, b, c⟩ := pr1.at_ j T e
          exact ⟨q, x, y, a, b, up _ _ q c⟩
        · rename_i nj
          have ej : j = i := by
            have := List.getElem?_eq_some_iff.mp e
            obtain ⟨h1, _⟩ := this
            simp at h1
            omega
          subst ej
          have eT : s.heap.objs.size = T := by simpa [hT] using e
          subst eT
          exact ⟨hSl, _, _, ex, ey, up _ _ hSl hp⟩
    have hz0 : (refsOf Ts).size ≤ sizeLine := by omega
    have hz1 : ((refsOf Ts).push (.ref s.heap.objs.size)).size ≤ sizeLine + 1 := by rw [Array.size_push]; omega
    rcases Z.st with ⟨q, a, b, p⟩ | ⟨T, f, oT, q, p, r⟩
    · refine wpAny_bind (wpAny_pyNext_zip_item D q Z.ti p Z.a1 Z.a2 Z.b1 Z.b2 ex ey fun h' a1 a2 a3 a4 a5 a6 kp => ?_)
      refine wpAny_bind (wpAny_updateSeq (kp _ _ nz nTO n1 n2 hSs) rfl (wpAny_pure ⟨plainId_quiet (F.plain_extend_loop) _, fin h' kp ?_ a5⟩) hz0 hz1)
      exact ⟨kp _ _ D.TIz D.TITO D.TIi1 D.TIi2 Z.ti, a3, a4, Z.b1.at fun o e => kp _ o D.l1z D.l1TO D.l1i1 D.l1i2 e, Z.b2.at fun o e => kp _ o D.l2z D.l2TO D.l2i1 D.l2i2 e, .inr ⟨_, _, _, a1, a5, hSl⟩⟩
    · refine wpAny_bind (wpAny_pyNext_zip_item_held D q p Z.ti Z.a1 Z.a2 Z.b1 Z.b2 ex ey fun h' a1 a3 a4 a5 a6 kp => ?_)
      have kp' : ∀ b o, b ≠ z → b ≠ TO → b ≠ i1 → b ≠ i2 → s.heap.get? b = some o → h'.get? b = some o := fun b o a1 _ a3 a4 e => kp b o a1 a3 a4 e
      refine wpAny_bind (wpAny_updateSeq (kp _ _ nz n1 n2 hSs) rfl (wpAny_pure ⟨plainId_quiet (F.plain_extend_loop) _, fin h' kp' ?_ a5⟩) hz0 hz1)
      exact ⟨kp _ _ D.TIz D.TIi1 D.TIi2 Z.ti, a3, a4, Z.b1.at fun o e => kp _ o D.l1z D.l1i1 D.l1i2 e, Z.b2.at fun o e => kp _ o D.l2z D.l2i1 D.l2i2 e, .inr ⟨T, true, oT, a1, kp _ _ (big r hBz) (big r hB1) (big r hB2) p, r⟩⟩
theorem zip_collect {s : Shared} {E : Value → Shared → Prop} {Q : List Value → Shared → Prop} (D : ZipApart z TI TO i1 i2 l1 l2) (hB : ∀ b ∈ [z, TI, TO, i1, i2, l1, l2], b < s.heap.objs.size) (hh : A.handled = none) (hl : xs.size = ys.size) (hn : xs.size ≤ sizeLine)
    (hz : IsZip s.heap z TI TO .none) (hTI : IsPair s.heap TI (.ref i1) (.ref i2)) {a b : Value} (hTO : IsPair s.heap TO a b) (h1 : s.heap.IsListIter i1 l1 0) (h2 : s.heap.IsListIter i2 l2 0) (b1 : s.heap.IsList l1 xs) (b2 : s.heap.IsList l2 ys)
    (h : ∀ h' Ts, (∀ b o, b ≠ z → b ≠ TO → b ≠ i1 → b ≠ i2 → s.heap.get? b = some o → h'.get? b = some o) → Ts.length = xs.size → PrAt (s.heap.objs.size + 1) xs ys Ts h' → s.heap.objs.size < h'.objs.size → Q (Ts.map Value.ref) { s with heap := h' }) :
    wpAny (model P w) A (collect (.ref z)) Q E s := by
  have nS : s.heap.objs.size ∉ [z, TI, TO, i1, i2, l1, l2] := fun m => Nat.lt_irrefl _ (hB _ m)
  have hSz : s.heap.objs.size ≠ z := fun e => nS (by rw [e]; exact List.mem_cons_self)
  unfold collect
  refine wpAny_bind (wpAny_runValue (codeAny_builtin (F.entry_proto_collect) ?_))
  rw [Around.under_plainId (F.plain_proto_collect) _]
  show wpAny _ A.in1 (newList [] >>= fun l => again (.builtin "list.__iadd__" ⟨[l, .ref z], []⟩)) _ _ s
  refine wpAny_bind (wpAny_newObj_type ?_)
  refine wpAny_pure ⟨plainId_quiet (F.plain_list_iadd) _, codeAny_builtin (F.entry_list_iadd) ?_⟩
  rw [Around.under_plainId (F.plain_list_iadd) _]
  let nl : Obj := { cls := .type "list", data := .seq ([] : List Value).toArray }
  let H1 := s.heap.push nl
  have k1 : ∀ b o, s.heap.get? b = some o → H1.get? b = some o := fun b o e => Heap.get?_push_of_some _ e
  have hS₁ : H1.get? s.heap.objs.size = some nl := Heap.get?_push_size _ rfl
  have ty : ∀ (g : Heap), IsZip g z TI TO .none → ({ s with heap := g } : Shared).TypeIs (.ref z) "zip" := fun g e => ⟨_, e, rfl⟩
  show wpAny _ A.in1 (Builtin.List.listExtendWith (.ref s.heap.objs.size) (.ref z) (.ref s.heap.objs.size)) _ _ { s with heap := H1 }
  unfold Builtin.List.listExtendWith
  refine wpAny_bind (wpAny_typeOf (ty H1 (k1 _ _ hz)) ?_)
  have n1 : Builtin.List.listSameRef (.ref s.heap.objs.size) (.ref z) = false := by simp [Builtin.List.listSameRef, hSz]
  have n2 : (Value.type "zip" == Value.type "list") = false := by decide
  have n3 : (Value.type "zip" == Value.type "tuple") = false := by decide
  simp only [n1, n2, n3, Bool.or_false, Bool.false_eq_true, if_false]
  refine wpAny_bind (wpAny_pyIter_zip (s := { s with heap := H1 }) (k1 _ _ hz) ?_)
  refine wpAny_bind (wpAny_holding ?_)
  unfold Builtin.List.listLengthHint
  refine wpAny_bind (wpAny_specialOf (ty H1 (k1 _ _ hz)) zip_nolen ?_)
  show wpAny _ A.in1 (specialOf (Value.ref z) (Str.ofString "__length_hint__") >>= _) _ _ { s with heap := H1 }
  refine wpAny_bind (wpAny_specialOf (ty H1 (k1 _ _ hz)) zip_nohint ?_)
  refine wpAny_pure ?_
  show wpAny _ A.in1 (rule "list.extend.makes-room" >>= fun _ => Builtin.List.listTouch (.ref s.heap.objs.size) >>= fun _ => again (.builtin "list.extend.loop" ⟨[.ref s.heap.objs.size, .ref z, .ref s.heap.objs.size], []⟩)) _ _ { s with heap := H1 }
  refine wpAny_bind (wpAny_rule (wpAny_bind ?_))
  show wpAny _ A.in1 (updateSeq s.heap.objs.size (·.push .none) >>= fun _ => updateSeq s.heap.objs.size (·.pop)) _ _ { s with heap := H1 }
  refine wpAny_bind (wpAny_updateSeq hS₁ rfl ?_)
  have hS₂ := Heap.get?_update_self (Obj.mapSeq (·.push Value.none)) hS₁ rfl
  refine wpAny_updateSeq hS₂ rfl ?_
  have hS₃ := Heap.get?_update_self (Obj.mapSeq (·.pop)) hS₂ rfl
  let H3 := (H1.update s.heap.objs.size (Obj.mapSeq (·.push Value.none))).update s.heap.objs.size (Obj.mapSeq (·.pop))
  have k3 : ∀ b o, s.heap.get? b = some o → H3.get? b = some o := fun b o e =>
    (Heap.get?_update_other _ _ (Nat.ne_of_gt (Heap.lt_size e))).trans ((Heap.get?_update_other _ _ (Nat.ne_of_gt (Heap.lt_size e))).trans (k1 b o e))
  refine wpAny_pure ⟨plainId_quiet (F.plain_extend_loop) _, ?_⟩
  refine zip_loop (s := { s with heap := H3 }) (A := A) (xs := xs) (ys := ys) D hB hh hl hn _ xs.size 0 [] _ rfl (Nat.zero_le _) ⟨k3 _ _ hTI, h1.at fun o e => k3 _ o e, h2.at fun o e => k3 _ o e, b1.at fun o e => k3 _ o e, b2.at fun o e => k3 _ o e, .inl ⟨k3 _ _ hz, a, b, k3 _ _ hTO⟩⟩ hS₃ rfl ⟨.nil, fun j T e => by simp at e⟩ fun h' Ts c kp q1 q2 q3 => ?_
  show wpAny _ A (load s.heap.objs.size >>= _) _ _ { s with heap := h' }
  refine wpAny_bind (wpAny_load q1 (wpAny_pure ?_))
  show Q (refsOf Ts).toList _
  rw [show (refsOf Ts).toList = Ts.map Value.ref by simp]
  exact h h' Ts (fun b o n1 n2 n3 n4 e => kp b o (Heap.lt_size e) n1 n2 n3 n4 (k3 b o e)) q2 q3 (Heap.lt_size q1)
theorem each_refs {L : List (Addr × Int)} : ∀ {bs : List (Addr × Int)}, PySem.W.EachIs (fun (v : Value) (b : Addr × Int) => v = Value.ref b.1 ∧ b ∈ L) (bs.map fun b => Value.ref b.1) bs ↔ ∀ b ∈ bs, b ∈ L
  | [] => ⟨fun _ b hb => absurd hb (by simp), fun _ => .nil⟩
  | b :: bs => by
    constructor
    · intro h
      cases h with
      | cons r t =>
        intro c hc
        rcases List.mem_cons.mp hc with rfl | hc
        · exact r.2
        · exact (each_refs (bs := bs)).mp t c hc
    · intro h
      exact .cons ⟨rfl, h b List.mem_cons_self⟩ ((each_refs (bs := bs)).mpr fun c hc => h c (List.mem_cons_of_mem _ hc))
theorem refs_each {L : List (Addr × Int)} : ∀ {vs : List Value} {bs : List (Addr × Int)}, PySem.W.EachIs (fun (v : Value) (b : Addr × Int) => v = Value.ref b.1 ∧ b ∈ L) vs bs → vs = (bs.map (·.1)).map Value.ref
  | _, _, .nil => rfl
  | _, _, .cons r t => by rw [refs_each t, r.1]; rfl
theorem zip_sorted {s : Shared} {E : Value → Shared → Prop} {Q : Value → Shared → Prop} {f : Addr} {ns : List Int} (D : ZipApart z TI TO i1 i2 l1 l2) (hB : ∀ b ∈ [z, TI, TO, i1, i2, l1, l2], b < s.heap.objs.size) (hh : A.handled = none) (hu : A.units + 66 < cLine) (hl : xs.size = ys.size) (hn : xs.size ≤ sizeLine)
    (hz : IsZip s.heap z TI TO .none) (hTI : IsPair s.heap TI (.ref i1) (.ref i2)) {a b : Value} (hTO : IsPair s.heap TO a b) (h1 : s.heap.IsListIter i1 l1 0) (h2 : s.heap.IsListIter i2 l2 0) (b1 : s.heap.IsList l1 xs) (b2 : s.heap.IsList l2 ys)
    (hns : ns.length = xs.size) (hx : ∀ (j : Nat) (x : Value) (n : Int), xs[j]? = some x → ns[j]? = some n → ∃ t, x = .int n t)
    (turn : ∀ (T : Addr) (n : Int) (t : Tok) (y : Value) (h : Heap) (tk : Nat), (∀ b o, b ≠ z → b ≠ TO → b ≠ i1 → b ≠ i2 → s.heap.get? b = some o → h.get? b = some o) → IsPair h T (.int n t) y →
      wpAny (model P w) A.in1.in1 (call (.ref f) [.ref T]) (PySem.W.KeyPure (.int n) { s with heap := h, toks := tk }) (fun _ _ => False) { s with heap := h, toks := tk })
    (h : ∀ h' tk p Ts Ts' c, (∀ b o, b ≠ z → b ≠ TO → b ≠ i1 → b ≠ i2 → s.heap.get? b = some o → h'.get? b = some o) → Ts.length = xs.size → PrAt (s.heap.objs.size + 1) xs ys Ts h' → (∀ T ∈ Ts, T < p) → s.heap.objs.size < p → Ts'.Perm Ts →
      h'.get? p = some (seqObj "list" (refsOf Ts') c) → Q (.ref p) { s with heap := h', toks := tk }) :
    wpAny (model P w) A (call (.builtin "sorted") [.ref z] [(Str.ofString "key", .ref f)]) Q E s := by
  refine call_function_entry_kw (kind_sorted) (plain_sorted) (entry_sorted) (ksk_s1 _ _) ?_
  unfold Builtin.«sorted»
  refine wpAny_bind (m := checkCount "sorted" 1 1 _) (wpAny_pure (wpAny_bind ?_))
  refine zip_collect (A := A.in1) D hB hh hl hn hz hTI hTO h1 h2 b1 b2 fun h1' Ts kp hT pr hsz => ?_
  have hTl : (Ts.map Value.ref).length = xs.size := by rw [List.length_map, hT]
  refine wpAny_bind (wpAny_newList ?_ (by omega))
  have hp : (h1'.push (seqObj "list" (refsOf Ts) 0)).get? h1'.objs.size = some (seqObj "list" (refsOf Ts) 0) := Heap.get?_push_size _ rfl
  have up : ∀ {g : Heap}, PySem.W.KeepsBut h1'.objs.size (h1'.push (seqObj "list" (refsOf Ts) 0)) g → ∀ b o, h1'.get? b = some o → g.get? b = some o := fun {g} k b o e => k b o (Nat.ne_of_lt (Heap.lt_size e)) (Heap.get?_push_of_some _ e)
  refine wpAny_bind (wpAny_holding (wpAny_call_entry_kw slot_list_sort ⟨_, hp, rfl⟩ entry_list_sort ?_ (ksk_l1 _ _)))
  show wpAny (model P w) A.in1.in1 (Builtin.«list.sort» ⟨[.ref h1'.objs.size], [(Str.ofString "key", .ref f)]⟩) _ _ { s with heap := h1'.push (seqObj "list" (refsOf Ts) 0) }
  rw [ksk_t1]
  have hzl : (Ts.zip ns).length = xs.size := by rw [List.length_zip, hT, hns, Nat.min_self]
  have hz1 : (Ts.zip ns).map (·.1) = Ts := List.map_fst_zip (by omega)
  have e0 : PySem.W.EachIs (fun (v : Value) (b : Addr × Int) => v = Value.ref b.1 ∧ b ∈ Ts.zip ns) (Ts.map Value.ref) (Ts.zip ns) := by
    have := (each_refs (L := Ts.zip ns) (bs := Ts.zip ns)).mpr fun b hb => hb
    have e : (Ts.zip ns).map (fun b => Value.ref b.1) = Ts.map Value.ref := by
      rw [show (fun b : Addr × Int => Value.ref b.1) = Value.ref ∘ (fun b : Addr × Int => b.1) from rfl, ← List.map_map, hz1]
    rwa [e] at this
  refine PySem.W.keyH_tree (s := { s with heap := h1'.push (seqObj "list" (refsOf Ts) 0) }) (vs := Ts.map Value.ref) (kz := (Ts.zip ns).map fun b => PyData.int b.2) hp (by rw [List.length_map, hzl, hTl]) (by omega) (PySem.W.AllAlike.of fun _ _ => by simp [PySem.W.alike]) (PySem.W.Sortable.others fun _ => ⟨by simp, by simp⟩) (fun d hd => ?_)
    (PySem.W.keyH_turns (s := { s with heap := h1'.push (seqObj "list" (refsOf Ts) 0) }) (k := fun b : Addr × Int => PyData.int b.2) e0 fun v x hR hx' h2' tk kb => ?_) fun h' tk out c kb hD ko => ?_
  · obtain ⟨x, _, rfl⟩ := List.mem_map.mp hd
    show A.units + 1 + 1 + (PyData.int x.2).depth < cLine
    simp only [PyData.depth]
    omega
  · obtain ⟨T, n⟩ := x
    obtain ⟨rfl, _⟩ := hR
    obtain ⟨j, hj⟩ := List.getElem?_of_mem hx'
    rw [List.getElem?_zip_eq_some] at hj
    obtain ⟨hjT, hjn⟩ := hj
    obtain ⟨q, x, y, e1, e2, e3⟩ := pr.at_ j T hjT
    obtain ⟨t, rfl⟩ := hx j x n e1 hjn
    exact turn T n t y h2' tk (fun b o n1 n2 n3 n4 e => up kb b o (kp b o n1 n2 n3 n4 e)) (up kb _ _ e3)
  · have ee := PySem.W.keyedOut_each (fun b : Addr × Int => PyData.int b.2) ko e0
    have eo := refs_each ee
    have pm : ((Ts.zip ns).mergeSort (PySem.W.dataLe false fun b : Addr × Int => PyData.int b.2)).Perm (Ts.zip ns) := List.mergeSort_perm _ _
    refine ⟨_, rfl, wpAny_pure ⟨_, rfl, h h' tk h1'.objs.size Ts _ c (fun b o n1 n2 n3 n4 e => up kb b o (kp b o n1 n2 n3 n4 e)) hT (pr.but fun b o _ e => up kb b o e) (fun T hT' => ?_) hsz ((pm.map (·.1)).trans (by rw [hz1])) (by rw [hD, eo])⟩⟩
    obtain ⟨j, hj⟩ := List.getElem?_of_mem hT'
    obtain ⟨_, x, y, _, _, e3⟩ := pr.at_ j T hj
    exact Heap.lt_size e3
end
end K24
namespace K24
open PySem PySem.Spec PyProof.Rows L2
/-- lambda a: a[0] -/
structure Lam0 (params : Arguments) (body : Expr) (scope : Scope) (a : Str) : Prop where
  kind : scope.kind = .function
  co : scope.isCoroutine = false
  gen : scope.isGenerator = false
  names : scope.names = [(a, .local)]
  bod : ∃ p1 p2 p3, body = .Subscript (.Name a p1) (.Constant (.int 0) 0 p2) p3
  bind : ∀ (q : Str) (cl : List (Str × Addr)) (pm cv ctv u : Value), bindArgs (PySem.W.kla_fn "<lambda>" q params body scope cl pm cv ctv) ⟨[u], []⟩ = pure [(a, u)]
  deb : (a == ("__debug__" : Str)) = false
section
variable {P : Program} {w : World} {A : Around} {s : Shared} {params : Arguments} {body : Expr} {scope : Scope} {a : Str}
theorem lam_turn (L : Lam0 params body scope a) {f T c' : Addr} {q : Str} {cl : List (Str × Addr)} {pm ctv y : Value} {n : Int} {t : Tok} (hd : A.depth < recursionLimit) (lim : s.heap.NoLimit)
    (hf : s.heap.get? f = some (PySem.W.kla_obj "<lambda>" q params body scope cl pm c' ctv)) (hc : ∃ (oc : Obj) (vs : Array Value) (t : Tok), s.heap.get? c' = some oc ∧ oc.data = .fields vs ∧ vs[1]? = some (.str q t)) (hT : IsPair s.heap T (.int n t) y) :
    wpAny (model P w) A (call (.ref f) [.ref T]) (PySem.W.KeyPure (.int n) s) (fun _ _ => False) s := by
  obtain ⟨oc, vs, tq, e1, e2, e3⟩ := hc
  refine wpAny_call (PySem.W.kla_callFunE hd hf rfl L.co L.gen rfl ⟨c', oc, vs, tq, rfl, e1, e2, e3⟩ ?_)
  rw [L.bind]
  have hk : ∀ x ∈ scope.names, x.2 ≠ .cell := fun x hx => by
    rw [L.names] at hx
    obtain rfl : x = (a, NameKind.local) := by simpa using hx
    simp
  have hl : ∀ x ∈ [(a, Value.ref T)], scope.names.lookup x.1 = some .local := fun x hx => by
    obtain rfl : x = (a, Value.ref T) := by simpa using hx
    rw [L.names]
    simp
  refine wpAny_pure (wpAny_newFunctionEnv hk hl (fun h₁ hns hsb => ⟨lim.fresh _ hsb, ?_⟩) L.kind)
  have kp : ∀ b o, s.heap.get? b = some o → h₁.get? b = some o := fun b o e => hsb.extBut b o (Nat.ne_of_lt (Heap.lt_size e)) (Heap.get?_push_of_some _ e)
  obtain ⟨p1, p2, p3, eb⟩ := L.bod
  refine PySem.W.kla_codeExpr ?_
  rw [eb]
  have pl : IsTup h₁ T #[.int n t, y] := ⟨_, kp _ _ hT, rfl, _, rfl⟩
  refine Subscript_ (wpAny_Name (wpAny_loadName_local (m := fun x => [(a, Value.ref T)].reverse.lookup x) (v := .ref T) L.kind (by rw [Env.kindOf]; exact hl (a, .ref T) (by simp)) hns (by simp) ?_) L.deb)
  refine wpAny_Constant_int (subscriptTail_builtinR (x := .int n t) pl.typeIs slot_tuple_getitem.lookup (getItem_tuple (j := 0) pl (by decide) (by decide) rfl rfl ⟨rfl, ?_⟩))
  exact ⟨h₁, _, rfl, kp, Reads.int n t⟩
end
theorem lookup_zip {β : Type} : ∀ {Ts : List Addr} {ys : List β} {j : Nat} {T : Addr} {y : β}, Ts.Pairwise (· < ·) → Ts[j]? = some T → ys[j]? = some y → (Ts.zip ys).lookup T = some y
  | [], _, j, _, _, _, h, _ => by simp at h
  | _ :: _, [], j, _, _, _, _, h => by simp at h
  | U :: Ts, z :: ys, 0, T, y, _, h1, h2 => by
    have e1 : U = T := by simpa using h1
    have e2 : z = y := by simpa using h2
    subst e1 e2
    simp
  | U :: Ts, z :: ys, j + 1, T, y, p, h1, h2 => by
    have h1' : Ts[j]? = some T := by simpa using h1
    have h2' : ys[j]? = some y := by simpa using h2
    have hn : T ≠ U := Nat.ne_of_gt ((List.pairwise_cons.mp p).1 T (List.mem_of_getElem? h1'))
    rw [List.zip_cons_cons, List.lookup_cons, show (T == U) = false by simpa using hn]
    exact lookup_zip (List.pairwise_cons.mp p).2 h1' h2'
def pickOf (Ts : List Addr) (ys : List V) (T : Addr) : V := ((Ts.zip ys).lookup T).getD .non
theorem pick_at {Ts : List Addr} {ys : List V} {j : Nat} {T : Addr} {y : V} (p : Ts.Pairwise (· < ·)) (h1 : Ts[j]? = some T) (h2 : ys[j]? = some y) : pickOf Ts ys T = y := by
  unfold pickOf
  rw [lookup_zip p h1 h2]
  rfl
theorem pick_map {Ts : List Addr} {ys : List V} (p : Ts.Pairwise (· < ·)) (h : Ts.length = ys.length) : Ts.map (pickOf Ts ys) = ys := by
  refine List.ext_getElem? fun j => ?_
  rw [List.getElem?_map]
  by_cases hj : j < Ts.length
  · have h1 : Ts[j]? = some Ts[j] := List.getElem?_eq_getElem hj
    have h2 : ys[j]? = some (ys[j]'(by omega)) := List.getElem?_eq_getElem (by omega)
    rw [h2, h1]
    show some (pickOf Ts ys Ts[j]) = _
    rw [pick_at p h1 h2]
  · rw [List.getElem?_eq_none (by omega), List.getElem?_eq_none (by omega)]
    rfl
theorem vals_refs : ∀ Ts : List Addr, Vals (Ts.map V.ref) (Ts.map Value.ref)
  | [] => .nil
  | _ :: Ts => .cons rfl (vals_refs Ts)
theorem extN_seq {K : PySem.W.Frag} {H H' : Hp} {a : Addr} {xs : List V} (e : LamX.ExtN H H') (h : SqL K H a xs) : SqL K H' a xs := by
  rcases h with (h | ⟨o, h⟩) | h
  · exact .inl (.inl (e _ _ h (fun _ q => by cases q)))
  · exact .inl (.inr ⟨o, e _ _ h (fun _ q => by cases q)⟩)
  · exact .inr h
open LamX in
/-- sorted(zip(xs, ys), key=lambda a: a[0]): some arrangement of the pairs, in new tuples; T: the tables of code objects -/
def tSortZip (K : PySem.W.Frag) (T : List (Addr × Str)) (ta : TA) : TE := fun σ H Q => ta σ H fun vs H1 => ∃ (a b : Addr) (ns : List Int) (ys : List V), vs = [.ref a, .ref b] ∧ SqL K H1 a (ns.map V.int) ∧ SqL K H1 b ys ∧ ys.length = ns.length ∧ Tabs T H1 ∧
  ∀ (H2 : Hp) (p : Addr) (Ts : List Addr) (g h : Addr → V), ExtN H1 H2 → Tabs T H2 → H1 p = none → H2 p = some (.lst (Ts.map V.ref)) → (∀ t ∈ Ts, H1 t = none ∧ H2 t = some (.tup [g t, h t])) → (Ts.map h).Perm ys → Q (.ref p) H2
section
variable {X : Cx} {e1 e2 : Expr} {ta : TA} {params : Arguments} {body : Expr} {scope : Scope} {a : Str} {T : List (Addr × Str)} {c P : Addr} {p zp zpos lpos kpos pos : Pos}
open LamX in
set_option maxHeartbeats 1000000 in
theorem pe_sortZip (hg : Gl X "sorted") (hm : X.mg "sorted" = none) (hg2 : Gl X "zip") (hm2 : X.mg "zip" = none) (hc : X.A.handled = none) (hu : X.A.units + 66 < cLine) (hdep : X.A.depth < recursionLimit) (L : Lam0 params body scope a)
    (TB : TabB X.base X.mg c P) (hcode : X.env.code = .ref c) (hmT : (P, X.env.qual ++ "<lambda>") ∈ T) (huT : ∀ p ∈ T, p.1 = P → p.2 = X.env.qual ++ "<lambda>") (hdef : defaultsOf params X.env = ([], [])) (ha : PA X [e1, e2] ta)
    (hs : starEach [e1, e2] X.env = (false, eval e1 X.env) :: starEach [e2] X.env := by rfl) (hpl : (backTo zpos (starEach [e2] X.env)).any (·.1) = false := by rfl)
    (he : backTo pos (starEach [.Call (.Name "zip" zp) [e1, e2] [] zpos] X.env) = (false, eval (.Call (.Name "zip" zp) [e1, e2] [] zpos) X.env) :: backTo pos (starEach [] X.env) := by rfl) (hpl2 : (backTo pos (starEach [.Call (.Name "zip" zp) [e1, e2] [] zpos] X.env)).any (·.1) = false := by rfl) :
    PE X (.Call (.Name "sorted" p) [.Call (.Name "zip" zp) [e1, e2] [] zpos] [⟨some "key", .Lambda params body scope lpos, kpos⟩] pos) (tSortZip X.K T ta) := by
  refine ⟨fun pins s σ H Q I h => ?_⟩
  refine wpAny_Call_Name_kw (ld_blt I hg hm boot_sorted ?_)
  refine PyProof.Rows.callWith_kw ?_ he hpl2 rfl rfl
  rw [he]
  refine Calls.spliced_cons (Call_ (ld_blt I hg2 hm2 PyProof.Rows.boot_zip (PyProof.Rows.callWith_type1 (thn (ha.run zpos pins s σ H _ I h) fun us s1 ⟨vs, H1, I1, r1, q1⟩ => ?_) hs hpl)))
  obtain ⟨l1, l2, ns, ys, ex, hq1, hq2, hyl, hT, q⟩ := q1
  subst ex
  cases r1 with
  | cons r rr =>
    cases rr with
    | cons r' rr =>
      cases rr
      cases r
      cases r'
      obtain ⟨its, rv, pl1, _⟩ := I1.list hq1
      obtain ⟨its2, rv2, pl2, _⟩ := I1.list hq2
      refine call_zip_2 pl1.isList pl2.isList fun h' hz hTI hTO h1 h2 hsz hk => ?_
      refine Calls.spliced_nil ?_
      have D := PySem.W.ktu_apart s1.heap.objs.size l1 l2 pl1.lt pl2.lt
      obtain ⟨N, eN⟩ : ∃ N : Nat, s1.heap.objs.size = N := ⟨_, rfl⟩
      rw [eN] at hz hTI hTO h1 h2 hsz D
      rw [eN]
      let fp : List Addr := [N + 4, N + 2, N + 3, N, N + 1]
      have fpin : ∀ b ∈ fp, b = N + 4 ∨ b = N + 2 ∨ b = N + 3 ∨ b = N ∨ b = N + 1 := fun b hb => by simpa [fp] using hb
      have fpge : ∀ b ∈ fp, N ≤ b := fun b hb => by
        rcases fpin b hb with e | e | e | e | e <;> rw [e]
        · exact Nat.le_add_right N 4
        · exact Nat.le_add_right N 2
        · exact Nat.le_add_right N 3
        · exact Nat.le_refl N
        · exact Nat.le_add_right N 1
      have fpok : ∀ b ∈ fp, FpOk X pins H1 b := fun b hb => I1.fpOk (by rw [eN]; exact fpge b hb) (I1.hok.fresh (by rw [eN]; exact fpge b hb))
      have fpobj : ∀ b ∈ fp, ∃ o, h'.get? b = some o ∧ ∀ v, o.data ≠ .cell v := fun b hb => by
        rcases fpin b hb with e | e | e | e | e
        · rw [e]; exact ⟨_, hz, fun v q => nomatch q⟩
        · rw [e]; exact ⟨_, hTI, fun v q => nomatch q⟩
        · rw [e]; exact ⟨_, hTO, fun v q => nomatch q⟩
        · rw [e]; obtain ⟨o, o1, _, o3⟩ := h1; exact ⟨o, o1, fun v q => by rw [o3] at q; cases q⟩
        · rw [e]; obtain ⟨o, o1, _, o3⟩ := h2; exact ⟨o, o1, fun v q => by rw [o3] at q; cases q⟩
      have I2 : Inv X pins σ H1 { s1 with heap := h' } := I1.kept (t' := s1.toks) hk
      have I2' := I2.pinned fpok fpobj
      have hfree : ∀ y ∈ scope.names, y.2 = .free → ∃ c, X.env.cells.lookup y.1 = some c := fun y hy e => by
        rw [L.names] at hy
        obtain rfl : y = (a, NameKind.local) := by simpa using hy
        cases e
      refine wpAny_evalAll_cons (wpAny_bind (lam_make2 I2' TB hcode hmT huT hT hdef hfree fun f c' pm ctv H2 s3 I3 eN2 T2 hf hfn hfr hco => (wpAny_bind (wpAny_standAt (wpAny_pure (wpAny_evalAll_nil ?_))))))
      have pin : ∀ b ∈ fp, ∀ o, h'.get? b = some o → s3.heap.get? b = some o ∧ H2 b = none := fun b hb o e => by
        have hm : (b, o) ∈ pinsAt fp h' := List.mem_filterMap.mpr ⟨b, hb, by rw [e]; rfl⟩
        obtain ⟨r1, r2, _⟩ := I3.pin (b, o) (List.mem_append_right _ (List.mem_append_right _ hm))
        exact ⟨r1, r2⟩
      have I4 := I3.unpinned
      have z3 := pin (N + 4) (by simp [fp]) _ hz
      have ti3 := pin (N + 2) (by simp [fp]) _ hTI
      have to3 := pin (N + 3) (by simp [fp]) _ hTO
      have a13 : s3.heap.IsListIter N l1 0 := h1.at fun o e => (pin N (by simp [fp]) o e).1
      have a23 : s3.heap.IsListIter (N + 1) l2 0 := h2.at fun o e => (pin (N + 1) (by simp [fp]) o e).1
      obtain ⟨its, rv, pl1', hz1⟩ := I4.list (extN_seq eN2 hq1)
      obtain ⟨its2, rv2, pl2', hz2⟩ := I4.list (extN_seq eN2 hq2)
      have len1 := rv.length
      have len2 := rv2.length
      rw [List.length_map] at len1
      have zlt : N + 4 < s3.heap.objs.size := Heap.lt_size z3.1
      have key : ∀ b ∈ fp, H2 b = none := fun b hb => by
        obtain ⟨o, e, _⟩ := fpobj b hb
        exact (pin b hb o e).2
      have old : ∀ b, b < N → b ≠ N + 4 ∧ b ≠ N + 3 ∧ b ≠ N ∧ b ≠ N + 1 := fun b hb => by omega
      have hbs : ∀ b o, X.base.get? b = some o → b < N := fun b o e => Nat.lt_of_lt_of_le (Heap.lt_size e) (by have := Nat.le_trans I1.ok.bsz I1.sz; rwa [eN] at this)
      show wpAny (model X.prog X.w) X.A (call (.builtin "sorted") [.ref (N + 4)] [(Str.ofString "key", .ref f)]) (EP X pins σ Q) X.xe s3
      refine zip_sorted (xs := its.toArray) (ys := its2.toArray) (ns := ns) D ?_ hc hu (by simp only [List.size_toArray]; omega) (by rw [List.size_toArray]; rw [List.length_map] at hz1; omega) z3.1 ti3.1 to3.1 a13 a23 pl1'.isList pl2'.isList (by rw [List.size_toArray]; omega) ?_ ?_ ?_
      · intro b hb
        have e : b = N + 4 ∨ b = N + 2 ∨ b = N + 3 ∨ b = N ∨ b = N + 1 ∨ b = l1 ∨ b = l2 := by simpa using hb
        rcases e with e | e | e | e | e | e | e
        · rw [e]; exact zlt
        · rw [e]; exact Heap.lt_size ti3.1
        · rw [e]; exact Heap.lt_size to3.1
        · rw [e]; obtain ⟨o, e, _⟩ := a13; exact Heap.lt_size e
        · rw [e]; obtain ⟨o, e, _⟩ := a23; exact Heap.lt_size e
        · rw [e]; exact pl1'.lt
        · rw [e]; exact pl2'.lt
      · intro j x n e1 e2
        have e2' : (ns.map V.int)[j]? = some (.int n) := by rw [List.getElem?_map, e2]; rfl
        obtain ⟨u, hu, ru⟩ := rv.get e2'
        have e1' : its[j]? = some x := by simpa using e1
        rw [hu] at e1'
        obtain rfl := Option.some.inj e1'
        exact ru
      · intro t n tk0 y h4 tk kp hp
        have fcls : ∀ (b : Addr) (o : Obj), s3.heap.get? b = some o → o.cls ≠ .type "function" → f ≠ b := fun b o e1 e2 e => by
          rw [← e, hf] at e1
          exact e2 (congrArg Obj.cls (Option.some.inj e1)).symm
        have nf : ∀ x : String, x ≠ "function" → (Value.type x) ≠ Value.type "function" := fun x hx e => by
          injection e with e
          exact hx e
        have f1 : f ≠ N + 4 := fcls _ _ z3.1 (nf "zip" (by decide))
        have f2 : f ≠ N + 3 := fcls _ _ to3.1 (nf "tuple" (by decide))
        have f3 : f ≠ N := by
          obtain ⟨o, e1, e2, _⟩ := a13
          exact fcls _ _ e1 (by rw [e2]; exact nf "list_iterator" (by decide))
        have f4 : f ≠ N + 1 := by
          obtain ⟨o, e1, e2, _⟩ := a23
          exact fcls _ _ e1 (by rw [e2]; exact nf "list_iterator" (by decide))
        have nc : ∀ b ∈ fp, c' ≠ b := fun b hb e => by
          have := key b hb
          rw [← e, hco] at this
          cases this
        obtain ⟨⟨oc, vs, tq, o1, o2, o3⟩, _, _⟩ := I4.hok c' _ hco
        have lim : h4.NoLimit := I4.ok.mod.nolimit.keeps fun b o e => by
          obtain ⟨m1, m2, m3, m4⟩ := old b (hbs b o e)
          exact kp b o m1 m2 m3 m4 (I4.bk b o e)
        exact lam_turn L hdep lim (kp _ _ f1 f2 f3 f4 hf) ⟨oc, vs, tq, kp _ _ (nc _ (by simp [fp])) (nc _ (by simp [fp])) (nc _ (by simp [fp])) (nc _ (by simp [fp])) o1, o2, o3⟩ hp
      · intro h4 tk p4 Ts Ts' c4 kp hTl pr hTp hp4 hperm hD
        have tne : ∀ b ∈ Ts, b ≠ p4 := fun b hb => Nat.ne_of_lt (hTp b hb)
        have tge : ∀ b ∈ Ts, s3.heap.objs.size < b := fun b hb => by
          obtain ⟨j, hj⟩ := List.getElem?_of_mem hb
          exact (pr.at_ j b hj).1
        let g : Addr → V := pickOf Ts (ns.map V.int)
        let k : Addr → V := pickOf Ts ys
        let H5 : Hp := fun b => if b = p4 then some (.lst (Ts'.map V.ref)) else if b ∈ Ts then some (.tup [g b, k b]) else H2 b
        have lowp : ∀ b, b < s3.heap.objs.size → b ≠ p4 := fun b hb => Nat.ne_of_lt (Nat.lt_trans hb hp4)
        have lowT : ∀ b, b < s3.heap.objs.size → b ∉ Ts := fun b hb hm => Nat.lt_irrefl _ (Nat.lt_trans hb (tge b hm))
        have low : ∀ b, b < s3.heap.objs.size → H5 b = H2 b := fun b hb => by
          show (if b = p4 then _ else if b ∈ Ts then _ else H2 b) = _
          rw [if_neg (lowp b hb), if_neg (lowT b hb)]
        have lowS : ∀ b u, H2 b = some u → H5 b = some u := fun b u e => by rw [low b (I4.hok.lt e)]; exact e
        have atP : H5 p4 = some (.lst (Ts'.map V.ref)) := if_pos rfl
        have atT : ∀ t ∈ Ts, H5 t = some (.tup [g t, k t]) := fun t ht => by
          show (if t = p4 then _ else if t ∈ Ts then _ else H2 t) = _
          rw [if_neg (tne t ht), if_pos ht]
        have kpo : ∀ b o, b ∉ fp → s3.heap.get? b = some o → h4.get? b = some o := fun b o hb e =>
          kp b o (fun z => hb (by rw [z]; simp [fp])) (fun z => hb (by rw [z]; simp [fp])) (fun z => hb (by rw [z]; simp [fp])) (fun z => hb (by rw [z]; simp [fp])) e
        have nfp : ∀ b u, H2 b = some u → b ∉ fp := fun b u e hb => by rw [key b hb] at e; cases e
        have new : ∀ t ∈ Ts, ObjOk X.prog X.w H5 h4 t (.tup [g t, k t]) := fun t ht => by
          obtain ⟨j, hj⟩ := List.getElem?_of_mem ht
          obtain ⟨_, x, y, x1, y1, pt⟩ := pr.at_ j t hj
          have hj1 : j < ns.length := by
            have := (List.getElem?_eq_some_iff.mp hj).1
            rw [List.size_toArray] at hTl
            omega
          have vx : (ns.map V.int)[j]? = some (.int ns[j]) := by rw [List.getElem?_map, List.getElem?_eq_getElem hj1]; rfl
          have vy : ys[j]? = some (ys[j]'(by omega)) := List.getElem?_eq_getElem (by omega)
          obtain ⟨u, hu, ru⟩ := rv.get vx
          obtain ⟨u2, hu2, ru2⟩ := rv2.get vy
          have ex : u = x := by
            have : its[j]? = some x := by simpa using x1
            rw [hu] at this
            exact Option.some.inj this
          have ey : u2 = y := by
            have : its2[j]? = some y := by simpa using y1
            rw [hu2] at this
            exact Option.some.inj this
          subst ex ey
          have gx : g t = .int ns[j] := pick_at pr.up hj vx
          have gy : k t = ys[j]'(by omega) := pick_at pr.up hj vy
          rw [gx, gy]
          exact ⟨by show 2 ≤ sizeLine; decide, [u, u2], .cons ru (.cons ru2 .nil), ⟨_, pt, rfl, _, rfl⟩⟩
        have newL : ObjOk X.prog X.w H5 h4 p4 (.lst (Ts'.map V.ref)) := by
          refine ⟨?_, Ts'.map Value.ref, c4, ?_, hD⟩
          · rw [List.length_map, hperm.length_eq, hTl, List.size_toArray]
            rw [List.length_map] at hz1
            omega
          · exact vals_refs Ts'
        have hok5 : HOk X.prog X.w H5 h4 := fun b u e => by
          by_cases hb : b = p4
          · rw [hb] at e ⊢
            rw [atP] at e
            cases e
            exact newL
          · by_cases hb2 : b ∈ Ts
            · rw [atT b hb2] at e
              cases e
              exact new b hb2
            · have e2 : H2 b = some u := by
                have : H5 b = H2 b := by
                  show (if b = p4 then _ else if b ∈ Ts then _ else H2 b) = _
                  rw [if_neg hb, if_neg hb2]
                rw [← this]
                exact e
              refine (I4.hok b u e2).stay (fun d v hd q => kpo d v ?_ q) (fun d q => lowS d _ q) fun d xs q => lowS d _ q
              rcases hd with z | z
              · rw [z]; exact nfp b u e2
              · exact nfp d _ z
        have I5 : Inv X pins σ H5 { s3 with heap := h4, toks := tk } := by
          refine I4.step (g' := s3.gens) (d' := s3.drawn) (ch := fp) (fun b hb => ?_) (fun b o _ _ hb e _ => kpo b o hb e) (fun b o _ _ hb e _ => ⟨o.slots, kpo b o hb e⟩) (fun b o _ e n => by rw [low b (Heap.lt_size e)]; exact n)
            (fun b o hb e => ⟨o, kpo b o hb e⟩) (fun b xs e => lowS b _ e) (fun b o u e => lowS b _ e) (fun b ps e => ⟨#[], by rw [lowS b _ e]; simp⟩) (fun m hm => ?_) hok5 I4.bare
          · obtain ⟨f0, f1, f2, f3, f4, f5⟩ := fpok b hb
            exact ⟨f3, f1, f4, f5⟩
          · obtain ⟨o, es, ep, ho, r⟩ := hm
            exact ⟨o, es, ep, kpo _ o (fun hb => (fpok _ hb).2.1 rfl) ho, r⟩
        have hE : ExtN H1 H5 := eN2.trans (ExtN.of lowS)
        refine ⟨.ref p4, H5, I5, rfl, q H5 p4 Ts' g k hE (T2.ext lowS) (I1.hok.fresh ?_) atP (fun t ht => ⟨I1.hok.fresh ?_, atT t (hperm.mem_iff.mp ht)⟩) ?_⟩
        · rw [eN]
          exact Nat.le_of_lt (Nat.lt_of_le_of_lt (Nat.le_add_right N 4) (Nat.lt_trans zlt hp4))
        · rw [eN]
          exact Nat.le_of_lt (Nat.lt_of_le_of_lt (Nat.le_add_right N 4) (Nat.lt_trans zlt (tge t (hperm.mem_iff.mp ht))))
        · refine (hperm.map k).trans ?_
          have : Ts.map k = ys := pick_map pr.up (by rw [hTl, List.size_toArray]; omega)
          rw [this]
end
end K24
/-! x in a tuple of data; f(k = v) with nothing by position -/
namespace K24
open PySem PySem.Spec PyProof.Rows L2
def rInDT (K : PySem.W.Frag) : R2 := fun x y H Q => ∃ d ds, Dp K H x d ∧ Dp K H y (.tuple ds) ∧ SeqAt.shaped d = true ∧ SeqAt.shaped (.tuple ds) = true ∧ Q (.bl (ds.any fun z => PyData.eqv z d)) H
theorem op_inDT {X : Cx} (hu : X.A.units + 65 < cLine) : OpR X (compareOp .In) (rInDT X.K) := by
  intro pins s σ H x y v u Q I rx ry h
  obtain ⟨d, ds, hd, he, sd, se, q⟩ := h
  obtain ⟨_, r1⟩ := Dp.reads I d x v hd rx
  obtain ⟨_, r2⟩ := Dp.reads I (.tuple ds) y u he ry
  exact SeqAt.in_tuple_reads r2 r1 (SeqAt.canLay_of_shaped se) (SeqAt.canLay_of_shaped sd) (room_in_shaped sd hu) ⟨.bl _, H, I, rfl, q⟩
def kw0 {α : Type} : List α → List α → List α
  | [], ws => ws
  | _ :: _, _ => []
def tCallK0 (sp : Sp) (E : XK) (tk : TA) : TE := fun σ H Q => tk σ H fun zs H2 => sp zs H2 Q E
section
variable {X : Cx} {CX : CXT} {k : Nat} {f : Addr} {fd : FuncData} {ps ks : List Str} {sp : Sp} {E : XK} {x : Str} {p pos : Pos} {kws : List Keyword} {tk : TA}
theorem pe_callK0 (F : FnOk X.prog X.w X.K X.mg X.base CX k f fd ps sp) (hr : Room k X.A) (hg : Gl X x) (hm : X.mg x = some (.ref f)) (hk : PySem.W.keepIn X.K (.ref f) = true) (hb : KBinds X.K fd ps ks kw0 kw0) (hx : Passes CX X E)
    (hkw : PK X kws tk) (ha : (backToKw pos (keywordEach kws X.env)).all (·.1.isSome) = true := by rfl) (hs : (backToKw pos (keywordEach kws X.env)).filterMap (·.1) = ks := by rfl)
    (hdb : (x == ("__debug__" : Str)) = false := by decide) (hpl : ((backTo pos (starEach [] X.env)).any (·.1) || (backToKw pos (keywordEach kws X.env)).any (·.1.isNone)) = false := by rfl) :
    PE X (.Call (.Name x p) [] kws pos) (tCallK0 sp E tk) := by
  refine ⟨fun pins s σ H Q I h => wpAny_Call_Name_kw (ld_glob I hg hm ?_ hdb)⟩
  refine PySem.W.callWith_KW0 (h₀ := X.base) I.ok.mod.kin hk ha (thn (hkw.run pos pins s σ H _ I h) fun ws s2 ⟨zs, H2, I2, rz, q2⟩ => ⟨I2.kIn, ?_⟩) hpl
  rw [hs]
  exact run_fnk (us := []) (vs := []) F hr hb hx I2 .nil rz q2
end
theorem kbinds {K : PySem.W.Frag} {x : Str} {st : Stmt} {f : Addr} {fd : FuncData} (F : Fun K x x st f fd) {ps : List Str} (hp : ps ≠ [])
    (h : ∀ (kV doc pm : Value) (an : Option Addr) (cdv ct : Value) (ws : List Value), ws.length = ps.length → bindArgs (PySem.W.fnOf x x (defArgs st) (defBody st) (defScope st) .none kV doc pm an cdv ct) ⟨[], ps.zip ws⟩ = pure (ps.zip ws)) : KBinds K fd ps ps kw0 kw0 := by
  obtain ⟨oc, od, kV, doc, pm, an, cdv, ct, osl, rfl, _, _⟩ := F.ex
  refine ⟨fun s us ws _ hl => ?_, fun {vs us zs ws} r1 r2 => ?_⟩
  · cases us with
    | nil => exact .of_eq (h kV doc pm an cdv ct ws hl)
    | cons u us =>
      have hl' : 0 = ps.length := hl
      exact absurd (List.eq_nil_of_length_eq_zero hl'.symm) hp
  · cases r1 with
    | nil => exact r2
    | cons _ _ => exact .nil
end K24
namespace K24
open PySem PySem.Spec PyProof.Rows L2
/-! the source of draws -/
theorem swp {N G : Prop} (a : N → G) (b : N) : G := a b
def DealAt (d q : Addr) (H : Hp) : Prop := ∃ (b : Int) (ds : List Int), H d = some (.lst [.ref q, .int b]) ∧ H q = some (.lst (ds.map V.int)) ∧ (∀ x ∈ ds, 0 ≤ x) ∧ ds.length ≤ 63 ∧ 0 ≤ b ∧ b < 2147483648 ∧ d ≠ q
/-- all but the two lists of the source is kept -/
def Dq (d q : Addr) (H H' : Hp) : Prop := ∀ x o, H x = some o → x ≠ d → x ≠ q → H' x = some o
theorem Dq.refl (d q : Addr) (H : Hp) : Dq d q H H := fun _ _ e _ _ => e
theorem Dq.trans {d q : Addr} {H H1 H2 : Hp} (a : Dq d q H H1) (b : Dq d q H1 H2) : Dq d q H H2 := fun x o e n m => b x o (a x o e n m) n m
theorem Dq.of {d q : Addr} {H H' : Hp} (s : Same H H') : Dq d q H H' := fun x o e _ _ => s x o e
theorem DealAt.sm {d q : Addr} {H H' : Hp} (D : DealAt d q H) (s : Same H H') : DealAt d q H' := by
  obtain ⟨b, ds, h1, h2, r⟩ := D
  exact ⟨b, ds, s _ _ h1, s _ _ h2, r⟩
theorem DealAt.kp {d q : Addr} {H H' : Hp} (D : DealAt d q H) (k : Dq d q H H') : Kp H H' := fun x o e n1 n2 => by
  obtain ⟨b, ds, h1, h2, r⟩ := D
  refine k x o e (fun z => ?_) fun z => ?_
  · rw [z, h1] at e
    exact n1 _ (Option.some.inj e).symm
  · rw [z, h2] at e
    exact n1 _ (Option.some.inj e).symm
theorem dq_q {d q : Addr} {H : Hp} {o : HO} : Dq d q H (upd H q o) := fun x u e _ n => by rw [upd_ne n]; exact e
theorem dq_d {d q : Addr} {H : Hp} {o : HO} : Dq d q H (upd H d o) := fun x u e n _ => by rw [upd_ne n]; exact e
theorem eqv_nil (ds : List PyData) : PyData.eqv (.list ds) (.list []) = ds.isEmpty := by
  cases ds with
  | nil => simp [PyData.eqv, PyData.eqvAll]
  | cons x ds => simp [PyData.eqv, PyData.eqvAll]
theorem shaped_ints (a : List Int) : SeqAt.shaped (.list (a.map PyData.int)) = true := by
  show ((PyData.list (a.map PyData.int)).canLay0 && decide ((PyData.list (a.map PyData.int)).depth ≤ 64)) = true
  rw [Bool.and_eq_true]
  refine ⟨by rw [PyData.canLay0]; exact lay_ints a, decide_eq_true ?_⟩
  rw [PyData.depth, dep_ints]
  decide
theorem shaped_nil : SeqAt.shaped (.list []) = true := shaped_ints []
theorem at_end {xs : List Int} {m : Int} (h : xs.getLast? = some m) : atI (xs.map V.int) (-1) = some (.int m) := by
  obtain ⟨ys, rfl⟩ := List.getLast?_eq_some_iff.mp h
  rw [List.map_append]
  exact atI_last _ _
theorem last_some {xs : List Int} (h : xs ≠ []) : ∃ m, xs.getLast? = some m := ⟨_, List.getLast?_eq_some_getLast h⟩
section
variable {P : Program} {w : World} {K : PySem.W.Frag} {mg : Str → Option Value} {base : Heap}
/-! _law_draw -/
abbrev s15 : Stmt := top 15
theorem sc15 : FnScope ["deal", "bound", "rest"] ["deal", "bound"] (defScope s15) := ⟨rfl, rfl, rfl, by decide +kernel, rfl, by decide +kernel, by decide +kernel⟩
def sp15 : Sp := fun vs H Q _ => ∃ (d q : Addr) (n : Nat), vs = [.ref d, .int n] ∧ DealAt d q H ∧ 0 < n ∧ n < 1000000000 ∧ ∀ (r : Nat) (H' : Hp), r < n → DealAt d q H' → Dq d q H H' → Q (.int r) H'
theorem ok15 {f : Addr} {fd : FuncData} (D : Df K mg "_law_draw" s15 f fd ["deal", "bound"]) (Z : Zs mg) : FnOk P w K mg base CX0 1 f fd ["deal", "bound"] sp15 := by
  refine D.F.ok sc15 (fun vs H Q E h => ?_) (fun cdv A outer s H vs Q E hr h => ?_)
  · obtain ⟨d, q, n, rfl, _⟩ := h
    rfl
  obtain ⟨d, q, n, rfl, hD, hn0, hn, qq⟩ := h
  have hu := hr.units
  refine ⟨_, pss_cons (ps_while PassesOwn.never (PW.pt (pw_and (pt_cmpR (op_neD hu) (pe_ix ix_list (pv 0) pe_int (fun _ _ => rfl)) (pe_lst pa_nil) (nomark _))
        (pw_and1 (pt_cmpR op_eq (pe_ix ix_list (pe_ix ix_list (pv 0) pe_int (fun _ _ => rfl)) (pe_un un_neg pe_int) (fun _ _ => rfl)) pe_int (nomark _)))))
      (pss_one (ps_expr (pe_bm0 PySem.F.plainAttrs_list PySem.F.slot_list_pop PySem.F.type_list_pop mt_pop (pe_ix ix_list (pv 0) pe_int (fun _ _ => rfl))))))
    (pss_cons (ps_if (pt_cmpR (op_neD hu) (pe_ix ix_list (pv 0) pe_int (fun _ _ => rfl)) (pe_lst pa_nil) (nomark _))
      (pss_cons (ps_set (i := 2) sc15.nd rfl (.inl rfl) (pe_bm0 PySem.F.plainAttrs_list PySem.F.slot_list_pop PySem.F.type_list_pop mt_pop (pe_ix ix_list (pv 0) pe_int (fun _ _ => rfl))))
      (pss_cons (ps_expr (pe_bm PySem.F.plainAttrs_list PySem.F.slot_list_append PySem.F.type_list_append mt_append (pe_ix ix_list (pv 0) pe_int (fun _ _ => rfl)) (pa_cons (pe_op op_fdiv (pv 2) (pv 1)) pa_nil)))
      (pss_one (ps_ret (pe_op op_mod (pe_callTy call_int1 rfl Z.int (by decide +kernel) (pa_cons (pv 2) pa_nil)) (pv 1)))))) pss_nil)
    (pss_cons (ps_asg (pe_op op_mod (pe_callTy call_int1 rfl Z.int (by decide +kernel) (pa_cons (pe_op op_add (pe_op op_mul (pe_ix ix_list (pv 0) pe_int (fun _ _ => rfl)) pe_int) pe_int) pa_nil)) pe_int) (pg_sub (pv 0) pe_int set_list))
    (pss_one (ps_ret (pe_op op_mod (pe_callTy call_int1 rfl Z.int (by decide +kernel) (pa_cons (pe_op op_fdiv (pe_ix ix_list (pv 0) pe_int (fun _ _ => rfl)) pe_int) pa_nil)) (pv 1)))))), ?_⟩
  have dp : ∀ (H1 : Hp) (ds : List Int), H1 q = some (.lst (ds.map V.int)) → Dp K H1 (.ref q) (.list (ds.map PyData.int)) := fun H1 ds e => .lst (SqL.of e) (dp_ints ds)
  have new : ∀ {H1 : Hp} {l : Addr} {o : HO}, H1 l = none → Same H1 (upd H1 l o) := fun h => same_upd h
  refine ⟨fun m σ H' => σ = [some (.ref d), some (.int n), none] ∧ Dq d q H H' ∧ ∃ (b : Int) (ds : List Int), H' d = some (.lst [.ref q, .int b]) ∧ H' q = some (.lst (ds.map V.int)) ∧ (∀ x ∈ ds, 0 ≤ x) ∧ ds.length ≤ 63 ∧ 0 ≤ b ∧ b < 2147483648 ∧ d ≠ q ∧ ds.length = m, ?_, ?_⟩
  · obtain ⟨b, ds, h1, h2, h3, h4, h5, h6, h7⟩ := hD
    exact ⟨ds.length, rfl, Dq.refl _ _ _, b, ds, h1, h2, h3, h4, h5, h6, h7, rfl⟩
  rintro m σ H1 ⟨rfl, k1, b, ds, h1, h2, h3, h4, h5, h6, h7, h8⟩
  refine ⟨_, rfl, d, _, 0, .ref q, rfl, rfl, SqL.of h1, rfl, Nat.zero_le _, fun l hl => ?_⟩
  have s1 := new (o := .lst []) hl
  refine ⟨.list (ds.map PyData.int), .list [], dp _ _ (s1 _ _ h2), .lst (SqL.of upd_same) .nil, shaped_ints ds, shaped_nil, _, rfl, ?_⟩
  rw [eqv_nil, List.isEmpty_map]
  have k2 : Dq d q H (upd H1 l (.lst [])) := k1.trans (.of s1)
  have g1 := s1 _ _ h1
  have g2 := s1 _ _ h2
  revert k2 g1 g2
  generalize upd H1 l (.lst []) = H2
  intro k2 g1 g2
  apply swp
  · intro nx
    by_cases he : ds = []
    · rw [show (!ds.isEmpty) = false by simp [he]]
      refine iteF ?_
      exact nx
    · rw [show (!ds.isEmpty) = true by simp [he]]
      refine iteT ?_
      obtain ⟨z, hz⟩ := last_some he
      refine ⟨_, rfl, d, _, 0, .ref q, rfl, rfl, SqL.of g1, rfl, _, rfl, q, _, -1, _, rfl, rfl, SqL.of g2, at_end hz, rfl, _, rfl, ?_⟩
      by_cases hz0 : z = 0
      · rw [show decide (V.int z = V.int 0) = true by rw [hz0]; decide]
        refine iteT ⟨fun σ' H' => ∃ m', m' < m ∧ (σ' = [some (.ref d), some (.int n), none] ∧ Dq d q H H' ∧ ∃ (b : Int) (ds : List Int), H' d = some (.lst [.ref q, .int b]) ∧ H' q = some (.lst (ds.map V.int)) ∧ (∀ x ∈ ds, 0 ≤ x) ∧ ds.length ≤ 63 ∧ 0 ≤ b ∧ b < 2147483648 ∧ d ≠ q ∧ ds.length = m'), fun _ _ h => h, ?_⟩
        refine ⟨_, rfl, d, _, 0, .ref q, rfl, rfl, SqL.of g1, rfl, .inl ⟨rfl, _, SqL.of g2⟩, ?_⟩
        have hp : 0 < ds.length := List.length_pos_iff.mpr he
        have hlast : (ds.map V.int)[(ds.map V.int).length - 1]? = some (.int z) := by
          rw [List.length_map, List.getElem?_map, ← List.getLast?_eq_getElem?, hz]
          rfl
        refine ⟨q, _, _, rfl, rfl, g2, hlast, ?_⟩
        refine ⟨m - 1, by omega, rfl, k2.trans dq_q, b, ds.dropLast, ?_, ?_, fun x hx => h3 x (List.dropLast_subset _ hx), ?_, h5, h6, h7, ?_⟩
        · rw [upd_ne h7]; exact g1
        · rw [upd_same, List.map_dropLast]
        · rw [List.length_dropLast]; omega
        · rw [List.length_dropLast]; omega
      · rw [show decide (V.int z = V.int 0) = false by simp [hz0]]
        refine iteF ?_
        exact nx
  · refine ⟨_, rfl, d, _, 0, .ref q, rfl, rfl, SqL.of g1, rfl, Nat.zero_le _, fun l2 hl2 => ?_⟩
    have s2 := new (o := .lst []) hl2
    refine ⟨.list (ds.map PyData.int), .list [], dp _ _ (s2 _ _ g2), .lst (SqL.of upd_same) .nil, shaped_ints ds, shaped_nil, _, rfl, ?_⟩
    rw [eqv_nil, List.isEmpty_map]
    have k3 : Dq d q H (upd H2 l2 (.lst [])) := k2.trans (.of s2)
    have f1 := s2 _ _ g1
    have f2 := s2 _ _ g2
    revert k3 f1 f2
    generalize upd H2 l2 (.lst []) = H3
    intro k3 f1 f2
    have hn' : (0 : Int) < (n : Int) := by omega
    have mod_ok : ∀ (a : Int) (H' : Hp), DealAt d q H' → Dq d q H H' → Q (.int (a % (n : Int))) H' := fun a H' h1 h2 => by
      have e : a % (n : Int) = ((a % (n : Int)).toNat : Int) := by
        have := Int.emod_nonneg a (show (n : Int) ≠ 0 by omega)
        omega
      rw [e]
      refine qq _ H' ?_ h1 h2
      have := Int.emod_lt_of_pos a hn'
      have := Int.emod_nonneg a (show (n : Int) ≠ 0 by omega)
      omega
    by_cases he : ds = []
    · rw [show (!ds.isEmpty) = false by simp [he]]
      refine iteF ?_
      refine ⟨_, rfl, d, _, 1, .int b, rfl, rfl, SqL.of f1, rfl, _, _, rfl, rfl, .inl ⟨by omega, by omega⟩, _, _, rfl, rfl, .inl ⟨_, rfl, _, _, rfl, rfl, (by show (0 : Int) < 2147483563; decide), ?_⟩⟩
      have hb := Int.emod_lt_of_pos (b * 40014 + 73) (show (0 : Int) < 2147483563 by decide)
      have hb0 := Int.emod_nonneg (b * 40014 + 73) (show (2147483563 : Int) ≠ 0 by decide)
      refine ⟨_, rfl, d, _, 1, 1, rfl, rfl, f1, rfl, ?_⟩
      have D4 : DealAt d q (upd H3 d (.lst ([V.ref q, V.int b].set 1 (.int ((b * 40014 + 73) % 2147483563))))) := by
        refine ⟨(b * 40014 + 73) % 2147483563, ds, upd_same, ?_, h3, h4, hb0, by omega, h7⟩
        rw [upd_ne (Ne.symm h7)]
        exact f2
      refine ⟨_, rfl, d, _, 1, .int ((b * 40014 + 73) % 2147483563), rfl, rfl, SqL.of upd_same, rfl, _, _, rfl, rfl, ⟨by decide, by decide⟩, .inl ⟨_, rfl, _, rfl, _, _, rfl, rfl, hn', ?_⟩⟩
      exact mod_ok _ _ D4 (k3.trans dq_d)
    · rw [show (!ds.isEmpty) = true by simp [he]]
      refine iteT ?_
      obtain ⟨z, hz⟩ := last_some he
      have hp : 0 < ds.length := List.length_pos_iff.mpr he
      have hlast : (ds.map V.int)[(ds.map V.int).length - 1]? = some (.int z) := by
        rw [List.length_map, List.getElem?_map, ← List.getLast?_eq_getElem?, hz]
        rfl
      have hz0 : 0 ≤ z := h3 z (List.mem_of_getLast? hz)
      refine ⟨_, rfl, d, _, 0, .ref q, rfl, rfl, SqL.of f1, rfl, .inl ⟨rfl, _, SqL.of f2⟩, q, _, _, rfl, rfl, f2, hlast, ?_⟩
      refine ⟨_, rfl, d, _, 0, .ref q, rfl, rfl, SqL.of (by rw [upd_ne h7]; exact f1), rfl, .inl ⟨rfl, _, SqL.of upd_same⟩, _, rfl, _, rfl, _, _, rfl, rfl, ⟨hn', by omega⟩, q, _, _, rfl, rfl, upd_same, ?_, ?_⟩
      · rw [List.length_dropLast, List.length_map]
        exact small1000 (by omega)
      · refine ⟨_, rfl, .inl ⟨_, rfl, _, rfl, _, _, rfl, rfl, hn', ?_⟩⟩
        refine mod_ok _ _ ⟨b, ds.dropLast ++ [z / n], ?_, ?_, fun x hx => ?_, ?_, h5, h6, h7⟩ ((k3.trans dq_q).trans dq_q)
        · rw [upd_ne h7, upd_ne h7]; exact f1
        · rw [upd_same, List.map_append, List.map_dropLast]; rfl
        · rcases List.mem_append.mp hx with hx | hx
          · exact h3 x (List.dropLast_subset _ hx)
          · obtain rfl : x = z / n := by simpa using hx
            exact Int.ediv_nonneg hz0 (by omega)
        · rw [List.length_append, List.length_dropLast]
          show _ + 1 ≤ 63
          omega
end
end K24
namespace K24
open PySem PySem.Spec PyProof.Rows L2
theorem lt_line {n : Nat} (h : n ≤ 1000000) : n < sizeLine := Nat.lt_of_le_of_lt h (by decide)
theorem erase_perm {α : Type} : ∀ {ls : List α} {r : Nat} (h : r < ls.length), (ls[r] :: ls.eraseIdx r).Perm ls
  | [], r, h => absurd h (Nat.not_lt_zero r)
  | a :: ls, 0, _ => List.Perm.refl _
  | a :: ls, r + 1, h => by
    have ih := erase_perm (ls := ls) (r := r) (by simpa using h)
    rw [List.getElem_cons_succ, List.eraseIdx_cons_succ]
    exact (List.Perm.swap _ _ _).trans (ih.cons a)
theorem seq_dq {K : PySem.W.Frag} {d q b : Addr} {H H' : Hp} {xs : List V} (h : SqL K H b xs) (k : Dq d q H H') (n : b ≠ d) (m : b ≠ q) : SqL K H' b xs := by
  rcases h with (h | ⟨o, h⟩) | h
  · exact .inl (.inl (k _ _ h n m))
  · exact .inl (.inr ⟨o, k _ _ h n m⟩)
  · exact .inr h
theorem Dq.new {d q l : Addr} {H H1 : Hp} {o : HO} (k : Dq d q H H1) (h : H l = none) : Dq d q H (upd H1 l o) := fun x u e n m => by
  rw [upd_ne (ne_of_none e h)]
  exact k x u e n m
theorem DealAt.upd {d q l : Addr} {H : Hp} {o : HO} (D : DealAt d q H) (n : l ≠ d) (m : l ≠ q) : DealAt d q (upd H l o) := by
  obtain ⟨b, ds, h1, h2, r⟩ := D
  exact ⟨b, ds, by rw [upd_ne (Ne.symm n)]; exact h1, by rw [upd_ne (Ne.symm m)]; exact h2, r⟩
theorem DealAt.ne {d q l : Addr} {H : Hp} (D : DealAt d q H) (h : H l = none) : l ≠ d ∧ l ≠ q := by
  obtain ⟨b, ds, h1, h2, r⟩ := D
  exact ⟨fun z => (by rw [z, h1] at h; cases h), fun z => (by rw [z, h2] at h; cases h)⟩
/-- data that == looks at -/
def okd (x : PyData) : Prop := x.canLay0 = true ∧ x.depth ≤ 60
def Dm (H : Hp) (xs : List V) : Prop := ∀ v ∈ xs, ∃ x, Dt H v x ∧ okd x
theorem Dm.dpAll {K : PySem.W.Frag} {H : Hp} : ∀ {xs : List V}, Dm H xs → ∃ ds, DpAll K H xs ds ∧ (∀ x ∈ ds, okd x) ∧ ds.length = xs.length
  | [], _ => ⟨[], .nil, by simp, rfl⟩
  | v :: xs, h => by
    obtain ⟨ds, h1, h2, h3⟩ := Dm.dpAll (K := K) (H := H) (xs := xs) fun u hu => h u (List.mem_cons_of_mem _ hu)
    obtain ⟨x, hx, ho⟩ := h v List.mem_cons_self
    refine ⟨x :: ds, .cons hx.dp h1, fun y hy => ?_, by simp [h3]⟩
    rcases List.mem_cons.mp hy with rfl | hy
    · exact ho
    · exact h2 y hy
theorem lay_all : ∀ {ds : List PyData}, (∀ x ∈ ds, okd x) → PyData.canLayAll0 ds = true ∧ PyData.depthAll ds ≤ 60
  | [], _ => by simp [PyData.canLayAll0, PyData.depthAll]
  | x :: ds, h => by
    obtain ⟨h1, h2⟩ := lay_all fun y hy => h y (List.mem_cons_of_mem _ hy)
    obtain ⟨h3, h4⟩ := h x List.mem_cons_self
    simp [PyData.canLayAll0, PyData.depthAll, h1, h3]
    omega
theorem shaped_all {ds : List PyData} (h : ∀ x ∈ ds, okd x) : SeqAt.shaped (.list ds) = true := by
  obtain ⟨h1, h2⟩ := lay_all h
  show ((PyData.list ds).canLay0 && decide ((PyData.list ds).depth ≤ 64)) = true
  rw [Bool.and_eq_true]
  refine ⟨by rw [PyData.canLay0]; exact h1, decide_eq_true ?_⟩
  rw [PyData.depth]
  omega
theorem Dm.mono {H : Hp} {xs ys : List V} (h : Dm H xs) (s : ∀ v ∈ ys, v ∈ xs) : Dm H ys := fun v hv => h v (s v hv)
theorem Dm.kp {H H' : Hp} {xs : List V} (h : Dm H xs) (k : Kp H H') : Dm H' xs := fun v hv => let ⟨x, a, b⟩ := h v hv; ⟨x, a.kp k, b⟩
theorem isEmpty_len {α β : Type} {xs : List α} {ys : List β} (h : xs.length = ys.length) : xs.isEmpty = ys.isEmpty := by
  cases xs <;> cases ys <;> simp at h <;> rfl
section
variable {P : Program} {w : World} {K : PySem.W.Frag} {mg : Str → Option Value} {base : Heap}
/-! _law_pick -/
abbrev s16 : Stmt := top 16
theorem sc16 : FnScope ["deal", "some"] ["deal", "some"] (defScope s16) := ⟨rfl, rfl, rfl, by decide +kernel, rfl, by decide +kernel, by decide +kernel⟩
def sp16 (K : PySem.W.Frag) : Sp := fun vs H Q _ => ∃ (d q b : Addr) (xs : List V), vs = [.ref d, .ref b] ∧ DealAt d q H ∧ SqL K H b xs ∧ xs ≠ [] ∧ xs.length < 1000000 ∧ b ≠ d ∧ b ≠ q ∧ ∀ (x : V) (H' : Hp), x ∈ xs → DealAt d q H' → Dq d q H H' → Q x H'
theorem ok16 {f f1 : Addr} {fd fd1 : FuncData} (D : Df K mg "_law_pick" s16 f fd ["deal", "some"]) (D1 : Df K mg "_law_draw" s15 f1 fd1 ["deal", "bound"]) (Z : Zs mg) : FnOk P w K mg base CX0 2 f fd ["deal", "some"] (sp16 K) := by
  have G : FnOk P w K mg base CX0 1 f1 fd1 ["deal", "bound"] sp15 := ok15 D1 Z
  refine D.F.ok sc16 (fun vs H Q E h => ?_) (fun cdv A outer s H vs Q E hr h => ?_)
  · obtain ⟨d, q, b, xs, rfl, _⟩ := h
    rfl
  obtain ⟨d, q, b, xs, rfl, hD, hb, h0, hl, n1, n2, qq⟩ := h
  refine ⟨_, pss_one (ps_ret (pe_ix ix_list (pv 1) (pe_call G hr rfl D1.g D1.F.kp D1.b .nil pass0 (pa_cons (pv 0) (pa_cons (pe_callB call_len_seq rfl Z.len PySem.boot_len (pa_cons (pv 1) pa_nil)) pa_nil))) (fun _ _ => rfl))), ?_⟩
  have hp : 0 < xs.length := List.length_pos_iff.mpr h0
  refine ⟨_, rfl, _, rfl, _, rfl, b, xs, rfl, .inl hb, d, q, xs.length, rfl, hD, hp, by omega, fun r H' hr hD' hk => ?_⟩
  exact ⟨b, xs, _, xs[r], rfl, rfl, seq_dq hb hk n1 n2, atI_nat (List.getElem?_eq_getElem hr), qq _ H' (List.getElem_mem hr) hD' hk⟩
/-! _law_mixed -/
abbrev s17 : Stmt := top 17
theorem sc17 : FnScope ["deal", "things", "left", "found"] ["deal", "things"] (defScope s17) := ⟨rfl, rfl, rfl, by decide +kernel, rfl, by decide +kernel, by decide +kernel⟩
def sp17 (K : PySem.W.Frag) : Sp := fun vs H Q _ => ∃ (d q b : Addr) (xs : List V), vs = [.ref d, .ref b] ∧ DealAt d q H ∧ SqL K H b xs ∧ Dm H xs ∧ xs.length ≤ 100000 ∧ ∀ (ys : List V) (p : Addr) (H' : Hp), ys.Perm xs → H p = none → H' p = some (.lst ys) → DealAt d q H' → Dq d q H H' → Q (.ref p) H'
theorem ok17 {f f1 : Addr} {fd fd1 : FuncData} (D : Df K mg "_law_mixed" s17 f fd ["deal", "things"]) (D1 : Df K mg "_law_draw" s15 f1 fd1 ["deal", "bound"]) (Z : Zs mg) : FnOk P w K mg base CX0 2 f fd ["deal", "things"] (sp17 K) := by
  have G : FnOk P w K mg base CX0 1 f1 fd1 ["deal", "bound"] sp15 := ok15 D1 Z
  refine D.F.ok sc17 (fun vs H Q E h => ?_) (fun cdv A outer s H vs Q E hr h => ?_)
  · obtain ⟨d, q, b, xs, rfl, _⟩ := h
    rfl
  obtain ⟨d, q, b, xs, rfl, hD, hb, hm, hl, qq⟩ := h
  have hu := hr.units
  refine ⟨_, pss_cons (ps_par (i := 2) (j := 3) (by rfl) sc17.nd rfl rfl (by decide) rfl rfl (pa_cons (pe_callTy call_list_of rfl Z.lst (by decide +kernel) (pa_cons (pv 1) pa_nil)) (pa_cons (pe_lst pa_nil) pa_nil)) (by rfl))
    (pss_cons (ps_while PassesOwn.never (pt_cmpR (op_neD hu) (pv 2) (pe_lst pa_nil) (nomark _))
      (pss_one (ps_expr (pe_bm PySem.F.plainAttrs_list PySem.F.slot_list_append PySem.F.type_list_append mt_append (pv 3) (pa_cons
        (pe_bm PySem.F.plainAttrs_list PySem.F.slot_list_pop PySem.F.type_list_pop mt_popAt (pv 2) (pa_cons (pe_call G hr rfl D1.g D1.F.kp D1.b .nil pass0 (pa_cons (pv 0) (pa_cons (pe_callB call_len_seq rfl Z.len PySem.boot_len (pa_cons (pv 2) pa_nil)) pa_nil))) pa_nil)) pa_nil)))))
    (pss_one (ps_ret (pv 3)))), ?_⟩
  refine ⟨_, rfl, b, xs, rfl, .inl hb, fun lf hlf => ?_⟩
  have sA : Same H (upd H lf (.lst xs)) := same_upd hlf
  refine ⟨Nat.zero_le _, fun fo hfo => ?_⟩
  have sB : Same (upd H lf (.lst xs)) (upd (upd H lf (.lst xs)) fo (.lst [])) := same_upd hfo
  have hfo0 : H fo = none := sA.free hfo
  have nlf : lf ≠ fo := fun z => by rw [z, upd_same] at hfo; cases hfo
  refine ⟨_, _, rfl, ?_⟩
  have ne1 := hD.ne hlf
  have ne2 := hD.ne hfo0
  have hKp : ∀ {H' : Hp}, Dq d q H H' → Dm H' xs := fun k => hm.kp (hD.kp k)
  let W : Nat → L2.St → Hp → Prop := fun m σ H' => σ = [some (.ref d), some (.ref b), some (.ref lf), some (.ref fo)] ∧ Dq d q H H' ∧ DealAt d q H' ∧ ∃ ls fs : List V, H' lf = some (.lst ls) ∧ H' fo = some (.lst fs) ∧ (ls ++ fs).Perm xs ∧ ls.length = m
  refine ⟨W, ⟨xs.length, rfl, (Dq.of (sA.trans sB)), hD.sm (sA.trans sB), xs, [], ?_, upd_same, by simp, rfl⟩, ?_⟩
  · rw [upd_ne nlf, upd_same]
  rintro m σ H1 ⟨rfl, k1, D1', ls, fs, h1, h2, hp, hlen⟩
  refine ⟨_, rfl, Nat.zero_le _, fun l hl => ?_⟩
  have s1 : Same H1 (upd H1 l (.lst [])) := same_upd hl
  have k2 : Dq d q H (upd H1 l (.lst [])) := k1.trans (.of s1)
  have D2 := D1'.sm s1
  have g1 := s1 _ _ h1
  have g2 := s1 _ _ h2
  have e0 : SqL K (upd H1 l (.lst [])) l [] := SqL.of upd_same
  revert k2 D2 g1 g2 e0
  generalize upd H1 l (.lst []) = H2
  intro k2 D2 g1 g2 e0
  obtain ⟨ds, q1, q2, q3⟩ := Dm.dpAll (K := K) ((hKp k2).mono fun v hv => hp.mem_iff.mp (List.mem_append_left fs hv))
  refine ⟨.list ds, .list [], .lst (SqL.of g1) q1, .lst e0 .nil, shaped_all q2, shaped_nil, _, rfl, ?_⟩
  rw [eqv_nil, isEmpty_len q3]
  have hpl := hp.length_eq
  rw [List.length_append] at hpl
  by_cases he : ls = []
  · rw [show (!ls.isEmpty) = false by simp [he]]
    refine iteF ?_
    refine ⟨_, rfl, ?_⟩
    rw [he, List.nil_append] at hp
    exact qq fs fo H2 hp hfo0 g2 D2 k2
  · rw [show (!ls.isEmpty) = true by simp [he]]
    refine iteT ⟨fun σ' H' => ∃ m', m' < m ∧ W m' σ' H', fun _ _ h => h, ?_⟩
    have hp0 : 0 < ls.length := List.length_pos_iff.mpr he
    refine ⟨_, rfl, .inl ⟨rfl, _, SqL.of g2⟩, _, rfl, .inl ⟨rfl, _, SqL.of g1⟩, _, rfl, _, rfl, lf, ls, rfl, .inl (SqL.of g1), d, q, ls.length, rfl, D2, hp0, by omega, fun r H3 hr3 D3 k3 => ?_⟩
    have f1 := k3 _ _ g1 ne1.1 ne1.2
    have f2 := k3 _ _ g2 ne2.1 ne2.2
    refine ⟨lf, ls, _, r, ls[r], rfl, rfl, f1, by omega, by omega, ?_, List.getElem?_eq_getElem hr3, fo, fs, _, rfl, rfl, ?_, ?_, ?_⟩
    · exact (ixN_seq (by unfold ixN; rw [if_pos (by omega), if_pos (by omega)]; rfl)).1
    · rw [upd_ne (Ne.symm nlf)]; exact f2
    · exact lt_line (by omega)
    · refine ⟨m - 1, by omega, rfl, ((k2.trans k3).new hlf).new hfo0, (D3.upd ne1.1 ne1.2).upd ne2.1 ne2.2, ls.eraseIdx r, fs ++ [ls[r]], ?_, upd_same, ?_, ?_⟩
      · rw [upd_ne nlf, upd_same]
      · refine List.Perm.trans ?_ hp
        have e1 : (ls[r] :: ls.eraseIdx r).Perm ls := erase_perm hr3
        refine List.Perm.trans ?_ (e1.append_right fs)
        rw [← List.append_assoc]
        exact (List.perm_append_comm (l₁ := ls.eraseIdx r ++ fs) (l₂ := [ls[r]]))
      · rw [List.length_eraseIdx, if_pos hr3]; omega
end
end K24
namespace K24
open PySem PySem.Spec PyProof.Rows L2
section
variable {P : Program} {w : World} {K : PySem.W.Frag} {mg : Str → Option Value} {base : Heap}
/-! _law_leaves -/
abbrev s18 : Stmt := top 18
theorem sc18 : FnScope ["shape", "found", "child"] ["shape"] (defScope s18) := ⟨rfl, rfl, rfl, by decide +kernel, rfl, by decide +kernel, by decide +kernel⟩
def sp18 (n : Nat) : Sp := fun vs H Q _ => ∃ v t, vs = [v] ∧ Dt H v (enc t) ∧ ok t ∧ (lv t).length ≤ n ∧ n ≤ 100 ∧ ∀ H' p, Same H H' → H p = none → H' p = some (.lst ((lv t).map V.int)) → Q (.ref p) H'
theorem ok18_step {n : Nat} {f : Addr} {fd : FuncData} (D : Df K mg "_law_leaves" s18 f fd ["shape"]) (Z : Zs mg)
    (G : FnOk P w K mg base CX0 (n + 1) f fd ["shape"] (sp18 n)) : FnOk P w K mg base CX0 (n + 2) f fd ["shape"] (sp18 (n + 1)) := by
  refine D.F.ok sc18 (fun vs H Q E h => ?_) (fun cdv A outer s H vs Q E hr h => ?_)
  · obtain ⟨v, t, rfl, _⟩ := h
    rfl
  obtain ⟨v, t, rfl, hd, ho, hl, hn, q⟩ := h
  refine ⟨_, pss_cons (ps_if (pt_truth (pe_callB call_isi rfl Z.isi (by decide +kernel) (pa_cons (pv 0) (pa_cons (pe_bltn (v := .ty "int") rfl Z.int (by decide +kernel) rfl) pa_nil))) (fun _ => rfl)) (pss_one (ps_ret (pe_lst (pa_cons (pv 0) pa_nil)))) pss_nil)
    (pss_cons (ps_set (i := 1) sc18.nd rfl (.inl rfl) (pe_lst pa_nil))
    (pss_cons (ps_for PassesOwn.never rfl (pi_tup (pe_ix ix_tup (pv 0) pe_int (fun _ _ => rfl))) (pg_name (i := 2) sc18.nd rfl (.inl rfl))
      (pss_one (ps_set (i := 1) sc18.nd rfl (.inl rfl) (pe_op op_cat (pv 1) (pe_call G hr rfl D.g D.F.kp D.b .nil pass0 (pa_cons (pv 2) pa_nil))))))
    (pss_one (ps_ret (pv 1))))), ?_⟩
  cases t with
  | leaf m =>
    obtain rfl := dt_leaf hd
    refine ⟨_, rfl, _, _, _, _, true, rfl, .ty _, .base (.int m), kit_ty (by decide +kernel), _, rfl, ?_⟩
    refine iteT ⟨_, rfl, (by show 1 ≤ sizeLine; decide), fun p hp => ?_⟩
    exact q _ p (same_upd hp) hp upd_same
  | knot k cs =>
    obtain ⟨a, b, xs, rfl, ha, hb, hx⟩ := dt_knot hd
    obtain ⟨_, hoc⟩ := ok_knot ho
    refine ⟨_, rfl, _, _, _, _, false, rfl, .ty _, .base (.tup ha), kit_ty (by decide +kernel), _, rfl, ?_⟩
    refine iteF ?_
    refine ⟨Nat.zero_le _, fun l hl' => ?_⟩
    have s0 : Same H (upd H l (.lst [])) := same_upd hl'
    refine ⟨_, rfl, a, _, 1, .ref b, rfl, rfl, SqT.of (s0 _ _ ha), rfl, b, rfl, ⟨_, SqT.of (s0 _ _ hb)⟩, ?_⟩
    have hlx := hx.length
    rw [List.length_map] at hlx
    rw [lv_knot] at hl
    refine for_it (walk_tup (K := K) (xs := xs)) (fun i σ H' => ∃ y l', σ = [some (.ref a), some (.ref l'), y] ∧ Same H H' ∧ H l' = none ∧ H' l' = some (.lst ((lvs (cs.take i)).map V.int)))
      ⟨none, l, rfl, s0, hl', by rw [upd_same]; simp [lvs]⟩ (fun i σ H' _ ⟨_, _, _, sm, _⟩ => SqT.of (sm _ _ hb)) ?_ ?_
    · rintro i x σ H1 H2 hi ⟨y, l', rfl, sm, hl0, hz⟩ ⟨rfl, hxi⟩
      obtain ⟨c, hci, hc, hdt⟩ := child_dt hx hxi
      have hlc := len_less ho hc
      rw [lv_knot] at hlc
      have := lvs_take_len (cs := cs) i
      have := len_child hc
      refine ⟨_, rfl, x, rfl, x, c, rfl, hdt.sm sm, hoc c hc, by omega, by omega, fun H3 p sm3 hp0 hpp => ?_⟩
      refine ⟨l', p, _, _, rfl, rfl, sm3 _ _ hz, hpp, ?_, fun p2 hp2 => ?_⟩
      · rw [List.length_map, List.length_map]
        exact line_big (by omega)
      · refine ⟨some x, p2, rfl, same_upd2 (sm.trans sm3) (sm.free (sm3.free hp2)), sm.free (sm3.free hp2), ?_⟩
        rw [upd_same, lvs_take hci, List.map_append]
    · rintro σ H1 ⟨y, l', rfl, sm, hl0, hz⟩
      refine ⟨_, rfl, ?_⟩
      refine q _ l' sm hl0 ?_
      rw [hlx, List.take_length] at hz
      rw [lv_knot]
      exact hz
theorem none18 {f : Addr} {fd : FuncData} : FnOk P w K mg base CX0 1 f fd ["shape"] (sp18 0) := by
  have no : ∀ vs H Q E, ¬ sp18 0 vs H Q E := fun vs H Q E h => by
    obtain ⟨v, t, _, _, ho, hl, _⟩ := h
    have := lv_ne t ho
    exact this (List.eq_nil_of_length_eq_zero (by omega))
  exact ⟨fun vs H Q E h => absurd h (no vs H Q E), fun A outer s H args us vs Q E _ _ _ _ h => absurd h (no vs H Q E)⟩
theorem ok18 {f : Addr} {fd : FuncData} (D : Df K mg "_law_leaves" s18 f fd ["shape"]) (Z : Zs mg) : ∀ n, FnOk P w K mg base CX0 (n + 1) f fd ["shape"] (sp18 n)
  | 0 => none18
  | n + 1 => ok18_step D Z (ok18 D Z n)
end
end K24
namespace K24
open PySem PySem.Spec PyProof.Rows L2
/-! lists of lists of places -/
inductive Gp (H : Hp) : List V → List (List Nat) → Prop
  | nil : Gp H [] []
  | cons {a : Addr} {g : List Nat} {vs : List V} {gs : List (List Nat)} : H a = some (.lst ((ixs g).map V.int)) → Gp H vs gs → Gp H (.ref a :: vs) (g :: gs)
theorem Gp.sm {H H' : Hp} (s : Same H H') : ∀ {vs : List V} {gs : List (List Nat)}, Gp H vs gs → Gp H' vs gs
  | _, _, .nil => .nil
  | _, _, .cons h t => .cons (s _ _ h) (t.sm s)
theorem Gp.length {H : Hp} : ∀ {vs : List V} {gs : List (List Nat)}, Gp H vs gs → vs.length = gs.length
  | _, _, .nil => rfl
  | _, _, .cons _ t => congrArg Nat.succ t.length
theorem Gp.app {H : Hp} {ws : List V} {hs : List (List Nat)} (u : Gp H ws hs) : ∀ {vs : List V} {gs : List (List Nat)}, Gp H vs gs → Gp H (vs ++ ws) (gs ++ hs)
  | _, _, .nil => u
  | _, _, .cons h t => .cons h (u.app t)
theorem Gp.get {H : Hp} : ∀ {vs : List V} {gs : List (List Nat)}, Gp H vs gs → ∀ {i : Nat} {v : V}, vs[i]? = some v → ∃ a g, v = .ref a ∧ gs[i]? = some g ∧ H a = some (.lst ((ixs g).map V.int))
  | _, _, .nil, i, v, h => by simp at h
  | _, _, .cons (a := a) (g := g) h t, 0, v, e => ⟨a, g, (Option.some.inj e).symm, rfl, h⟩
  | _, _, .cons h t, i + 1, v, e => t.get (i := i) (by simpa using e)
theorem Gp.one {H : Hp} {a : Addr} {g : List Nat} (h : H a = some (.lst ((ixs g).map V.int))) : Gp H [.ref a] [g] := .cons h .nil
theorem subs_len : ∀ n : Nat, (subs n).length = 2 ^ n
  | 0 => by simp [subs]
  | n + 1 => by simp [subs, subs_len n]; omega
/-- the heap without the list that grows -/
def mask (l : Addr) (H : Hp) : Hp := fun b => if b = l then none else H b
theorem mask_upd {l : Addr} {H : Hp} {o : HO} : mask l (upd H l o) = mask l H := by
  funext b
  unfold mask
  by_cases h : b = l
  · rw [if_pos h, if_pos h]
  · rw [if_neg h, if_neg h, upd_ne h]
theorem mask_same {l : Addr} {H H' : Hp} (s : Same H H') : Same (mask l H) (mask l H') := fun b o e => by
  unfold mask at e ⊢
  by_cases h : b = l
  · rw [if_pos h] at e; cases e
  · rw [if_neg h] at e ⊢; exact s _ _ e
theorem mask_sub {l : Addr} {H : Hp} : Same (mask l H) H := fun b o e => by
  unfold mask at e
  by_cases h : b = l
  · rw [if_pos h] at e; cases e
  · rw [if_neg h] at e; exact e
theorem same_mask {l : Addr} {H H' : Hp} (s : Same H H') (h : H l = none) : Same H (mask l H') := fun b o e => by
  unfold mask
  rw [if_neg (ne_of_none e h)]
  exact s _ _ e
theorem mask_at {l b : Addr} {H : Hp} {o : HO} (h : H b = some o) (n : b ≠ l) : mask l H b = some o := by
  unfold mask
  rw [if_neg n]
  exact h
theorem ixs_app (g h : List Nat) : ixs (g ++ h) = ixs g ++ ixs h := List.map_append
theorem good_line (g : List Nat) (h : 1 < g.length) : decide (V.int ((lst g : Nat) - (hd g : Nat)) = V.int ((g.length : Nat) - 1)) = good .line g := by
  unfold good
  rw [Bool.eq_iff_iff, decide_eq_true_iff, Bool.and_eq_true, decide_eq_true_iff, decide_eq_true_iff]
  constructor
  · intro e
    injection e with e
    exact ⟨h, by omega⟩
  · rintro ⟨_, e⟩
    rw [e]
    congr 1
    omega
theorem filter_snoc {α : Type} (p : α → Bool) {l : List α} {i : Nat} {x : α} (h : l[i]? = some x) : (l.take (i + 1)).filter p = (l.take i).filter p ++ (if p x = true then [x] else []) := by
  rw [take_snoc h, List.filter_append]
  congr 1
  by_cases q : p x = true
  · simp [q]
  · simp [q]
section
variable {P : Program} {w : World} {K : PySem.W.Frag} {mg : Str → Option Value} {base : Heap}
/-- len of a list or a tuple, K told -/
abbrev rLen (K : PySem.W.Frag) : List V → Hp → VK → Prop := fun xs H Q => ∃ p ys, xs = [V.ref p] ∧ (SqL K H p ys ∨ SqT K H p ys) ∧ Q (V.int (ys.length : Nat)) H
/-! _law_groups -/
abbrev s21 : Stmt := top 21
abbrev N21 : List Str := ["kind", "many", "groups", "at", "group"]
theorem sc21 : FnScope N21 ["kind", "many"] (defScope s21) := ⟨rfl, rfl, rfl, by decide +kernel, rfl, by decide +kernel, by decide +kernel⟩
def sp21 : Sp := fun vs H Q _ => ∃ (k : Kd) (n : Nat), vs = [.str (kname k), .int n] ∧ n ≤ 8 ∧ ∀ (H' : Hp) (p : Addr) (xs : List V), Same H H' → H p = none → H' p = some (.lst xs) → Gp H' xs (groups k n) → Q (.ref p) H'
theorem ok21 {f : Addr} {fd : FuncData} (D : Df K mg "_law_groups" s21 f fd ["kind", "many"]) (Z : Zs mg) : FnOk P w K mg base CX0 1 f fd ["kind", "many"] sp21 := by
  refine D.F.ok sc21 (fun vs H Q E h => ?_) (fun cdv A outer s H vs Q E hr h => ?_)
  · obtain ⟨k, n, rfl, _⟩ := h
    rfl
  obtain ⟨k, n, rfl, hn, q⟩ := h
  refine ⟨_, pss_cons (ps_set (i := 2) sc21.nd rfl (.inl rfl) (pe_lst (pa_cons (pe_lst pa_nil) pa_nil)))
    (pss_cons (ps_for PassesOwn.never rfl (pi_range1 rfl Z.rng (pa_cons (pv 1) pa_nil)) (pg_name (i := 3) sc21.nd rfl (.inr rfl))
      (pss_one (ps_set (i := 2) sc21.nd rfl (.inl rfl) (pe_op op_cat (pv 2)
        (pe_lc (own := [("group", 4)]) (g := gName 4) (tt := tYes) rfl sc21.nd (pi_list (pv 2)) (blkOk_by (N := N21) (sc := defScope s21) (by decide +kernel))
          (fun _ _ _ _ _ => pg_name (i := 4) sc21.nd rfl (.inl rfl)) (fun _ _ _ _ _ => pts_nil) (fun _ _ _ _ _ => pe_op (r := rCat) op_cat (pv 4) (pe_lst (pa_cons (pv 3) pa_nil))))))))
    (pss_cons (ps_if (pt_cmpR op_eq (pv 0) pe_str (nomark _)) (pss_one (ps_ret (pe_lst (pa_cons (pe_listRg rfl rfl Z.lst (prg_1 rfl Z.rng (pv 1))) pa_nil)))) pss_nil)
    (pss_cons (ps_if (pt_cmpR op_eq (pv 0) pe_str (nomark _)) (pss_one (ps_ret
        (pe_lc (own := [("group", 4)]) (g := gName 4) rfl sc21.nd (pi_list (pv 2)) (blkOk_by (N := N21) (sc := defScope s21) (by decide +kernel))
          (fun _ _ _ _ _ => pg_name (i := 4) sc21.nd rfl (.inl rfl)) (fun _ _ _ _ _ => pts_one (PW.pt (pw_and (pt_cmpR op_gt (pe_callB (r := rLen K) call_len_seq rfl Z.len PySem.boot_len (pa_cons (pv 4) pa_nil)) pe_int (nomark _))
            (pw_and1 (pt_cmpR op_eq (pe_op op_sub (pe_ix (r := rIxL K) ix_list (pv 4) (pe_un un_neg pe_int) (fun _ _ => rfl)) (pe_ix (r := rIxL K) ix_list (pv 4) pe_int (fun _ _ => rfl))) (pe_op op_sub (pe_callB (r := rLen K) call_len_seq rfl Z.len PySem.boot_len (pa_cons (pv 4) pa_nil)) pe_int) (nomark _))))))
          (fun _ _ _ _ _ => pv 4)))) pss_nil)
    (pss_one (ps_ret (pe_lc (own := [("group", 4)]) (g := gName 4) rfl sc21.nd (pi_list (pv 2)) (blkOk_by (N := N21) (sc := defScope s21) (by decide +kernel))
          (fun _ _ _ _ _ => pg_name (i := 4) sc21.nd rfl (.inl rfl)) (fun _ _ _ _ _ => pts_one (pt_cmpR op_gt (pe_callB (r := rLen K) call_len_seq rfl Z.len PySem.boot_len (pa_cons (pv 4) pa_nil)) pe_int (nomark _)))
          (fun _ _ _ _ _ => pv 4))))))), ?_⟩
  refine ⟨Nat.zero_le _, fun l0 hl0 => ⟨(by show 1 ≤ sizeLine; decide), fun l hl => ?_⟩⟩
  have sA : Same H (upd H l0 (.lst [])) := same_upd hl0
  have sB : Same (upd H l0 (.lst [])) (upd (upd H l0 (.lst [])) l (.lst [.ref l0])) := same_upd hl
  have hlH : H l = none := sA.free hl
  refine ⟨_, rfl, _, rfl, by omega, by omega, ?_⟩
  refine for_it (walk_range (lo := 0) (n := n)) (fun i σ H' => ∃ y l xs, σ = [some (.str (kname k)), some (.int n), some (.ref l), y, none] ∧ Same H H' ∧ H l = none ∧ H' l = some (.lst xs) ∧ Gp H' xs (subs i))
    ⟨none, l, _, rfl, sA.trans sB, hlH, upd_same, by
      simp only [subs]
      exact .one (sB _ _ upd_same)⟩ (fun i σ H' _ _ => trivial) ?_ ?_
  · rintro i x σ H0 H1 hi ⟨y, l1, xs, rfl, sm, hl1, hz, hg⟩ ⟨rfl, rfl⟩
    have hsl := subs_len i
    have hxl := hg.length
    have h256 : 2 ^ i ≤ 2 ^ 8 := Nat.pow_le_pow_right (by decide) (by omega)
    refine ⟨_, rfl, _, rfl, l1, rfl, ⟨_, SqL.of hz⟩, fun dd hdd => ?_⟩
    refine lc_it (walk_list (K := K) (xs := xs)) (fun j H' => Same H1 H' ∧ ∃ zs, H' dd = some (.lst zs) ∧ Gp (mask dd H') zs (((subs i).take j).map (· ++ [i]))) ⟨same_upd hdd, [], upd_same, by simpa using Gp.nil⟩
      (fun j H' _ ⟨s2, _⟩ => SqL.of (s2 _ _ hz)) ?_ ?_
    · rintro j u H0 H3 hj ⟨s3, zs, hzs, hgz⟩ ⟨rfl, hu⟩
      obtain ⟨a, g, rfl, hgj, hga⟩ := hg.get hu
      refine ⟨rfl, ?_⟩
      refine iteT (B := True) ?_
      refine ⟨_, rfl, _, rfl, (by show 1 ≤ sizeLine; decide), fun p1 hp1 => ?_⟩
      have s4 : Same H3 (upd H3 p1 (.lst [.int (0 + (i : Nat))])) := same_upd hp1
      have hgl : g.length ≤ i := by
        have := mem_subs.mp (List.mem_of_getElem? hgj)
        have q2 := nd_sub_len (a := ixs g) (b := ixs (List.range i)) (by unfold ixs; exact List.pairwise_map.mpr ((sn_nd this.1).imp fun h e => h (by omega))) (fun x hx => by
          unfold ixs at hx ⊢
          obtain ⟨m, hm, rfl⟩ := List.mem_map.mp hx
          exact List.mem_map.mpr ⟨m, List.mem_range.mpr (this.2 m hm), rfl⟩)
        simpa [ixs] using q2
      refine ⟨a, p1, _, _, rfl, rfl, s4 _ _ (s3 _ _ hga), upd_same, ?_, fun p2 hp2 => ?_⟩
      · rw [List.length_map, ixs, List.length_map]
        exact line_big (by show _ + 1 ≤ _; omega)
      · have s5 : Same (upd H3 p1 (.lst [.int (0 + (i : Nat))])) (upd (upd H3 p1 (.lst [.int (0 + (i : Nat))])) p2 (.lst ((ixs g).map V.int ++ [.int (0 + (i : Nat))]))) := same_upd hp2
        have s6 := s4.trans s5
        have nd2 : p2 ≠ dd := fun z => by rw [z] at hp2; rw [s4 _ _ hzs] at hp2; cases hp2
        refine ⟨zs, s6 _ _ hzs, ?_, same_upd2 (s3.trans s6) hdd, zs ++ [.ref p2], upd_same, ?_⟩
        · have := hgz.length
          rw [List.length_map, List.length_take] at this
          exact small1000 (by omega)
        · rw [mask_upd, take_snoc hgj, List.map_append]
          refine (Gp.one (mask_at ?_ nd2)).app (hgz.sm (mask_same s6))
          rw [upd_same, ixs_app, List.map_append]
          simp [ixs]
    · rintro H3 ⟨s3, zs, hzs, hgz⟩
      rw [hxl, List.take_length] at hgz
      refine ⟨l1, dd, _, _, rfl, rfl, s3 _ _ hz, hzs, ?_, fun p hp => ?_⟩
      · have := hgz.length
        rw [List.length_map] at this
        exact line_big (by omega)
      · refine ⟨_, p, _, rfl, same_upd2 (sm.trans s3) (sm.free (s3.free hp)), sm.free (s3.free hp), upd_same, ?_⟩
        rw [subs]
        exact ((hgz.sm mask_sub).app (hg.sm s3)).sm (same_upd hp)
  · rintro σ H1 ⟨y, l1, xs, rfl, sm, hl1, hz, hg⟩
    have hsl := subs_len n
    have hxl := hg.length
    have h256 : 2 ^ n ≤ 2 ^ 8 := Nat.pow_le_pow_right (by decide) (by omega)
    obtain ⟨n1, n2, n3, n4, n5⟩ := bare_ne
    refine ⟨_, rfl, rfl, _, rfl, ?_⟩
    match k, q with
    | .bare, q =>
      refine itT (str_eq rfl) ?_
      refine ⟨_, rfl, _, rfl, RgOk.of_le (by omega) (by omega) (by omega) (by omega), fun p hp => ⟨(by show 1 ≤ sizeLine; decide), fun p2 hp2 => ?_⟩⟩
      have t1 : Same H1 (upd H1 p (.lst (rgV 0 (n : Int)))) := same_upd hp
      have t2 := t1.trans (same_upd (o := .lst [.ref p]) hp2)
      refine q _ p2 [.ref p] (sm.trans t2) (sm.free (t1.free hp2)) upd_same ?_
      refine Gp.one ?_
      have np : p ≠ p2 := fun z => by rw [← z, upd_same] at hp2; cases hp2
      rw [upd_ne np, upd_same, rg_range]
    | .line, q =>
      refine itF (str_ne n1) ?_
      refine ⟨_, rfl, rfl, _, rfl, ?_⟩
      refine itT (str_eq rfl) ?_
      refine ⟨_, rfl, l1, rfl, ⟨_, SqL.of hz⟩, fun dd hdd => ?_⟩
      refine lc_it (walk_list (K := K) (xs := xs)) (fun j H' => Same H1 H' ∧ ∃ zs, H' dd = some (.lst zs) ∧ Gp (mask dd H') zs (((subs n).take j).filter (good .line))) ⟨same_upd hdd, [], upd_same, by simpa using Gp.nil⟩
        (fun j H' _ ⟨s2, _⟩ => SqL.of (s2 _ _ hz)) ?_ ?_
      · rintro j u H0 H3 hj ⟨s3, zs, hzs, hgz⟩ ⟨rfl, hu⟩
        obtain ⟨a, g, rfl, hgj, hga⟩ := hg.get hu
        have hga3 := s3 _ _ hga
        have na : a ≠ dd := ne_of_none hga hdd
        have hzl := hgz.length
        have hfl := List.length_filter_le (good .line) ((subs n).take j)
        rw [List.length_take] at hfl
        have keep : good .line g = true → Gp (mask dd (upd H3 dd (.lst (zs ++ [.ref a])))) (zs ++ [.ref a]) (((subs n).take (j + 1)).filter (good .line)) := fun e => by
          rw [mask_upd, filter_snoc (good .line) hgj, if_pos e]
          exact (Gp.one (mask_at hga3 na)).app hgz
        have drop : good .line g = false → Gp (mask dd H3) zs (((subs n).take (j + 1)).filter (good .line)) := fun e => by
          rw [filter_snoc (good .line) hgj, if_neg (by rw [e]; decide), List.append_nil]
          exact hgz
        refine ⟨rfl, ?_⟩
        have hll : (((ixs g).map V.int).length : Nat) = g.length := by rw [List.length_map, ixs, List.length_map]
        refine ⟨_, rfl, a, _, rfl, .inl (SqL.of hga3), _, _, rfl, rfl, _, rfl, ?_⟩
        rw [hll]
        by_cases h1 : 1 < g.length
        · have g0 : g ≠ [] := fun e => by rw [e] at h1; simp at h1
          refine itT (decide_eq_true (by omega)) ?_
          refine ⟨_, rfl, _, rfl, a, _, -1, _, rfl, rfl, SqL.of hga3, at_lst g0, _, rfl, a, _, 0, _, rfl, rfl, SqL.of hga3, at_hd g0, _, _, rfl, rfl, _, rfl, a, _, rfl, .inl (SqL.of hga3), _, _, rfl, rfl, rfl, _, rfl, ?_⟩
          rw [hll, good_line g h1]
          by_cases e : good .line g = true
          · refine itT e ?_
            exact ⟨_, rfl, zs, hzs, small1000 (by omega), same_upd2 s3 hdd, _, upd_same, keep e⟩
          · refine itF e ?_
            exact ⟨s3, zs, hzs, drop (by simpa using e)⟩
        · refine itF (fun z => h1 (by have := of_decide_eq_true z; omega)) ?_
          exact ⟨s3, zs, hzs, drop (by unfold good; simp [h1])⟩
      · rintro H3 ⟨s3, zs, hzs, hgz⟩
        rw [hxl, List.take_length] at hgz
        exact q _ dd zs (sm.trans s3) (sm.free hdd) hzs (hgz.sm mask_sub)
    | .free, q =>
      refine itF (str_ne n2) ?_
      refine ⟨_, rfl, rfl, _, rfl, ?_⟩
      refine itF (str_ne n3) ?_
      refine ⟨_, rfl, l1, rfl, ⟨_, SqL.of hz⟩, fun dd hdd => ?_⟩
      refine lc_it (walk_list (K := K) (xs := xs)) (fun j H' => Same H1 H' ∧ ∃ zs, H' dd = some (.lst zs) ∧ Gp (mask dd H') zs (((subs n).take j).filter (good .free))) ⟨same_upd hdd, [], upd_same, by simpa using Gp.nil⟩
        (fun j H' _ ⟨s2, _⟩ => SqL.of (s2 _ _ hz)) ?_ ?_
      · rintro j u H0 H3 hj ⟨s3, zs, hzs, hgz⟩ ⟨rfl, hu⟩
        obtain ⟨a, g, rfl, hgj, hga⟩ := hg.get hu
        have hga3 := s3 _ _ hga
        have na : a ≠ dd := ne_of_none hga hdd
        have hzl := hgz.length
        have hfl := List.length_filter_le (good .free) ((subs n).take j)
        rw [List.length_take] at hfl
        have keep : good .free g = true → Gp (mask dd (upd H3 dd (.lst (zs ++ [.ref a])))) (zs ++ [.ref a]) (((subs n).take (j + 1)).filter (good .free)) := fun e => by
          rw [mask_upd, filter_snoc (good .free) hgj, if_pos e]
          exact (Gp.one (mask_at hga3 na)).app hgz
        have drop : good .free g = false → Gp (mask dd H3) zs (((subs n).take (j + 1)).filter (good .free)) := fun e => by
          rw [filter_snoc (good .free) hgj, if_neg (by rw [e]; decide), List.append_nil]
          exact hgz
        refine ⟨rfl, ?_⟩
        have hll : (((ixs g).map V.int).length : Nat) = g.length := by rw [List.length_map, ixs, List.length_map]
        refine ⟨_, rfl, a, _, rfl, .inl (SqL.of hga3), _, _, rfl, rfl, _, rfl, ?_⟩
        rw [hll]
        by_cases h1 : 1 < g.length
        · have e : good .free g = true := decide_eq_true h1
          refine itT (decide_eq_true (by omega)) ?_
          exact ⟨_, rfl, zs, hzs, small1000 (by omega), same_upd2 s3 hdd, _, upd_same, keep e⟩
        · refine itF (fun z => h1 (by have := of_decide_eq_true z; omega)) ?_
          exact ⟨s3, zs, hzs, drop (decide_eq_false h1)⟩
      · rintro H3 ⟨s3, zs, hzs, hgz⟩
        rw [hxl, List.take_length] at hgz
        exact q _ dd zs (sm.trans s3) (sm.free hdd) hzs (hgz.sm mask_sub)
end
end K24
namespace K24
open PySem PySem.Spec PyProof.Rows L2
/-! lists of lists of ints -/
inductive Gi (H : Hp) : List V → List (List Int) → Prop
  | nil : Gi H [] []
  | cons {a : Addr} {L : List Int} {vs : List V} {Ls : List (List Int)} : H a = some (.lst (L.map V.int)) → Gi H vs Ls → Gi H (.ref a :: vs) (L :: Ls)
theorem Gi.sm {H H' : Hp} (s : Same H H') : ∀ {vs : List V} {Ls : List (List Int)}, Gi H vs Ls → Gi H' vs Ls
  | _, _, .nil => .nil
  | _, _, .cons h t => .cons (s _ _ h) (t.sm s)
theorem Gi.length {H : Hp} : ∀ {vs : List V} {Ls : List (List Int)}, Gi H vs Ls → vs.length = Ls.length
  | _, _, .nil => rfl
  | _, _, .cons _ t => congrArg Nat.succ t.length
theorem Gi.app {H : Hp} {ws : List V} {hs : List (List Int)} (u : Gi H ws hs) : ∀ {vs : List V} {Ls : List (List Int)}, Gi H vs Ls → Gi H (vs ++ ws) (Ls ++ hs)
  | _, _, .nil => u
  | _, _, .cons h t => .cons h (u.app t)
theorem Gi.get {H : Hp} : ∀ {vs : List V} {Ls : List (List Int)}, Gi H vs Ls → ∀ {i : Nat} {v : V}, vs[i]? = some v → ∃ a L, v = .ref a ∧ Ls[i]? = some L ∧ H a = some (.lst (L.map V.int))
  | _, _, .nil, i, v, h => by simp at h
  | _, _, .cons (a := a) (L := L) h t, 0, v, e => ⟨a, L, (Option.some.inj e).symm, rfl, h⟩
  | _, _, .cons h t, i + 1, v, e => t.get (i := i) (by simpa using e)
theorem Gi.one {H : Hp} {a : Addr} {L : List Int} (h : H a = some (.lst (L.map V.int))) : Gi H [.ref a] [L] := .cons h .nil
theorem flatten_take {α : Type} {Ls : List (List α)} {i : Nat} {L : List α} (h : Ls[i]? = some L) : (Ls.take (i + 1)).flatten = (Ls.take i).flatten ++ L := by
  rw [take_snoc h, List.flatten_append]
  simp
theorem flatten_take_len {α : Type} : ∀ (Ls : List (List α)) (i : Nat), (Ls.take i).flatten.length ≤ Ls.flatten.length
  | [], i => by simp
  | L :: Ls, 0 => by simp
  | L :: Ls, i + 1 => by
    have := flatten_take_len Ls i
    simp only [List.take_succ_cons, List.flatten_cons, List.length_append]
    omega
theorem flatten_mem_len {α : Type} : ∀ {Ls : List (List α)} {L : List α}, L ∈ Ls → L.length ≤ Ls.flatten.length
  | M :: Ls, L, h => by
    simp only [List.flatten_cons, List.length_append]
    rcases List.mem_cons.mp h with rfl | h
    · omega
    · have := flatten_mem_len h
      omega
theorem subs_cons : ∀ n : Nat, ∃ r, subs n = [] :: r ∧ ∀ g ∈ r, g ≠ []
  | 0 => ⟨[], by simp [subs], by simp⟩
  | n + 1 => by
    obtain ⟨r, e, h⟩ := subs_cons n
    refine ⟨r ++ (subs n).map (· ++ [n]), by rw [subs, e]; rfl, fun g hg => ?_⟩
    rcases List.mem_append.mp hg with hg | hg
    · exact h g hg
    · obtain ⟨z, _, rfl⟩ := List.mem_map.mp hg
      simp
section
variable {P : Program} {w : World} {K : PySem.W.Frag} {mg : Str → Option Value} {base : Heap}
/-! _law_union -/
abbrev s22 : Stmt := top 22
theorem sc22 : FnScope ["lots", "found", "lot"] ["lots"] (defScope s22) := ⟨rfl, rfl, rfl, by decide +kernel, rfl, by decide +kernel, by decide +kernel⟩
def sp22 (K : PySem.W.Frag) : Sp := fun vs H Q _ => ∃ (b : Addr) (xs : List V) (Ls : List (List Int)), vs = [.ref b] ∧ SqL K H b xs ∧ Gi H xs Ls ∧ Ls.flatten.length ≤ 1000 ∧ ∀ (H' : Hp) (p : Addr), Same H H' → H p = none → H' p = some (.tup ((srt Ls.flatten).map V.int)) → Q (.ref p) H'
theorem ok22 {f : Addr} {fd : FuncData} (D : Df K mg "_law_union" s22 f fd ["lots"]) (Z : Zs mg) : FnOk P w K mg base CX0 1 f fd ["lots"] (sp22 K) := by
  refine D.F.ok sc22 (fun vs H Q E h => ?_) (fun cdv A outer s H vs Q E hr h => ?_)
  · obtain ⟨b, xs, Ls, rfl, _⟩ := h
    rfl
  obtain ⟨b, xs, Ls, rfl, hb, hx, hl, q⟩ := h
  refine ⟨_, pss_cons (ps_set (i := 1) sc22.nd rfl (.inl rfl) (pe_lst pa_nil))
    (pss_cons (ps_for PassesOwn.never rfl (pi_list (pv 0)) (pg_name (i := 2) sc22.nd rfl (.inl rfl))
      (pss_one (ps_set (i := 1) sc22.nd rfl (.inl rfl) (pe_op op_cat (pv 1) (pe_callTy call_list_of rfl Z.lst (by decide +kernel) (pa_cons (pv 2) pa_nil))))))
    (pss_one (ps_ret (pe_callTy call_tuple_of rfl Z.tup (by decide +kernel) (pa_cons (pe_callB cr_sortedI rfl Z.sorted boot_sorted (pa_cons (pv 1) pa_nil)) pa_nil))))), ?_⟩
  refine ⟨Nat.zero_le _, fun l hl' => ?_⟩
  have s0 : Same H (upd H l (.lst [])) := same_upd hl'
  have hlx := hx.length
  refine ⟨_, rfl, b, rfl, ⟨_, s0.seq hb⟩, ?_⟩
  refine for_it (walk_list (K := K) (xs := xs)) (fun i σ H' => ∃ y l', σ = [some (.ref b), some (.ref l'), y] ∧ Same H H' ∧ H l' = none ∧ H' l' = some (.lst ((Ls.take i).flatten.map V.int)))
    ⟨none, l, rfl, s0, hl', by rw [upd_same]; simp⟩ (fun i σ H' _ ⟨_, _, _, sm, _⟩ => sm.seq hb) ?_ ?_
  · rintro i x σ H0 H1 hi ⟨y, l', rfl, sm, hl0, hz⟩ ⟨rfl, hxi⟩
    obtain ⟨a, L, rfl, hLi, ha⟩ := hx.get hxi
    have h1 := flatten_take_len Ls i
    have h2 := flatten_mem_len (List.mem_of_getElem? hLi)
    refine ⟨_, rfl, _, rfl, a, _, rfl, .inl (SqL.of (sm _ _ ha)), fun p hp => ?_⟩
    have s1 : Same H1 (upd H1 p (.lst (L.map V.int))) := same_upd hp
    refine ⟨l', p, _, _, rfl, rfl, s1 _ _ hz, upd_same, ?_, fun p2 hp2 => ?_⟩
    · rw [List.length_map, List.length_map]
      exact line_big (by omega)
    · refine ⟨_, p2, rfl, same_upd2 (sm.trans s1) (sm.free (s1.free hp2)), sm.free (s1.free hp2), ?_⟩
      rw [upd_same, flatten_take hLi, List.map_append]
  · rintro σ H1 ⟨y, l', rfl, sm, hl0, hz⟩
    rw [hlx, List.take_length] at hz
    refine ⟨_, rfl, l', Ls.flatten, rfl, SqL.of hz, fun ns' p pm so hp0 => ?_⟩
    refine ⟨p, _, rfl, .inl ⟨SqL.of upd_same, fun p2 hp2 => ?_⟩⟩
    have s2 : Same H (upd H1 p (.lst (ns'.map V.int))) := same_upd2 sm (sm.free hp0)
    refine q _ p2 (same_upd2 s2 (s2.free hp2)) (s2.free hp2) ?_
    rw [upd_same, srt_uniq pm so]
/-! _law_overlap -/
abbrev s25 : Stmt := top 25
abbrev N25 : List Str := ["one", "other", "many", "part"]
theorem sc25 : FnScope N25 ["one", "other"] (defScope s25) := ⟨rfl, rfl, rfl, by decide +kernel, rfl, by decide +kernel, by decide +kernel⟩
instance ovlDec (a b : List Int) : Decidable (ovl a b) := by unfold ovl; exact inferInstance
def sp25 (K : PySem.W.Frag) : Sp := fun vs H Q _ => ∃ (a b : Addr) (L M : List Int), vs = [.ref a, .ref b] ∧ SqT K H a (L.map V.int) ∧ SqT K H b (M.map V.int) ∧ L.length ≤ 100 ∧ M.length ≤ 100 ∧ ∀ (H' : Hp), Same H H' → Q (.bl (decide (ovl L M))) H'
theorem ok25 {f : Addr} {fd : FuncData} (D : Df K mg "_law_overlap" s25 f fd ["one", "other"]) (Z : Zs mg) : FnOk P w K mg base CX0 1 f fd ["one", "other"] (sp25 K) := by
  refine D.F.ok sc25 (fun vs H Q E h => ?_) (fun cdv A outer s H vs Q E hr h => ?_)
  · obtain ⟨a, b, L, M, rfl, _⟩ := h
    rfl
  obtain ⟨a, b, L, M, rfl, ha, hb, hL, hM, q⟩ := h
  refine ⟨_, pss_cons (ps_set (i := 2) sc25.nd rfl (.inl rfl) (pe_callB call_len_seq rfl Z.len PySem.boot_len (pa_cons
        (pe_lc (own := [("part", 3)]) (g := gName 3) rfl sc25.nd (pi_tup (pv 0)) (blkOk_by (N := N25) (sc := defScope s25) (by decide +kernel))
          (fun _ _ _ _ _ => pg_name (i := 3) sc25.nd rfl (.inl rfl)) (fun _ _ _ _ _ => pts_one (pt_cmpR (r := rIn K false) op_in_seq (pv 3) (pv 1) (by with_unfolding_all rfl)))
          (fun _ _ _ _ _ => pv 3)) pa_nil)))
    (pss_one (ps_ret (pe_chain op_lt op_lt pe_int (pv 2) (pe_callB (call_min2 rfl) rfl Z.min (by decide +kernel) (pa_cons (pe_callB call_len_seq rfl Z.len PySem.boot_len (pa_cons (pv 0) pa_nil)) (pa_cons (pe_callB call_len_seq rfl Z.len PySem.boot_len (pa_cons (pv 1) pa_nil)) pa_nil)))))), ?_⟩
  refine ⟨_, rfl, a, rfl, ⟨_, ha⟩, fun dd hdd => ?_⟩
  refine lc_it (walk_tup (K := K) (xs := L.map V.int)) (fun j H' => Same H H' ∧ H' dd = some (.lst (((L.take j).filter fun x => decide (x ∈ M)).map V.int))) ⟨same_upd hdd, upd_same⟩ (fun j H' _ ⟨s2, _⟩ => sm_tup s2 ha) ?_ ?_
  · rintro j u H0 H1 hj ⟨s1, hz⟩ ⟨rfl, hu⟩
    obtain ⟨m, hm, rfl⟩ := int_at hu
    refine ⟨rfl, ?_⟩
    refine ⟨_, rfl, _, rfl, b, _, rfl, .inr (sm_tup s1 hb), rfl, flat_ints _, _, rfl, ?_⟩
    simp only [Bool.false_eq_true, if_false, in_ints]
    by_cases e : m ∈ M
    · refine itT (decide_eq_true e) ?_
      refine ⟨_, rfl, _, hz, ?_, same_upd2 s1 hdd, ?_⟩
      · have := List.length_filter_le (fun x => decide (x ∈ M)) (L.take j)
        rw [List.length_take] at this
        rw [List.length_map]
        exact small1000 (by omega)
      · rw [upd_same, filter_snoc _ hm, if_pos (by simp [e]), List.map_append]
        rfl
    · refine itF (by simp [e]) ?_
      refine ⟨s1, ?_⟩
      rw [filter_snoc _ hm, if_neg (by simp [e]), List.append_nil]
      exact hz
  · rintro H1 ⟨s1, hz⟩
    rw [List.length_map, List.take_length] at hz
    refine ⟨dd, _, rfl, .inl (SqL.of hz), ?_⟩
    have e : ((((L.filter fun x => decide (x ∈ M)).map V.int).length : Nat) : Int) = (common L M : Nat) := by rw [List.length_map]; rfl
    rw [e]
    refine ⟨_, rfl, _, _, rfl, rfl, _, rfl, ?_⟩
    by_cases h0 : 0 < common L M
    · refine itT (decide_eq_true (by omega)) ?_
      refine ⟨_, rfl, a, _, rfl, .inr (sm_tup s1 ha), _, rfl, b, _, rfl, .inr (sm_tup s1 hb), _, _, rfl, ?_⟩
      rw [List.length_map, List.length_map]
      refine ⟨_, _, rfl, rfl, ?_⟩
      have e2 : decide ((common L M : Int) < if (M.length : Int) < (L.length : Int) then (M.length : Int) else (L.length : Int)) = decide (ovl L M) := by
        refine decide_eq_decide.mpr ?_
        unfold ovl
        constructor
        · intro h
          refine ⟨h0, ?_⟩
          split at h <;> omega
        · rintro ⟨_, h⟩
          split <;> omega
      show Q (.bl (decide ((common L M : Int) < if (M.length : Int) < (L.length : Int) then (M.length : Int) else (L.length : Int)))) H1
      rw [e2]
      exact q _ s1
    · refine itF (fun z => h0 (by have := of_decide_eq_true z; omega)) ?_
      have e2 : decide (ovl L M) = false := decide_eq_false fun h => h0 h.1
      rw [← e2]
      exact q _ s1
/-! _law_lots -/
abbrev s24 : Stmt := top 24
abbrev N24 : List Str := ["many", "found", "part", "lot"]
theorem sc24 : FnScope N24 ["many"] (defScope s24) := ⟨rfl, rfl, rfl, by decide +kernel, rfl, by decide +kernel, by decide +kernel⟩
def lotsN (n : Nat) : List (List Int) := (subs n).map ixs
theorem lotsN_succ (n : Nat) : lotsN (n + 1) = lotsN n ++ (lotsN n).map (· ++ [(n : Int)]) := by
  unfold lotsN
  rw [subs, List.map_append, List.map_map, List.map_map]
  congr 1
  refine List.map_congr_left fun g _ => ?_
  simp [ixs]
theorem mem_lotsN {n : Nat} {L : List Int} (h : L ∈ lotsN n) : SS L ∧ ∀ x ∈ L, 0 ≤ x ∧ x < n := by
  obtain ⟨g, hg, rfl⟩ := List.mem_map.mp h
  obtain ⟨h1, h2⟩ := mem_subs.mp hg
  refine ⟨?_, fun x hx => ?_⟩
  · unfold ixs
    exact List.pairwise_map.mpr (h1.imp fun h => by omega)
  · unfold ixs at hx
    obtain ⟨i, hi, rfl⟩ := List.mem_map.mp hx
    have := h2 i hi
    omega
def sp24 : Sp := fun vs H Q _ => ∃ (n : Nat), vs = [.int n] ∧ n ≤ 8 ∧ ∀ (H' : Hp) (p : Addr) (zs : List V) (Ls : List (List Int)), Same H H' → H p = none → H' p = some (.lst zs) → Dts H' zs (Ls.map lotD) → (∀ L ∈ Ls, L ≠ [] ∧ SS L ∧ ∀ x ∈ L, 0 ≤ x ∧ x < n) → Ls.length ≤ 256 → Q (.ref p) H'
theorem ok24 {f : Addr} {fd : FuncData} (D : Df K mg "_law_lots" s24 f fd ["many"]) (Z : Zs mg) : FnOk P w K mg base CX0 1 f fd ["many"] sp24 := by
  refine D.F.ok sc24 (fun vs H Q E h => ?_) (fun cdv A outer s H vs Q E hr h => ?_)
  · obtain ⟨n, rfl, _⟩ := h
    rfl
  obtain ⟨n, rfl, hn, q⟩ := h
  refine ⟨_, pss_cons (ps_set (i := 1) sc24.nd rfl (.inl rfl) (pe_lst (pa_cons (pe_tup pa_nil) pa_nil)))
    (pss_cons (ps_for PassesOwn.never rfl (pi_range1 rfl Z.rng (pa_cons (pv 0) pa_nil)) (pg_name (i := 2) sc24.nd rfl (.inr rfl))
      (pss_one (ps_set (i := 1) sc24.nd rfl (.inl rfl) (pe_op op_cat (pv 1)
        (pe_lc (own := [("lot", 3)]) (g := gName 3) (tt := tYes) rfl sc24.nd (pi_list (pv 1)) (blkOk_by (N := N24) (sc := defScope s24) (by decide +kernel))
          (fun _ _ _ _ _ => pg_name (i := 3) sc24.nd rfl (.inl rfl)) (fun _ _ _ _ _ => pts_nil) (fun _ _ _ _ _ => pe_op (r := rCatA K) op_catA (pv 3) (pe_tup (pa_cons (pv 2) pa_nil))))))))
    (pss_one (ps_ret (pe_slice sl_list (pe_callB (cr_sortTI (lt2 hr)) rfl Z.sorted boot_sorted (pa_cons (pv 1) pa_nil)) (po_some pe_int) po_none)))), ?_⟩
  refine ⟨Nat.zero_le _, fun t0 ht0 => ⟨(by show 1 ≤ sizeLine; decide), fun l hl => ?_⟩⟩
  have sA : Same H (upd H t0 (.tup [])) := same_upd ht0
  have sB : Same (upd H t0 (.tup [])) (upd (upd H t0 (.tup [])) l (.lst [.ref t0])) := same_upd hl
  have hlH : H l = none := sA.free hl
  refine ⟨_, rfl, _, rfl, by omega, by omega, ?_⟩
  have llen : ∀ i, (lotsN i).length = 2 ^ i := fun i => by rw [lotsN, List.length_map, subs_len]
  refine for_it (walk_range (lo := 0) (n := n)) (fun i σ H' => ∃ y l xs, σ = [some (.int n), some (.ref l), y, none] ∧ Same H H' ∧ H l = none ∧ H' l = some (.lst xs) ∧ Dts H' xs ((lotsN i).map lotD))
    ⟨none, l, _, rfl, sA.trans sB, hlH, upd_same, Dts.one (dt_lot_mk (L := []) (sB _ _ upd_same))⟩ (fun i σ H' _ _ => trivial) ?_ ?_
  · rintro i x σ H0 H1 hi ⟨y, l1, xs, rfl, sm, hl1, hz, hg⟩ ⟨rfl, rfl⟩
    have hsl := llen i
    have hxl := hg.length
    rw [List.length_map] at hxl
    have h256 : 2 ^ i ≤ 2 ^ 8 := Nat.pow_le_pow_right (by decide) (by omega)
    refine ⟨_, rfl, _, rfl, l1, rfl, ⟨_, SqL.of hz⟩, fun dd hdd => ?_⟩
    refine lc_it (walk_list (K := K) (xs := xs)) (fun j H' => Same H1 H' ∧ ∃ zs, H' dd = some (.lst zs) ∧ Dts H' zs ((((lotsN i).take j).map (· ++ [(i : Int)])).map lotD)) ⟨same_upd hdd, [], upd_same, by simpa using Dts.nil⟩
      (fun j H' _ ⟨s2, _⟩ => SqL.of (s2 _ _ hz)) ?_ ?_
    · rintro j u H0 H3 hj ⟨s3, zs, hzs, hgz⟩ ⟨rfl, hu⟩
      obtain ⟨dd1, hdd1, hud⟩ := hg.get hu
      rw [List.getElem?_map] at hdd1
      cases hLj : (lotsN i)[j]? with
      | none => rw [hLj] at hdd1; simp at hdd1
      | some L =>
        rw [hLj] at hdd1
        obtain rfl : lotD L = dd1 := Option.some.inj hdd1
        obtain ⟨a, rfl, hga⟩ := dt_lot hud
        obtain ⟨hss, hLb⟩ := mem_lotsN (List.mem_of_getElem? hLj)
        have hLlen : L.length ≤ i := by
          have := nd_sub_len (a := L) (b := ixs (List.range i)) (ss_nd hss) (fun x hx => by
            have := hLb x hx
            unfold ixs
            exact List.mem_map.mpr ⟨x.toNat, List.mem_range.mpr (by omega), by omega⟩)
          simpa [ixs] using this
        refine ⟨rfl, ?_⟩
        refine iteT (B := True) ?_
        refine ⟨_, rfl, _, rfl, (by show 1 ≤ sizeLine; decide), fun p1 hp1 => ?_⟩
        have s4 : Same H3 (upd H3 p1 (.tup [.int (0 + (i : Nat))])) := same_upd hp1
        have e0 : [V.int (0 + (i : Nat))] = ([(i : Int)]).map V.int := by simp
        -- the grown list of lots
        have fin : ∀ (H5 : Hp) (p : Addr), Same H3 H5 → H5 p = some (.tup ((L ++ [(i : Int)]).map V.int)) → ∃ acc, H5 dd = some (.lst acc) ∧ acc.length < sizeLine ∧ (Same H1 (upd H5 dd (.lst (acc ++ [.ref p]))) ∧ ∃ zs, (upd H5 dd (.lst (acc ++ [.ref p]))) dd = some (.lst zs) ∧ Dts (upd H5 dd (.lst (acc ++ [.ref p]))) zs ((((lotsN i).take (j + 1)).map (· ++ [(i : Int)])).map lotD)) := fun H5 p s5 hp => by
          have hz5 := s5 _ _ hzs
          refine ⟨zs, hz5, ?_, same_upd2 (s3.trans s5) hdd, _, upd_same, ?_⟩
          · have := hgz.length
            rw [List.length_map, List.length_map, List.length_take] at this
            exact small1000 (by omega)
          · rw [take_snoc hLj, List.map_append, List.map_append]
            exact ((hgz.sm s5).app (.one (dt_lot_mk hp))).kp (kp_list (H1 := H5) hz5)
        refine ⟨a, p1, L.map V.int, _, rfl, rfl, SqT.of (s4 _ _ (s3 _ _ hga)), SqT.of upd_same, ?_, fun h0 => ?_, fun _ h1 => (by cases h1), fun _ _ p2 hp2 => ?_⟩
        · rw [List.length_map]
          exact line_big (by show _ + 1 ≤ _; omega)
        · have h0' : L = [] := by simpa using h0
          exact fin _ p1 s4 (by rw [upd_same, h0']; simp)
        · have s5 := s4.trans (same_upd (o := .tup (L.map V.int ++ [.int (0 + (i : Nat))])) hp2)
          exact fin _ p2 s5 (by rw [upd_same]; simp)
    · rintro H3 ⟨s3, zs, hzs, hgz⟩
      rw [hxl, List.take_length] at hgz
      refine ⟨l1, dd, _, _, rfl, rfl, s3 _ _ hz, hzs, ?_, fun p hp => ?_⟩
      · have := hgz.length
        rw [List.length_map, List.length_map] at this
        exact line_big (by omega)
      · refine ⟨_, p, _, rfl, same_upd2 (sm.trans s3) (sm.free (s3.free hp)), sm.free (s3.free hp), upd_same, ?_⟩
        rw [lotsN_succ, List.map_append]
        exact ((hg.sm s3).app hgz).sm (same_upd hp)
  · rintro σ H1 ⟨y, l1, xs, rfl, sm, hl1, hz, hg⟩
    have hxl := hg.length
    rw [List.length_map, llen] at hxl
    have h256 : 2 ^ n ≤ 2 ^ 8 := Nat.pow_le_pow_right (by decide) (by omega)
    obtain ⟨r, er, hr0⟩ := subs_cons n
    obtain ⟨e1, e2⟩ := dts_lots hg
    have eh : lotsN n = [] :: r.map ixs := by rw [lotsN, er]; rfl
    have hrne : ∀ L ∈ r.map ixs, L ≠ [] := fun L hL => by
      obtain ⟨g, hg, rfl⟩ := List.mem_map.mp hL
      have := hr0 g hg
      unfold ixs
      simpa using this
    obtain ⟨x0, xr, rfl⟩ : ∃ x0 xr, xs = x0 :: xr := by
      cases xs with
      | nil => rw [eh] at e1; simp at e1
      | cons x0 xr => exact ⟨x0, xr, rfl⟩
    rw [eh, List.map_cons] at e1
    have k0 : tI H1 x0 = [] := (List.cons.inj e1).1.symm
    have kr : r.map ixs = xr.map (tI H1) := (List.cons.inj e1).2
    refine ⟨_, rfl, l1, _, tI H1, rfl, SqL.of hz, fun x hx => ?_, .inr ⟨x0, xr, rfl, k0⟩, fun ys p pm so hp => ?_⟩
    · obtain ⟨a, ea, ha⟩ := dt_lot (e2 x hx)
      exact ⟨a, ea, SqT.of ha⟩
    · -- the one without parts comes first
      have hin : ∀ L ∈ lotsN n, SS L ∧ ∀ x ∈ L, 0 ≤ x ∧ x < n := fun L h => mem_lotsN h
      obtain ⟨y0, yr, rfl⟩ : ∃ y0 yr, ys = y0 :: yr := by
        cases ys with
        | nil => have := pm.length_eq; simp at this
        | cons y0 yr => exact ⟨y0, yr, rfl⟩
      have ky : tI H1 y0 = [] := by
        have hx0 : x0 ∈ y0 :: yr := pm.mem_iff.mpr List.mem_cons_self
        rcases List.mem_cons.mp hx0 with e | hx
        · rw [← e]; exact k0
        · have := (List.pairwise_cons.mp so).1 x0 hx
          rw [k0] at this
          cases hy : tI H1 y0 with
          | nil => rfl
          | cons z zs => rw [hy] at this; simp [HT.lexLt] at this
      have pk := pm.map (tI H1)
      rw [List.map_cons, List.map_cons, ky, k0, ← kr] at pk
      have pr : (yr.map (tI H1)).Perm (r.map ixs) := (List.perm_cons []).mp pk
      have sP : Same H1 (upd H1 p (.lst (y0 :: yr))) := same_upd hp
      refine ⟨1, rfl, p, _, rfl, SqL.of upd_same, fun p2 hp2 => ?_⟩
      have sQ := sP.trans (same_upd (o := .lst (cutV (y0 :: yr) (some 1) none)) hp2)
      have ecut : cutV (y0 :: yr) (some 1) none = yr := by
        unfold cutV
        have a1 : HT.sIx (y0 :: yr).length 0 (some 1) = 1 := by
          simp [HT.sIx]
        have a2 : HT.sIx (y0 :: yr).length (y0 :: yr).length none = (y0 :: yr).length := by
          simp [HT.sIx]
        rw [a1, a2]
        simp
      rw [ecut] at sQ ⊢
      refine q _ p2 yr (yr.map (tI H1)) (sm.trans sQ) (sm.free (sP.free hp2)) upd_same ?_ (fun L hL => ?_) ?_
      · refine (lots_dts fun y hy => ?_).sm sQ
        exact e2 y (pm.mem_iff.mp (List.mem_cons_of_mem _ hy))
      · have hL2 := pr.mem_iff.mp hL
        have hm : L ∈ lotsN n := by rw [eh]; exact List.mem_cons_of_mem _ hL2
        exact ⟨hrne L hL2, hin L hm⟩
      · have := pm.length_eq
        rw [List.length_map]
        simp at this hxl
        omega
end
end K24
namespace K24
open PySem PySem.Spec PyProof.Rows L2
def qlD (z : List Int × List Int × List Nat) : PyData := .tuple [lotD z.1, plD z.2]
theorem groups_len (k : Kd) (n : Nat) (h : n ≤ 8) : (groups k n).length ≤ 256 := by
  have h1 : (subs n).length ≤ 256 := by
    rw [subs_len]
    have : 2 ^ n ≤ 2 ^ 8 := Nat.pow_le_pow_right (by decide) h
    omega
  cases k with
  | bare => simp [groups]
  | line => exact Nat.le_trans (List.length_filter_le _ _) h1
  | free => exact Nat.le_trans (List.length_filter_le _ _) h1
theorem places_len : ∀ t : Tr, ok t → (lv t).length ≤ 8 → (places t).length ≤ 256 * (trees t).length := Tr.ind (fun n _ _ => by simp [places, trees]) fun k cs ih o hl => by
  obtain ⟨h2, ho⟩ := ok_knot o
  rw [lv_knot] at hl
  have hc := cs_len ho
  have key : ∀ ds : List Tr, (∀ d ∈ ds, d ∈ cs) → (placess ds).length ≤ 256 * (treess ds).length := by
    intro ds
    induction ds with
    | nil => intro _; simp [placess]
    | cons d ds ih2 =>
      intro h
      have hd := h d List.mem_cons_self
      have h1 := ih d hd (ho d hd) (by have := len_child hd; omega)
      have h3 := ih2 fun e he => h e (List.mem_cons_of_mem _ he)
      simp only [placess, treess, List.length_append]
      omega
  have h1 := key cs fun d h => h
  have h3 := groups_len k cs.length (by omega)
  rw [places, trees, List.length_append, List.length_map, List.length_cons]
  omega
theorem placess_take {cs : List Tr} {i : Nat} {c : Tr} (h : cs[i]? = some c) : placess (cs.take (i + 1)) = placess (cs.take i) ++ places c := by
  have e : ∀ ds : List Tr, placess ds = ds.flatMap places := by
    intro ds
    induction ds with
    | nil => simp [placess]
    | cons d ds ih => simp [placess, ih]
  rw [e, e, take_snoc h]
  simp
theorem placess_take_len {cs : List Tr} (i : Nat) : (placess (cs.take i)).length ≤ (placess cs).length := by
  induction cs generalizing i with
  | nil => simp [placess]
  | cons d cs ih =>
    cases i with
    | zero => simp [placess]
    | succ i =>
      have := ih i
      simp only [List.take_succ_cons, placess, List.length_append]
      omega
theorem placess_mem_len {cs : List Tr} {c : Tr} (hc : c ∈ cs) : (places c).length ≤ (placess cs).length := by
  induction cs with
  | nil => exact absurd hc (by simp)
  | cons d cs ih =>
    simp only [placess, List.length_append]
    rcases List.mem_cons.mp hc with e | e
    · rw [e]; omega
    · have := ih e
      omega
theorem dt_pl {H : Hp} {p1 p2 p3 p4 p5 : Addr} {z : List Int × List Int × List Nat} (h1 : H p1 = some (.tup [.ref p2, .ref p3])) (h2 : H p2 = some (.tup (z.1.map V.int))) (h3 : H p3 = some (.tup [.ref p4, .ref p5])) (h4 : H p4 = some (.tup (z.2.1.map V.int))) (h5 : H p5 = some (.tup ((ixs z.2.2).map V.int))) : Dt H (.ref p1) (qlD z) :=
  .tup h1 (.cons (dt_lot_mk h2) (.cons (.tup h3 (.cons (dt_lot_mk h4) (.cons (dt_lot_mk h5) .nil))) .nil))
theorem places_ne : ∀ t : Tr, ok t → places t ≠ [] := Tr.ind (fun n _ => by simp [places]) fun k cs ih o => by
  obtain ⟨h2, ho⟩ := ok_knot o
  match cs, h2, ih, ho with
  | c :: cs, _, ih, ho =>
    have := ih c List.mem_cons_self (ho c List.mem_cons_self)
    simp [places, placess, this]
theorem Gp.off {H : Hp} {l b : Addr} {zs : List V} (hl : H l = some (.lst zs)) (hb : V.ref b ∈ zs) : ∀ {vs : List V} {gs : List (List Nat)}, Gp H vs gs → Gp (mask l H) vs gs
  | _, _, .nil => .nil
  | _, _, .cons (a := a) (g := g) h t => by
    refine .cons (mask_at h fun z => ?_) (t.off hl hb)
    rw [z, hl] at h
    have e : zs = (ixs g).map V.int := by injection (Option.some.inj h)
    rw [e] at hb
    obtain ⟨m, _, hm⟩ := List.mem_map.mp hb
    cases hm
theorem dts_ref {H : Hp} {vs : List V} {ds : List PyData} (h : Dts H vs (ds)) (ht : ∀ d ∈ ds, ∃ xs, d = .tuple xs) (h0 : ds ≠ []) : ∃ b, V.ref b ∈ vs := by
  cases h with
  | nil => exact absurd rfl h0
  | cons h t =>
    obtain ⟨xs, rfl⟩ := ht _ List.mem_cons_self
    obtain ⟨a, _, rfl, _⟩ := h.tup_of
    exact ⟨a, List.mem_cons_self⟩
section
variable {P : Program} {w : World} {K : PySem.W.Frag} {mg : Str → Option Value} {base : Heap}
/-! _law_places -/
abbrev s26 : Stmt := top 26
abbrev N26 : List Str := ["shape", "child", "found", "lots", "whole", "group", "at"]
theorem sc26 : FnScope N26 ["shape"] (defScope s26) := ⟨rfl, rfl, rfl, by decide +kernel, rfl, by decide +kernel, by decide +kernel⟩
def sp26 (n : Nat) : Sp := fun vs H Q _ => ∃ v t, vs = [v] ∧ Dt H v (enc t) ∧ ok t ∧ (lv t).length ≤ n ∧ n ≤ 8 ∧ ∀ (H' : Hp) (p : Addr) (zs : List V), Same H H' → H p = none → H' p = some (.lst zs) → Dts H' zs ((places t).map qlD) → Q (.ref p) H'
theorem ok26_step {n : Nat} {f f18 f21 f22 : Addr} {fd fd18 fd21 fd22 : FuncData} (D : Df K mg "_law_places" s26 f fd ["shape"]) (D18 : Df K mg "_law_leaves" s18 f18 fd18 ["shape"]) (D21 : Df K mg "_law_groups" s21 f21 fd21 ["kind", "many"]) (D22 : Df K mg "_law_union" s22 f22 fd22 ["lots"]) (Z : Zs mg)
    (G : FnOk P w K mg base CX0 (n + 2) f fd ["shape"] (sp26 n)) : FnOk P w K mg base CX0 (n + 3) f fd ["shape"] (sp26 (n + 1)) := by
  have G18 : FnOk P w K mg base CX0 (n + 2) f18 fd18 ["shape"] (sp18 (n + 1)) := ok18 D18 Z (n + 1)
  have G21 : FnOk P w K mg base CX0 1 f21 fd21 ["kind", "many"] sp21 := ok21 D21 Z
  have G22 : FnOk P w K mg base CX0 1 f22 fd22 ["lots"] (sp22 K) := ok22 D22 Z
  refine D.F.ok sc26 (fun vs H Q E h => ?_) (fun cdv A outer s H vs Q E hr h => ?_)
  · obtain ⟨v, t, rfl, _⟩ := h
    rfl
  obtain ⟨v, t, rfl, hd, ho, hl, hn, q⟩ := h
  have hr1 : Room 1 _ := hr.mono (by omega)
  refine ⟨_, pss_cons (ps_if (pt_truth (pe_callB call_isi rfl Z.isi (by decide +kernel) (pa_cons (pv 0) (pa_cons (pe_bltn (v := .ty "int") rfl Z.int (by decide +kernel) rfl) pa_nil))) (fun _ => rfl))
      (pss_one (ps_ret (pe_lst (pa_cons (pe_tup (pa_cons (pe_tup (pa_cons (pv 0) pa_nil)) (pa_cons (pe_tup (pa_cons (pe_tup (pa_cons (pv 0) pa_nil)) (pa_cons (pe_tup pa_nil) pa_nil))) pa_nil))) pa_nil)))) pss_nil)
    (pss_cons (ps_asg (pe_tup (pa_cons (pe_lst pa_nil) (pa_cons (pe_lc (own := [("child", 1)]) (g := gName 1) (tt := tYes) rfl sc26.nd (pi_tup (pe_ix ix_tup (pv 0) pe_int (fun _ _ => rfl))) (blkOk_by (N := N26) (sc := defScope s26) (by decide +kernel))
          (fun _ _ _ _ _ => pg_name (i := 1) sc26.nd rfl (.inl rfl)) (fun _ _ _ _ _ => pts_nil) (fun _ _ _ _ _ => pe_call G18 hr rfl D18.g D18.F.kp D18.b .nil pass0 (pa_cons (pv 1) pa_nil))) pa_nil)))
        (pg_tup rfl (pgs_cons (pg_name (i := 2) sc26.nd rfl (.inl rfl)) (pgs_cons (pg_name (i := 3) sc26.nd rfl (.inr rfl)) pgs_nil))))
    (pss_cons (ps_for PassesOwn.never rfl (pi_tup (pe_ix ix_tup (pv 0) pe_int (fun _ _ => rfl))) (pg_name (i := 1) sc26.nd rfl (.inl rfl))
      (pss_one (ps_set (i := 2) sc26.nd rfl (.inl rfl) (pe_op op_cat (pv 2) (pe_call G hr rfl D.g D.F.kp D.b .nil pass0 (pa_cons (pv 1) pa_nil))))))
    (pss_cons (ps_set (i := 4) sc26.nd rfl (.inl rfl) (pe_callTy call_tuple_of rfl Z.tup (by decide +kernel) (pa_cons (pe_callB cr_sortedI rfl Z.sorted boot_sorted (pa_cons (pe_call G18 hr rfl D18.g D18.F.kp D18.b .nil pass0 (pa_cons (pv 0) pa_nil)) pa_nil)) pa_nil)))
    (pss_cons (ps_for PassesOwn.never rfl (pi_list (pe_call G21 hr1 rfl D21.g D21.F.kp D21.b .nil pass0 (pa_cons (pe_ix ix_tup (pv 0) pe_int (fun _ _ => rfl)) (pa_cons (pe_callB call_len_seq rfl Z.len PySem.boot_len (pa_cons (pv 3) pa_nil)) pa_nil)))) (pg_name (i := 5) sc26.nd rfl (.inl rfl))
      (pss_one (ps_expr (pe_bm PySem.F.plainAttrs_list PySem.F.slot_list_append PySem.F.type_list_append mt_append (pv 2) (pa_cons
        (pe_tup (pa_cons (pe_call G22 hr1 rfl D22.g D22.F.kp D22.b .nil pass0 (pa_cons
            (pe_lc (own := [("at", 6)]) (g := gName 6) (tt := tYes) rfl sc26.nd (pi_list (pv 5)) (blkOk_by (N := N26) (sc := defScope s26) (by decide +kernel))
              (fun _ _ _ _ _ => pg_name (i := 6) sc26.nd rfl (.inl rfl)) (fun _ _ _ _ _ => pts_nil) (fun _ _ _ _ _ => pe_ix (r := rIxL K) ix_list (pv 3) (pv 6) (fun _ _ => rfl))) pa_nil))
          (pa_cons (pe_tup (pa_cons (pv 4) (pa_cons (pe_callTy call_tuple_of rfl Z.tup (by decide +kernel) (pa_cons (pv 5) pa_nil)) pa_nil))) pa_nil))) pa_nil)))))
    (pss_one (ps_ret (pv 2))))))), ?_⟩
  cases t with
  | leaf m =>
    obtain rfl := dt_leaf hd
    refine ⟨_, rfl, _, _, _, _, true, rfl, .ty _, .base (.int m), kit_ty (by decide +kernel), _, rfl, ?_⟩
    refine iteT ?_
    refine ⟨_, rfl, (by show 1 ≤ sizeLine; decide), fun p2 hp2 => ⟨_, rfl, (by show 1 ≤ sizeLine; decide), fun p4 hp4 => ⟨Nat.zero_le _, fun p5 hp5 => ⟨(by show 2 ≤ sizeLine; decide), fun p3 hp3 => ⟨(by show 2 ≤ sizeLine; decide), fun p1 hp1 => ⟨(by show 1 ≤ sizeLine; decide), fun p hp => ?_⟩⟩⟩⟩⟩⟩
    have t2 := same_upd (o := .tup [.int m]) hp2
    have t4 := same_upd (o := .tup [.int m]) hp4
    have t5 := same_upd (o := .tup []) hp5
    have t3 := same_upd (o := .tup [.ref p4, .ref p5]) hp3
    have t1 := same_upd (o := .tup [.ref p2, .ref p3]) hp1
    have t0 := same_upd (o := .lst [.ref p1]) hp
    have u1 := t2.trans (t4.trans (t5.trans (t3.trans t1)))
    refine q _ p [.ref p1] (u1.trans t0) (u1.free hp) upd_same ?_
    rw [places]
    refine .one (dt_pl (z := ([m], [m], [])) (p1 := p1) (p2 := p2) (p3 := p3) (p4 := p4) (p5 := p5) (t0 _ _ upd_same) ?_ (t0 _ _ (t1 _ _ upd_same)) ?_ ?_)
    · exact (t4.trans (t5.trans (t3.trans (t1.trans t0)))) _ _ upd_same
    · exact (t5.trans (t3.trans (t1.trans t0))) _ _ upd_same
    · exact (t3.trans (t1.trans t0)) _ _ upd_same
  | knot k cs =>
    obtain ⟨a, b, xs, rfl, ha, hb, hx⟩ := dt_knot hd
    obtain ⟨h2c, hoc⟩ := ok_knot ho
    have hpl := places_len _ ho (by omega)
    have htl := trees_len _ ho
    have hcl := cs_len hoc
    refine ⟨_, rfl, _, _, _, _, false, rfl, .ty _, .base (.tup ha), kit_ty (by decide +kernel), _, rfl, ?_⟩
    refine iteF ?_
    refine ⟨Nat.zero_le _, fun l0 hl0 => ?_⟩
    have s0 : Same H (upd H l0 (.lst [])) := same_upd hl0
    have hlx := hx.length
    rw [List.length_map] at hlx
    have hl2 := hl
    rw [lv_knot] at hl2
    refine ⟨_, rfl, a, _, 1, .ref b, rfl, rfl, SqT.of (s0 _ _ ha), rfl, b, rfl, ⟨_, SqT.of (s0 _ _ hb)⟩, fun dd hdd => ?_⟩
    refine lc_it (walk_tup (K := K) (xs := xs)) (fun j H' => Same (upd H l0 (.lst [])) H' ∧ ∃ zs, H' dd = some (.lst zs) ∧ Gi (mask dd H') zs ((cs.take j).map lv)) ⟨same_upd hdd, [], upd_same, by simpa using Gi.nil⟩
      (fun j H' _ ⟨s2, _⟩ => SqT.of (s2 _ _ (s0 _ _ hb))) ?_ ?_
    · rintro j u H0 H3 hj ⟨s3, zs, hzs, hgz⟩ ⟨rfl, hu⟩
      obtain ⟨c, hcj, hc, hdt⟩ := child_dt hx hu
      have hlc := len_child hc
      refine ⟨rfl, ?_⟩
      refine iteT (B := True) ?_
      refine ⟨_, rfl, u, c, rfl, hdt.sm (s0.trans s3), hoc c hc, by omega, by omega, fun H4 p4 s4 hp0 hp4 => ?_⟩
      have nd : p4 ≠ dd := fun z => by rw [z, hzs] at hp0; cases hp0
      refine ⟨zs, s4 _ _ hzs, ?_, same_upd2 (s3.trans s4) hdd, _, upd_same, ?_⟩
      · have := hgz.length
        rw [List.length_map, List.length_take] at this
        exact small1000 (by omega)
      · rw [mask_upd, take_snoc hcj, List.map_append]
        exact (Gi.one (mask_at hp4 nd)).app (hgz.sm (mask_same s4))
    rintro H3 ⟨s3, lsv, hlv, hgv⟩
    rw [hlx, List.take_length] at hgv
    refine ⟨(by show 2 ≤ sizeLine; decide), fun pt hpt => ?_⟩
    have s4 : Same H3 (upd H3 pt (.tup [.ref l0, .ref dd])) := same_upd hpt
    refine ⟨pt, _, rfl, .inl (.inl upd_same), rfl, _, [.ref dd], rfl, _, [], rfl, rfl, ?_⟩
    have sH3 : Same H H3 := s0.trans s3
    have hl0' : H l0 = none := hl0
    have hdd' : H dd = none := s0.free hdd
    have h30 : H3 l0 = some (.lst []) := s3 _ _ upd_same
    have sH4 := sH3.trans s4
    have gv4 : Gi (upd H3 pt (.tup [.ref l0, .ref dd])) lsv (cs.map lv) := hgv.sm (mask_sub.trans s4)
    have hlv4 := s4 _ _ hlv
    have h40 := s4 _ _ h30
    revert sH4 gv4 hlv4 h40
    generalize upd H3 pt (.tup [.ref l0, .ref dd]) = H4
    intro sH4 gv4 hlv4 h40
    have nl0 : l0 ≠ dd := fun z => by rw [← z] at hdd; rw [upd_same] at hdd; cases hdd
    refine ⟨_, rfl, a, _, 1, .ref b, rfl, rfl, SqT.of (sH4 _ _ ha), rfl, b, rfl, ⟨_, SqT.of (sH4 _ _ hb)⟩, ?_⟩
    refine for_it (walk_tup (K := K) (xs := xs)) (fun i σ H' => ∃ y lf zs, σ = [some (.ref a), y, some (.ref lf), some (.ref dd), none, none, none] ∧ Same H4 H' ∧ H lf = none ∧ (i ≠ 0 → H4 lf = none) ∧ H' lf = some (.lst zs) ∧ Dts H' zs ((placess (cs.take i)).map qlD))
      ⟨none, l0, [], rfl, Same.refl H4, hl0', fun h => absurd rfl h, h40, by simpa [placess] using Dts.nil⟩ (fun i σ H' _ ⟨_, _, _, _, sm, _⟩ => SqT.of (sm _ _ (sH4 _ _ hb))) ?_ ?_
    · rintro i x σ H0 H5 hi ⟨y, lf, zs, rfl, sm, hlf, _, hz, hg⟩ ⟨rfl, hxi⟩
      obtain ⟨c, hci, hc, hdt⟩ := child_dt hx hxi
      have hlc := len_less ho hc
      have h1 := placess_take_len (cs := cs) i
      have h2 := placess_mem_len hc
      rw [places, List.length_append] at hpl
      refine ⟨_, rfl, x, rfl, x, c, rfl, hdt.sm (sH4.trans sm), hoc c hc, by omega, by omega, fun H6 p zs2 sm6 hp0 hpp hgp => ?_⟩
      refine ⟨lf, p, _, _, rfl, rfl, sm6 _ _ hz, hpp, ?_, fun p2 hp2 => ?_⟩
      · have e1 := hg.length
        have e2 := hgp.length
        rw [List.length_map] at e1 e2
        exact line_big (by omega)
      · refine ⟨some x, p2, _, rfl, same_upd2 (sm.trans sm6) (sm.free (sm6.free hp2)), sH4.free (sm.free (sm6.free hp2)), fun _ => sm.free (sm6.free hp2), upd_same, ?_⟩
        rw [placess_take hci, List.map_append]
        exact ((hg.sm sm6).app hgp).sm (same_upd hp2)
    · rintro σ H5 ⟨y, lf, zs, rfl, sm5, hlf, hlf4, hz, hg⟩
      have hlf4 := hlf4 (by omega)
      rw [hlx, List.take_length] at hg
      obtain ⟨br, hbr⟩ := dts_ref hg (fun d hd => by
        obtain ⟨z, _, rfl⟩ := List.mem_map.mp hd
        exact ⟨_, rfl⟩) (by
        match cs, h2c, hoc with
        | c :: cs, _, hoc =>
          have := places_ne c (hoc c List.mem_cons_self)
          simp [placess, this])
      have hv : Dt H (.ref a) (enc (.knot k cs)) := hd
      -- whole
      refine ⟨_, rfl, _, .knot k cs, rfl, hv.sm (sH4.trans sm5), ho, hl, by omega, fun H6 p6 s6 hp60 hp6 => ?_⟩
      refine ⟨p6, _, rfl, SqL.of hp6, fun ns' p7 pm so hp70 => ?_⟩
      have s7 : Same H6 (upd H6 p7 (.lst (ns'.map V.int))) := same_upd hp70
      refine ⟨p7, _, rfl, .inl ⟨SqL.of upd_same, fun pw hpw => ?_⟩⟩
      have s8 := s6.trans (s7.trans (same_upd (o := .tup (ns'.map V.int)) hpw))
      have hw : upd (upd H6 p7 (.lst (ns'.map V.int))) pw (.tup (ns'.map V.int)) pw = some (.tup ((srt (lvs cs)).map V.int)) := by
        rw [upd_same, srt_uniq pm so, lv_knot]
      revert s8 hw
      generalize upd (upd H6 p7 (.lst (ns'.map V.int))) pw (.tup (ns'.map V.int)) = H8
      intro s8 hw
      have s48 := sm5.trans s8
      refine ⟨_, rfl, a, _, 0, .str (kname k), rfl, rfl, SqT.of (s48 _ _ (sH4 _ _ ha)), rfl, _, rfl, dd, _, rfl, .inl (SqL.of (s48 _ _ hlv4)), ?_⟩
      have hln : lsv.length = cs.length := by have := gv4.length; rwa [List.length_map] at this
      rw [hln]
      refine ⟨k, cs.length, rfl, by omega, fun H9 pgs gsv s9 hpg0 hpgs hgs => ?_⟩
      refine ⟨pgs, rfl, ⟨_, SqL.of hpgs⟩, ?_⟩
      have s49 := s48.trans s9
      have hz9 := (s8.trans s9) _ _ hz
      -- the heap without found
      have m4 : Same H4 (mask lf H9) := same_mask s49 hlf4
      have hgsM := hgs.off hz9 hbr
      have npw : pw ≠ lf := fun z => by rw [z] at hw; rw [s8 _ _ hz] at hw; cases hw
      have npg : pgs ≠ lf := fun z => by rw [z] at hpg0; rw [s8 _ _ hz] at hpg0; cases hpg0
      have hwM : mask lf H9 pw = some (.tup ((srt (lvs cs)).map V.int)) := mask_at (s9 _ _ hw) npw
      have hpgM : mask lf H9 pgs = some (.lst gsv) := mask_at hpgs npg
      have hlvM := m4 _ _ hlv4
      have gvM := gv4.sm m4
      have hMl : mask lf H9 lf = none := by unfold mask; exact if_pos rfl
      have hgl := hgs.length
      have hgl2 := groups_len k cs.length (by omega)
      have hz9l := hg.length
      rw [List.length_map] at hz9l
      have hg9 : Dts H9 zs ((placess cs).map qlD) := hg.sm (s8.trans s9)
      have hm9 : Same (mask lf H9) H9 := mask_sub
      revert m4 hgsM hwM hpgM hlvM gvM hMl hz9 hg9 hm9
      generalize mask lf H9 = M
      intro hz9 m4 hgsM hwM hpgM hlvM gvM hMl hg9 hm9
      rw [places, List.length_append, List.length_map] at hpl
      refine for_it (walk_list (K := K) (xs := gsv)) (fun j σ H' => ∃ y y2 zs, σ = [some (.ref a), y, some (.ref lf), some (.ref dd), some (.ref pw), y2, none] ∧ Same M H' ∧ H' lf = some (.lst zs) ∧ Dts H' zs ((placess cs ++ ((groups k cs.length).take j).map fun g => (joined cs g, srt (lvs cs), g)).map qlD))
        ⟨_, none, zs, rfl, hm9, hz9, by simpa using hg9⟩ (fun j σ H' _ ⟨_, _, _, _, sm, _⟩ => SqL.of (sm _ _ hpgM)) ?_ ?_
      · rintro j x σ H0 H10 hj ⟨y, y2, us, rfl, smM, hu, hgu⟩ ⟨rfl, hxj⟩
        obtain ⟨ag, g, rfl, hgj, hga⟩ := hgsM.get hxj
        have hgm := List.mem_of_getElem? hgj
        have GG := grp_of h2c hgm
        have hglen : g.length ≤ cs.length := by
          have q2 := nd_sub_len (a := ixs g) (b := ixs (List.range cs.length)) (by unfold ixs; exact List.pairwise_map.mpr ((sn_nd GG.sn).imp fun h e => h (by omega))) (fun x hx => by
            unfold ixs at hx ⊢
            obtain ⟨m, hm, rfl⟩ := List.mem_map.mp hx
            exact List.mem_map.mpr ⟨m, List.mem_range.mpr (GG.lt m hm), rfl⟩)
          simpa [ixs] using q2
        have hga10 := smM _ _ hga
        refine ⟨_, rfl, .inl ⟨rfl, _, SqL.of hu⟩, _, rfl, ag, rfl, ⟨_, SqL.of hga10⟩, fun d2 hd2 => ?_⟩
        refine lc_it (walk_list (K := K) (xs := (ixs g).map V.int)) (fun m H' => Same H10 H' ∧ ∃ ws, H' d2 = some (.lst ws) ∧ Gi (mask d2 H') ws ((g.take m).map fun i => lv (child cs i))) ⟨same_upd hd2, [], upd_same, by simpa using Gi.nil⟩
          (fun m H' _ ⟨s2, _⟩ => SqL.of (s2 _ _ hga10)) ?_ ?_
        · rintro m u H0 H11 hm ⟨s11, ws, hws, hgw⟩ ⟨rfl, hum⟩
          rw [ixs, List.map_map, List.getElem?_map] at hum
          cases hgi : g[m]? with
          | none => rw [hgi] at hum; simp at hum
          | some i =>
            rw [hgi] at hum
            obtain rfl : V.int (i : Nat) = u := Option.some.inj hum
            have hil := GG.lt i (List.mem_of_getElem? hgi)
            obtain ⟨v1, hv1⟩ : ∃ v1, lsv[i]? = some v1 := ⟨_, List.getElem?_eq_getElem (by omega)⟩
            obtain ⟨al, L, rfl, hLi, hal⟩ := gvM.get hv1
            rw [List.getElem?_map, child_at hil] at hLi
            obtain rfl : lv (child cs i) = L := Option.some.inj hLi
            refine ⟨rfl, ?_⟩
            refine iteT (B := True) ?_
            have hal10 := smM _ _ hal
            refine ⟨_, rfl, _, rfl, dd, lsv, _, .ref al, rfl, rfl, SqL.of (s11 _ _ (smM _ _ hlvM)), atI_nat hv1, ws, hws, ?_, same_upd2 s11 hd2, _, upd_same, ?_⟩
            · have := hgw.length
              rw [List.length_map, List.length_take] at this
              exact small1000 (by omega)
            · rw [mask_upd, take_snoc hgi, List.map_append]
              exact (Gi.one (mask_at (s11 _ _ hal10) (ne_of_none hal10 hd2))).app hgw
        · rintro H11 ⟨s11, ws, hws, hgw⟩
          rw [List.length_map, ixs, List.length_map, List.take_length] at hgw
          have hfl := flat_len (cs := cs) (n := n + 1) (fun d hd => by have := len_child hd; omega) (g := g) GG.lt
          have efl : (g.map fun i => lv (child cs i)).flatten = g.flatMap fun i => lv (child cs i) := (List.flatMap_def ..).symm
          have hm9x : (n + 1) * g.length ≤ 8 * 8 := Nat.mul_le_mul hn (by omega)
          refine ⟨d2, ws, _, rfl, SqL.of hws, hgw.sm mask_sub, by rw [efl]; omega, fun H12 pu s12 hpu0 hpu => ?_⟩
          rw [efl] at hpu
          have s1012 := s11.trans s12
          refine ⟨_, rfl, _, rfl, ag, _, rfl, .inl ⟨SqL.of (s1012 _ _ hga10), fun pg hpg => ?_⟩⟩
          have sg := same_upd (o := .tup ((ixs g).map V.int)) hpg
          refine ⟨(by show 2 ≤ sizeLine; decide), fun p3 hp3 => ?_⟩
          have s3 := same_upd (o := .tup [.ref pw, .ref pg]) hp3
          refine ⟨(by show 2 ≤ sizeLine; decide), fun p1 hp1 => ?_⟩
          have s1 := same_upd (o := .tup [.ref pu, .ref p3]) hp1
          have sgx := sg.trans (s3.trans s1)
          have hlfz := sgx _ _ (s1012 _ _ hu)
          refine ⟨lf, us, _, rfl, rfl, hlfz, ?_, ?_⟩
          · have := hgu.length
            rw [List.length_map, List.length_append, List.length_map, List.length_take] at this
            exact lt_line (by omega)
          · refine ⟨_, _, us ++ [.ref p1], rfl, same_upd2 (smM.trans (s1012.trans sgx)) hMl, upd_same, ?_⟩
            have esn : placess cs ++ ((groups k cs.length).take (j + 1)).map (fun g => (joined cs g, srt (lvs cs), g)) = (placess cs ++ ((groups k cs.length).take j).map fun g => (joined cs g, srt (lvs cs), g)) ++ [(joined cs g, srt (lvs cs), g)] := by
              rw [take_snoc hgj, List.map_append, List.append_assoc]
              rfl
            rw [esn, List.map_append]
            have hnew : Dt (upd (upd (upd H12 pg (.tup ((ixs g).map V.int))) p3 (.tup [.ref pw, .ref pg])) p1 (.tup [.ref pu, .ref p3])) (.ref p1) (qlD (joined cs g, srt (lvs cs), g)) :=
              dt_pl (z := (joined cs g, srt (lvs cs), g)) upd_same (sgx _ _ hpu) (s1 _ _ upd_same) (sgx _ _ (s1012 _ _ (smM _ _ hwM))) ((s3.trans s1) _ _ upd_same)
            exact ((hgu.sm (s1012.trans sgx)).app (.one hnew)).kp (kp_list (H1 := M) hlfz)
      · rintro σ H10 ⟨y, y2, us, rfl, smM, hu, hgu⟩
        rw [hgl, List.take_length] at hgu
        refine ⟨_, rfl, ?_⟩
        refine q H10 lf us ?_ hlf hu ?_
        · exact sH4.trans (m4.trans smM)
        · rw [places]
          exact hgu
theorem none26 {k : Nat} {f : Addr} {fd : FuncData} : FnOk P w K mg base CX0 k f fd ["shape"] (sp26 0) := by
  have no : ∀ vs H Q E, ¬ sp26 0 vs H Q E := fun vs H Q E h => by
    obtain ⟨v, t, _, _, ho, hl, _⟩ := h
    have := lv_ne t ho
    exact this (List.eq_nil_of_length_eq_zero (by omega))
  exact ⟨fun vs H Q E h => absurd h (no vs H Q E), fun A outer s H args us vs Q E _ _ _ _ h => absurd h (no vs H Q E)⟩
theorem ok26 {f f18 f21 f22 : Addr} {fd fd18 fd21 fd22 : FuncData} (D : Df K mg "_law_places" s26 f fd ["shape"]) (D18 : Df K mg "_law_leaves" s18 f18 fd18 ["shape"]) (D21 : Df K mg "_law_groups" s21 f21 fd21 ["kind", "many"]) (D22 : Df K mg "_law_union" s22 f22 fd22 ["lots"]) (Z : Zs mg) :
    ∀ n, FnOk P w K mg base CX0 (n + 2) f fd ["shape"] (sp26 n)
  | 0 => none26
  | n + 1 => ok26_step D D18 D21 D22 Z (ok26 D D18 D21 D22 Z n)
end
end K24
namespace K24
open PySem PySem.Spec PyProof.Rows L2
section
variable {P : Program} {w : World} {K : PySem.W.Frag} {mg : Str → Option Value} {base : Heap}
/-! _law_hull -/
abbrev s27 : Stmt := top 27
abbrev N27 : List Str := ["inner", "lot", "above", "own", "part"]
theorem sc27 : FnScope N27 ["inner", "lot"] (defScope s27) := ⟨rfl, rfl, rfl, by decide +kernel, rfl, by decide +kernel, by decide +kernel⟩
def sp27 (K : PySem.W.Frag) : Sp := fun vs H Q _ => ∃ (b c : Addr) (xs : List V) (Ls : List (List Int)) (L : List Int), vs = [.ref b, .ref c] ∧ SqL K H b xs ∧ Dts H xs (Ls.map lotD) ∧ SqT K H c (L.map V.int) ∧ L.length ≤ 100 ∧ Ls.length ≤ 5000 ∧ (∃ M ∈ Ls, sub L M) ∧
  ∀ (M : List Int) (H' : Hp) (v : V), Same H H' → M ∈ Ls → sub L M → (∀ M2 ∈ Ls, sub L M2 → M.length ≤ M2.length) → Dt H' v (lotD M) → Q v H'
theorem ok27 {f : Addr} {fd : FuncData} (D : Df K mg "_law_hull" s27 f fd ["inner", "lot"]) (Z : Zs mg) : FnOk P w K mg base CX0 1 f fd ["inner", "lot"] (sp27 K) := by
  refine D.F.ok sc27 (fun vs H Q E h => ?_) (fun cdv A outer s H vs Q E hr h => ?_)
  · obtain ⟨b, c, xs, Ls, L, rfl, _⟩ := h
    rfl
  obtain ⟨b, c, xs, Ls, L, rfl, hb, hx, hL, hLl, hLsl, hex, q⟩ := h
  refine ⟨_, pss_cons (ps_setLc (i := 2) (own := [("own", 3)]) (g := gName 3) rfl sc27.nd rfl rfl (sw_true rfl rfl rfl (by decide +kernel)) (pi_list (pv 0)) (blkOk_by (N := N27) (sc := defScope s27) (by decide +kernel))
      (fun _ _ _ _ _ => pg_name (i := 3) sc27.nd rfl (.inr rfl))
      (fun _ _ _ _ _ => pts_one (pt_cmpR op_eq (pe_callB (r := rLen K) call_len_seq rfl Z.len PySem.boot_len (pa_cons
          (pe_lc (own := [("part", 4)]) (g := gName 4) (wi := iTup K (tVar 1)) rfl sc27.nd (pi_tup (pv 1)) (blkOk_by rfl)
            (fun _ _ _ _ _ => pg_name (i := 4) sc27.nd rfl (.inl rfl)) (fun _ _ _ _ _ => pts_one (pt_cmpR (r := rIn K false) op_in_seq (pv 4) (pv 3) (by with_unfolding_all rfl)))
            (fun _ _ _ _ _ => pv 4)) pa_nil)) (pe_callB (r := rLen K) call_len_seq rfl Z.len PySem.boot_len (pa_cons (pv 1) pa_nil)) (nomark _)))
      (fun _ _ _ _ _ => pv 3))
    (pss_one (ps_ret (pe_ix ix_list (pe_sortLen rfl Z.sorted rfl Z.len (lt66 hr) (pa_cons (pv 2) pa_nil)) pe_int (fun _ _ => rfl)))), ?_⟩
  obtain ⟨exs, hds⟩ := dts_lots hx
  have hxl := hx.length
  rw [List.length_map] at hxl
  let keep : V → Bool := fun v => decide ((L.filter fun x => decide (x ∈ tI H v)).length = L.length)
  have keep_iff : ∀ v, keep v = true ↔ sub L (tI H v) := fun v => by
    show decide _ = true ↔ _
    rw [decide_eq_true_iff, List.length_filter_eq_length_iff]
    exact ⟨fun h x hx => of_decide_eq_true (h x hx), fun h x hx => decide_eq_true (h x hx)⟩
  refine ⟨_, rfl, b, rfl, ⟨_, hb⟩, fun dd hdd => ?_⟩
  refine lc_it (walk_list (K := K) (xs := xs)) (fun j H' => Same H H' ∧ H' dd = some (.lst ((xs.take j).filter keep))) ⟨same_upd hdd, by rw [upd_same]; simp⟩ (fun j H' _ ⟨s2, _⟩ => s2.seq hb) ?_ ?_
  · rintro j u H0 H1 hj ⟨s1, hz⟩ ⟨rfl, hu⟩
    have hud := hds u (List.mem_of_getElem? hu)
    obtain ⟨a, rfl, ha⟩ := dt_lot hud
    have ha1 := s1 _ _ ha
    have hfl := List.length_filter_le keep (xs.take j)
    rw [List.length_take] at hfl
    refine ⟨rfl, ?_⟩
    refine ⟨_, rfl, c, rfl, ⟨_, sm_tup s1 hL⟩, fun d2 hd2 => ?_⟩
    refine lc_it (walk_tup (K := K) (xs := L.map V.int)) (fun m H' => Same H1 H' ∧ H' d2 = some (.lst (((L.take m).filter fun x => decide (x ∈ tI H (.ref a))).map V.int))) ⟨same_upd hd2, upd_same⟩ (fun m H' _ ⟨s2, _⟩ => sm_tup (s1.trans s2) hL) ?_ ?_
    · rintro m u2 H0 H2 hm ⟨s2, hz2⟩ ⟨rfl, hu2⟩
      obtain ⟨n, hn, rfl⟩ := int_at hu2
      refine ⟨rfl, ?_⟩
      refine ⟨_, rfl, _, rfl, a, _, rfl, .inr (SqT.of (s2 _ _ ha1)), rfl, flat_ints _, _, rfl, ?_⟩
      simp only [Bool.false_eq_true, if_false, in_ints]
      by_cases e : n ∈ tI H (.ref a)
      · refine itT (decide_eq_true e) ?_
        refine ⟨_, rfl, _, hz2, ?_, same_upd2 s2 hd2, ?_⟩
        · have := List.length_filter_le (fun x => decide (x ∈ tI H (.ref a))) (L.take m)
          rw [List.length_take] at this
          rw [List.length_map]
          exact small1000 (by omega)
        · rw [upd_same, filter_snoc _ hn, if_pos (by simp [e]), List.map_append]
          rfl
      · refine itF (by simp [e]) ?_
        refine ⟨s2, ?_⟩
        rw [filter_snoc _ hn, if_neg (by simp [e]), List.append_nil]
        exact hz2
    · rintro H2 ⟨s2, hz2⟩
      rw [List.length_map, List.take_length] at hz2
      have s12 := s1.trans s2
      refine ⟨d2, _, rfl, .inl (SqL.of hz2), _, rfl, c, _, rfl, .inr (sm_tup s12 hL), rfl, _, rfl, ?_⟩
      rw [List.length_map, List.length_map]
      have hz' := s2 _ _ hz
      by_cases e : keep (.ref a) = true
      · refine itT (decide_eq_true (by rw [of_decide_eq_true e])) ?_
        refine ⟨_, rfl, _, hz', ?_, same_upd2 s12 hdd, ?_⟩
        · exact lt_line (by omega)
        · rw [upd_same, filter_snoc keep hu, if_pos e]
      · refine itF (fun z => e (decide_eq_true ?_)) ?_
        · have := of_decide_eq_true z
          injection this with this
          exact Int.ofNat.inj this
        · refine ⟨s12, ?_⟩
          rw [filter_snoc keep hu, if_neg e, List.append_nil]
          exact hz'
  · rintro H1 ⟨s1, hz⟩
    rw [List.take_length] at hz
    have hlen : ∀ x ∈ xs.filter keep, ∃ b ns, x = V.ref b ∧ SqT K H1 b ns ∧ ns.length = (tI H x).length := fun x hx => by
      have hud := hds x (List.mem_filter.mp hx).1
      obtain ⟨a, rfl, ha⟩ := dt_lot hud
      exact ⟨a, _, rfl, SqT.of (s1 _ _ ha), List.length_map _⟩
    refine ⟨_, rfl, dd, _, fun v => (tI H v).length, rfl, SqL.of hz, hlen, fun ys p pm so hp => ?_⟩
    obtain ⟨M0, hM0, hs0⟩ := hex
    have hM0' : M0 ∈ xs.map (tI H) := by rw [← exs]; exact hM0
    obtain ⟨v0, hv0, e0⟩ := List.mem_map.mp hM0'
    have hin0 : v0 ∈ ys := pm.mem_iff.mpr (List.mem_filter.mpr ⟨hv0, (keep_iff v0).mpr (by rw [e0]; exact hs0)⟩)
    obtain ⟨y0, yr, rfl⟩ : ∃ y0 yr, ys = y0 :: yr := by
      cases ys with
      | nil => exact absurd hin0 (by simp)
      | cons y0 yr => exact ⟨y0, yr, rfl⟩
    have hy0 := List.mem_filter.mp (pm.mem_iff.mp List.mem_cons_self)
    refine ⟨p, _, 0, y0, rfl, rfl, SqL.of upd_same, atI_nat (j := 0) rfl, ?_⟩
    have s2 : Same H (upd H1 p (.lst (y0 :: yr))) := s1.trans (same_upd hp)
    refine q (tI H y0) _ y0 s2 ?_ ((keep_iff y0).mp hy0.2) (fun M2 hM2 hs2 => ?_) ((hds y0 hy0.1).sm s2)
    · rw [exs]
      exact List.mem_map.mpr ⟨y0, hy0.1, rfl⟩
    · rw [exs] at hM2
      obtain ⟨v2, hv2, rfl⟩ := List.mem_map.mp hM2
      have hin2 : v2 ∈ y0 :: yr := pm.mem_iff.mpr (List.mem_filter.mpr ⟨hv2, (keep_iff v2).mpr hs2⟩)
      rcases List.mem_cons.mp hin2 with e | h
      · rw [e]
        exact Nat.le_refl _
      · exact (List.pairwise_cons.mp so).1 v2 h
end
end K24
namespace K24
open PySem PySem.Spec PyProof.Rows L2
open LamX (Tabs TabB ExtN)
/-- a def of the module whose code object stands at c -/
structure FunC (K : PySem.W.Frag) (x : Str) (st : Stmt) (f : Addr) (fd : FuncData) (c : Addr) : Prop where
  ex : ∃ (oc : Value) (od : Option Addr) (kV doc pm : Value) (an : Option Addr) (ct : Value) (osl : Array (Option Value)),
    fd = PySem.W.fnOf x x (defArgs st) (defBody st) (defScope st) .none kV doc pm an (.ref c) ct ∧ K.lookup f = some ⟨oc, od, .func fd, osl⟩ ∧ PySem.W.codeIn K (.ref c) x = true
  kp : PySem.W.keepIn K (.ref f) = true
structure DfC (K : PySem.W.Frag) (mg : Str → Option Value) (x : Str) (st : Stmt) (f : Addr) (fd : FuncData) (c : Addr) (ps : List Str) : Prop where
  F : FunC K x st f fd c
  g : mg x = some (.ref f)
  b : Binds K fd ps []
/-- the heap without tables grew, the tables are tables -/
structure Gr (T : List (Addr × Str)) (H H' : Hp) : Prop where
  e : ExtN H H'
  t : Tabs T H'
theorem extN_sm {H H' : Hp} (s : Same H H') : ExtN H H' := .of s
theorem kp_ext {H H' : Hp} (e : ExtN H H') : Kp H H' := fun b o h _ n => e b o h n
abbrev nm19 : Str := "_law_told" ++ ".<locals>." ++ "<lambda>"
theorem dts_take {H : Hp} : ∀ {xs : List V} {ds : List PyData}, Dts H xs ds → Dts H xs.reverse ds.reverse
  | _, _, .nil => .nil
  | _, _, .cons h t => by
    rw [List.reverse_cons, List.reverse_cons]
    exact (dts_take t).app (.one h)
/-- what stands in another order -/
theorem perm_dts {H : Hp} {xs ys : List V} {cs : List Tr} (h : Dts H xs (cs.map enc)) (p : ys.Perm xs) : ∃ cs' : List Tr, cs'.Perm cs ∧ Dts H ys (cs'.map enc) := by
  induction p generalizing cs with
  | nil =>
    cases cs with
    | nil => exact ⟨[], .refl _, .nil⟩
    | cons c cs => cases h
  | @cons v l1 l2 p ih =>
    cases cs with
    | nil => cases h
    | cons c cs =>
      cases h with
      | cons h t =>
        obtain ⟨cs', p', h'⟩ := ih t
        exact ⟨c :: cs', p'.cons c, .cons h h'⟩
  | swap x y l =>
    cases cs with
    | nil => cases h
    | cons c cs =>
      cases cs with
      | nil =>
        cases h with
        | cons h t => cases t
      | cons d cs =>
        cases h with
        | cons h t =>
          cases t with
          | cons h2 t => exact ⟨d :: c :: cs, .swap _ _ _, .cons h2 (.cons h t)⟩
  | trans p1 p2 ih1 ih2 =>
    obtain ⟨c1, q1, h1⟩ := ih2 h
    obtain ⟨c2, q2, h2⟩ := ih1 h1
    exact ⟨c2, q2.trans q1, h2⟩
section
variable {P : Program} {w : World} {K : PySem.W.Frag} {mg : Str → Option Value} {base : Heap}
theorem FunC.ok {x : Str} {st : Stmt} {f c : Addr} {fd : FuncData} {N ps : List Str} {k : Nat} {sp : Sp} (F : FunC K x st f fd c) (S : FnScope N ps (defScope st)) (len : ∀ vs H Q E, sp vs H Q E → vs.length = ps.length)
    (hb : ∀ (A : Around) (outer : List Env) (s : Shared) (H : Hp) (vs : List V) (Q : VK) (E : XK), Room k (A.deeper (envOfC x (defScope st) s.heap.objs.size f (.ref c))) → sp vs H Q E →
      ∃ t, PSs (cxOf CX0 P w K mg base N x (defScope st) f (.ref c) A outer s H E).nox (defBody st) t ∧ t { nx := fun _ H' => Q .non H', rt := Q } (start N vs) H) : FnOk P w K mg base CX0 (k + 1) f fd ps sp := by
  obtain ⟨oc, od, kV, doc, pm, an, ct, osl, rfl, l1, l2⟩ := F.ex
  exact fn_of l1 l2 S len fun A outer s H vs Q E hr hsp => let ⟨t, h, q⟩ := hb A outer s H vs Q E hr hsp; ⟨t, h.nox, q⟩
/-! _law_told -/
abbrev s19 : Stmt := top 19
abbrev N19 : List Str := ["kind", "children", "leasts", "pairs", "least", "child"]
theorem sc19 : FnScope N19 ["kind", "children"] (defScope s19) := ⟨rfl, rfl, rfl, by decide +kernel, rfl, by decide +kernel, by decide +kernel⟩
def sp19 (K : PySem.W.Frag) (T : List (Addr × Str)) (n : Nat) : Sp := fun vs H Q _ => ∃ (k : Kd) (b : Addr) (xs : List V) (cs : List Tr), vs = [.str (kname k), .ref b] ∧ SqL K H b xs ∧ Dts H xs (cs.map enc) ∧ 2 ≤ cs.length ∧ (∀ c ∈ cs, ok c) ∧ (lvs cs).length ≤ n ∧ n ≤ 8 ∧ Tabs T H ∧
  ∀ (H' : Hp) (v : V) (cs' : List Tr), cs'.Perm cs → Gr T H H' → Dt H' v (enc (.knot k cs')) → Q v H'
theorem ok19 (n : Nat) {f f18 c PT : Addr} {fd fd18 : FuncData} (D : DfC K mg "_law_told" s19 f fd c ["kind", "children"]) (D18 : Df K mg "_law_leaves" s18 f18 fd18 ["shape"]) (Z : Zs mg) (TB : TabB base mg c PT) : FnOk P w K mg base CX0 (n + 2) f fd ["kind", "children"] (sp19 K [(PT, nm19)] n) := by
  have G18 : FnOk P w K mg base CX0 (n + 1) f18 fd18 ["shape"] (sp18 n) := ok18 D18 Z n
  refine D.F.ok sc19 (fun vs H Q E h => ?_) (fun A outer s H vs Q E hr h => ?_)
  · obtain ⟨k, b, xs, cs, rfl, _⟩ := h
    rfl
  obtain ⟨k, b, xs, cs, rfl, hb, hx, h2c, hoc, hl, hn, hT, q⟩ := h
  refine ⟨_, pss_cons (ps_setLc (i := 2) (own := [("child", 5)]) (g := gName 5) (tt := tYes) rfl sc19.nd rfl rfl (sw_true rfl rfl rfl (by decide +kernel)) (pi_list (pv 1)) (blkOk_by (N := N19) (sc := defScope s19) (by decide +kernel))
      (fun _ _ _ _ _ => pg_name (i := 5) sc19.nd rfl (.inl rfl)) (fun _ _ _ _ _ => pts_nil)
      (fun _ _ _ _ _ => pe_callB (r := rMin K) (cr_min rfl) rfl Z.min (by decide +kernel) (pa_cons (pe_call G18 hr rfl D18.g D18.F.kp D18.b .nil pass0 (pa_cons (pv 5) pa_nil)) pa_nil)))
    (pss_cons (ps_if (pt_cmpR op_eq (pv 0) pe_str (nomark _)) (pss_one (ps_ret (pe_tup (pa_cons (pv 0) (pa_cons (pe_callTy call_tuple_of rfl Z.tup (by decide +kernel) (pa_cons
        (pe_ifExp (pt_cmpR op_lt (pe_ix ix_list (pv 2) pe_int (fun _ _ => rfl)) (pe_ix ix_list (pv 2) (pe_un un_neg pe_int) (fun _ _ => rfl)) (nomark _)) (pv 1) (pe_revL (pv 1))) pa_nil)) pa_nil))))) pss_nil)
    (pss_cons (ps_set (i := 3) sc19.nd rfl (.inl rfl) (pe_sortZip (T := [(PT, nm19)]) rfl Z.sorted rfl Z.zip hr.hd (lt66 hr) hr.depth ⟨rfl, rfl, rfl, rfl, ⟨_, _, _, rfl⟩, fun _ _ _ _ _ _ => rfl, by decide⟩ TB rfl (by exact List.mem_cons_self) (fun p hp _ => by
        obtain rfl : p = (PT, nm19) := by simpa using hp
        rfl) rfl (pa_cons (pv 2) (pa_cons (pv 1) pa_nil))))
    (pss_one (ps_ret (pe_tup (pa_cons (pv 0) (pa_cons (pe_callTy call_tuple_of rfl Z.tup (by decide +kernel) (pa_cons
        (pe_lc (own := [("least", 4), ("child", 5)]) (g := gTup K 2 (gCons (gName 4) (gCons (gName 5) gNil))) (tt := tYes) rfl sc19.nd (pi_list (pv 3)) (blkOk_by (N := N19) (sc := defScope s19) (by decide +kernel))
          (fun _ _ _ _ _ => pg_tup rfl (pgs_cons (pg_name (i := 4) sc19.nd rfl (.inl rfl)) (pgs_cons (pg_name (i := 5) sc19.nd rfl (.inl rfl)) pgs_nil))) (fun _ _ _ _ _ => pts_nil) (fun _ _ _ _ _ => pv 5)) pa_nil)) pa_nil))))))), ?_⟩
  have hlx := hx.length
  rw [List.length_map] at hlx
  have hcl := cs_len hoc
  refine ⟨_, rfl, b, rfl, ⟨_, hb⟩, fun dd hdd => ?_⟩
  refine lc_it (walk_list (K := K) (xs := xs)) (fun j H' => Same H H' ∧ ∃ ms : List Int, H' dd = some (.lst (ms.map V.int)) ∧ ms.length = j ∧ j ≤ xs.length) ⟨same_upd hdd, [], upd_same, rfl, Nat.zero_le _⟩ (fun j H' _ ⟨s2, _⟩ => s2.seq hb) ?_ ?_
  · rintro j u H0 H1 hj ⟨s1, ms, hms, hml, _⟩ ⟨rfl, hu⟩
    obtain ⟨c1, hcj, hc1, hdt⟩ := child_dt hx hu
    have hlc := len_child hc1
    have hne := lv_ne c1 (hoc c1 hc1)
    refine ⟨rfl, ?_⟩
    refine iteT (B := True) ?_
    refine ⟨_, rfl, u, c1, rfl, hdt.sm s1, hoc c1 hc1, by omega, by omega, fun H4 p4 s4 hp0 hp4 => ⟨p4, lv c1, rfl, SqL.of hp4, List.length_pos_iff.mpr hne, fun m _ _ => ?_⟩⟩
    have hms4 := s4 _ _ hms
    refine ⟨_, hms4, ?_, same_upd2 (s1.trans s4) hdd, ms ++ [m], ?_, ?_, hj⟩
    · rw [List.length_map]
      exact small1000 (by omega)
    · rw [upd_same, List.map_append]
      rfl
    · rw [List.length_append, hml]
      rfl
  rintro H1 ⟨s1, ms, hms, hml, _⟩
  have hb1 := s1.seq hb
  have hx1 := hx.sm s1
  have T1 : Tabs [(PT, nm19)] H1 := hT.ext s1
  obtain ⟨n1, n2, n3, n4, n5⟩ := bare_ne
  -- a knot of children in some order
  have made : ∀ (H2 : Hp) (p1 p2 : Addr) (ws : List V) (cs' : List Tr), Gr [(PT, nm19)] H H2 → H2 p2 = none → p2 ≠ p1 → H2 p1 = none → cs'.Perm cs → Dts H2 ws (cs'.map enc) →
      Q (.ref p2) (upd (upd H2 p1 (.tup ws)) p2 (.tup [.str (kname k), .ref p1])) := fun H2 p1 p2 ws cs' G h2 h12 h1 pm hw => by
    have t1 : Same H2 (upd H2 p1 (.tup ws)) := same_upd h1
    have t2 : Same (upd H2 p1 (.tup ws)) (upd (upd H2 p1 (.tup ws)) p2 (.tup [.str (kname k), .ref p1])) := same_upd (by rw [upd_ne h12]; exact h2)
    have t := t1.trans t2
    refine q _ _ cs' pm ⟨G.e.trans (extN_sm t), G.t.ext t⟩ ?_
    exact dt_mk upd_same (t2 _ _ upd_same) (hw.sm t)
  refine ⟨_, rfl, rfl, _, rfl, ?_⟩
  by_cases hk : k = .line
  · subst hk
    refine itT (str_eq rfl) ?_
    have hm0 : ms ≠ [] := fun e => by rw [e] at hml; simp at hml; omega
    obtain ⟨z, hz⟩ := last_some hm0
    have hh : atI (ms.map V.int) 0 = some (.int (ms.headD 0)) := by
      cases ms with
      | nil => exact absurd rfl hm0
      | cons m ms => exact atI_nat (j := 0) rfl
    refine ⟨_, rfl, _, rfl, dd, _, 0, _, rfl, rfl, SqL.of hms, hh, _, rfl, 1, rfl, dd, _, -1, _, rfl, rfl, SqL.of hms, at_end hz, _, _, rfl, rfl, _, rfl, ?_⟩
    have G1 : Gr [(PT, nm19)] H H1 := ⟨extN_sm s1, T1⟩
    refine ite2 (fun _ => ?_) (fun _ => ?_)
    · refine ⟨_, rfl, b, xs, rfl, .inl ⟨hb1, fun p1 hp1 => ⟨(by show 2 ≤ sizeLine; decide), fun p2 hp2 => ?_⟩⟩⟩
      have n12 : p2 ≠ p1 := fun z => by rw [z, upd_same] at hp2; cases hp2
      exact made H1 p1 p2 xs cs G1 (by rw [upd_ne n12] at hp2; exact hp2) n12 hp1 (List.Perm.refl _) hx1
    · refine ⟨_, rfl, b, xs, rfl, hb1, fun pr hpr => ⟨pr, _, rfl, .inl ⟨SqL.of upd_same, fun p1 hp1 => ⟨(by show 2 ≤ sizeLine; decide), fun p2 hp2 => ?_⟩⟩⟩⟩
      have n12 : p2 ≠ p1 := fun z => by rw [z, upd_same] at hp2; cases hp2
      have tr : Same H1 (upd H1 pr (.lst xs.reverse)) := same_upd hpr
      refine made _ p1 p2 xs.reverse cs.reverse ⟨G1.e.trans (extN_sm tr), T1.ext tr⟩ (by rw [upd_ne n12] at hp2; exact hp2) n12 hp1 (List.reverse_perm cs) ?_
      rw [List.map_reverse]
      exact dts_take (hx1.sm tr)
  · refine itF (str_ne fun e => hk ?_) ?_
    · cases k with
      | bare => exact absurd e (by decide +kernel)
      | line => rfl
      | free => exact absurd e (by decide +kernel)
    refine ⟨_, rfl, _, rfl, dd, b, ms, xs, rfl, SqL.of hms, hb1, by omega, T1, fun H2 p Ts g h eN T2 hp0 hp hTs hperm => ?_⟩
    have hTl : Ts.length = xs.length := by have := hperm.length_eq; rwa [List.length_map] at this
    refine ⟨_, rfl, _, rfl, p, rfl, ⟨_, SqL.of hp⟩, fun d2 hd2 => ?_⟩
    refine lc_it (walk_list (K := K) (xs := Ts.map V.ref)) (fun j H' => Same H2 H' ∧ H' d2 = some (.lst ((Ts.take j).map h))) ⟨same_upd hd2, by rw [upd_same]; simp⟩ (fun j H' _ ⟨s2, _⟩ => SqL.of (s2 _ _ hp)) ?_ ?_
    · rintro j u H0 H3 hj ⟨s3, hz3⟩ ⟨rfl, hu⟩
      rw [List.getElem?_map] at hu
      cases htj : Ts[j]? with
      | none => rw [htj] at hu; simp at hu
      | some t =>
        rw [htj] at hu
        obtain rfl : V.ref t = u := Option.some.inj hu
        obtain ⟨_, ht⟩ := hTs t (List.mem_of_getElem? htj)
        refine ⟨t, _, rfl, SqT.of (s3 _ _ ht), rfl, _, [h t], rfl, _, [], rfl, rfl, rfl, ?_⟩
        refine iteT (B := True) ?_
        refine ⟨_, rfl, _, hz3, ?_, same_upd2 s3 hd2, ?_⟩
        · rw [List.length_map, List.length_take]
          exact small1000 (by omega)
        · rw [upd_same, take_snoc htj, List.map_append]
          rfl
    · rintro H3 ⟨s3, hz3⟩
      rw [List.length_map, List.take_length] at hz3
      refine ⟨d2, _, rfl, .inl ⟨SqL.of hz3, fun p1 hp1 => ⟨(by show 2 ≤ sizeLine; decide), fun p2 hp2 => ?_⟩⟩⟩
      have n12 : p2 ≠ p1 := fun z => by rw [z, upd_same] at hp2; cases hp2
      have G3 : Gr [(PT, nm19)] H H3 := ⟨(extN_sm s1).trans (eN.trans (extN_sm s3)), T2.ext s3⟩
      have hx3 : Dts H3 xs (cs.map enc) := (hx1.kp (kp_ext eN)).sm s3
      obtain ⟨cs', hpm, hcs'⟩ : ∃ cs' : List Tr, cs'.Perm cs ∧ Dts H3 (Ts.map h) (cs'.map enc) := perm_dts hx3 hperm
      exact made H3 p1 p2 _ cs' G3 (by rw [upd_ne n12] at hp2; exact hp2) n12 hp1 hpm hcs'
end
end K24
namespace K24
open PySem PySem.Spec PyProof.Rows L2
open LamX (Tabs TabB ExtN)
/-- all but the two lists of the source and the tables is kept -/
structure Dg (d q : Addr) (T : List (Addr × Str)) (H H' : Hp) : Prop where
  k : ∀ x o, H x = some o → x ≠ d → x ≠ q → (∀ ps, o ≠ .tbl ps) → H' x = some o
  D : DealAt d q H'
  t : Tabs T H'
theorem Dg.trans {d q : Addr} {T : List (Addr × Str)} {H H1 H2 : Hp} (a : Dg d q T H H1) (b : Dg d q T H1 H2) : Dg d q T H H2 :=
  ⟨fun x o e n m p => b.k x o (a.k x o e n m p) n m p, b.D, b.t⟩
theorem Dg.refl {d q : Addr} {T : List (Addr × Str)} {H : Hp} (D : DealAt d q H) (t : Tabs T H) : Dg d q T H H := ⟨fun _ _ e _ _ _ => e, D, t⟩
theorem tabs_dq {d q : Addr} {T : List (Addr × Str)} {H H' : Hp} (D : DealAt d q H) (t : Tabs T H) (k : Dq d q H H') : Tabs T H' := fun p hp => by
  obtain ⟨b, ds, g1, g2, _⟩ := D
  obtain ⟨ps, h1, h2, h3⟩ := t p hp
  have ne : ∀ x o, H x = some o → (∀ xs, o ≠ .lst xs) → H' x = some o := fun x o e n => k x o e (fun z => by rw [z, g1] at e; exact n _ (Option.some.inj e).symm) fun z => by rw [z, g2] at e; exact n _ (Option.some.inj e).symm
  refine ⟨ps, ne _ _ h1 (fun _ z => by cases z), h2, fun pos cv hc => ?_⟩
  obtain ⟨c, e1, e2⟩ := h3 pos cv hc
  exact ⟨c, e1, ne _ _ e2 fun xs z => by unfold LamX.CodeO at z; cases z⟩
theorem Dg.dq {d q : Addr} {T : List (Addr × Str)} {H H1 H2 : Hp} (g : Dg d q T H H1) (D : DealAt d q H2) (k : Dq d q H1 H2) : Dg d q T H H2 :=
  ⟨fun x o e n m p => k x o (g.k x o e n m p) n m, D, tabs_dq g.D g.t k⟩
theorem Dg.sm {d q : Addr} {T : List (Addr × Str)} {H H1 H2 : Hp} (g : Dg d q T H H1) (s : Same H1 H2) : Dg d q T H H2 :=
  ⟨fun x o e n m p => s x o (g.k x o e n m p), g.D.sm s, g.t.ext s⟩
/-- no thing of H stands at l, a table perhaps -/
def Nw (H : Hp) (l : Addr) : Prop := ∀ o, H l = some o → ∃ ps, o = .tbl ps
theorem Dg.new {d q l : Addr} {T : List (Addr × Str)} {H H1 : Hp} (g : Dg d q T H H1) (h : H1 l = none) : l ≠ d ∧ l ≠ q ∧ Nw H l := by
  obtain ⟨n, m⟩ := g.D.ne h
  refine ⟨n, m, fun o e => ?_⟩
  by_cases ht : ∃ ps, o = .tbl ps
  · exact ht
  · have := g.k l o e n m fun ps z => ht ⟨ps, z⟩
    rw [h] at this
    cases this
/-- the list at l, made on the way, changed -/
theorem Dg.put {d q l : Addr} {T : List (Addr × Str)} {H H1 : Hp} {zs ys : List V} (g : Dg d q T H H1) (h : l ≠ d ∧ l ≠ q ∧ Nw H l) (e : H1 l = some (.lst zs)) : Dg d q T H (upd H1 l (.lst ys)) := by
  obtain ⟨n, m, h⟩ := h
  refine ⟨fun x o ex a b p => ?_, g.D.upd n m, fun p hp => ?_⟩
  · have nx : x ≠ l := fun z => by
      rw [z] at ex
      obtain ⟨ps, hps⟩ := h o ex
      exact p ps hps
    rw [upd_ne nx]
    exact g.k x o ex a b p
  obtain ⟨ps, h1, h2, h3⟩ := g.t p hp
  have ne : ∀ x o, H1 x = some o → (∀ xs, o ≠ .lst xs) → upd H1 l (.lst ys) x = some o := fun x o ex n => by
    rw [upd_ne fun z => by rw [z, e] at ex; exact n _ (Option.some.inj ex).symm]
    exact ex
  refine ⟨ps, ne _ _ h1 (fun _ z => by cases z), h2, fun pos cv hc => ?_⟩
  obtain ⟨c, e1, e2⟩ := h3 pos cv hc
  exact ⟨c, e1, ne _ _ e2 fun xs z => by unfold LamX.CodeO at z; cases z⟩
theorem Dg.kp {d q : Addr} {T : List (Addr × Str)} {H H1 : Hp} (g : Dg d q T H H1) (D : DealAt d q H) : Kp H H1 := fun x o e n1 n2 => by
  obtain ⟨b, ds, h1, h2, r⟩ := D
  exact g.k x o e (fun z => by rw [z, h1] at e; exact n1 _ (Option.some.inj e).symm) (fun z => by rw [z, h2] at e; exact n1 _ (Option.some.inj e).symm) n2
theorem Dg.seq {K : PySem.W.Frag} {d q b : Addr} {T : List (Addr × Str)} {H H1 : Hp} {xs : List V} (g : Dg d q T H H1) (h : SqL K H b xs) (n : b ≠ d) (m : b ≠ q) : SqL K H1 b xs := by
  rcases h with (h | ⟨o, h⟩) | h
  · exact .inl (.inl (g.k _ _ h n m (fun _ z => by cases z)))
  · exact .inl (.inr ⟨o, g.k _ _ h n m (fun _ z => by cases z)⟩)
  · exact .inr h
theorem perm_ints {ys : List V} {Ps : List Int} (h : ys.Perm (Ps.map V.int)) : ∃ Ms : List Int, ys = Ms.map V.int ∧ Ms.Perm Ps := by
  refine ⟨ys.map toI, ?_, ?_⟩
  · rw [List.map_map]
    have : ∀ y ∈ ys, (V.int ∘ toI) y = y := fun y hy => by
      obtain ⟨n, _, rfl⟩ := List.mem_map.mp (h.mem_iff.mp hy)
      rfl
    have e : ys.map (V.int ∘ toI) = ys.map id := List.map_congr_left this
    rw [e, List.map_id]
  · have := h.map toI
    rwa [toI_map] at this
theorem set_flatten {Ls : List (List Int)} {i : Nat} {L : List Int} {x : Int} (h : Ls[i]? = some L) : (Ls.set i (L ++ [x])).flatten.Perm (Ls.flatten ++ [x]) := by
  induction Ls generalizing i with
  | nil => simp at h
  | cons M Ls ih =>
    cases i with
    | zero =>
      have e : M = L := by simpa using h
      subst e
      simp only [List.set_cons_zero, List.flatten_cons, List.append_assoc]
      exact List.Perm.append_left M List.perm_append_comm
    | succ i =>
      simp only [List.set_cons_succ, List.flatten_cons, List.append_assoc]
      exact List.Perm.append_left M (ih (by simpa using h))
theorem flatten_pos {Ls : List (List Int)} (h : ∀ L ∈ Ls, L ≠ []) : Ls.length ≤ Ls.flatten.length := by
  induction Ls with
  | nil => simp
  | cons L Ls ih =>
    have h1 := ih fun M hM => h M (List.mem_cons_of_mem _ hM)
    have h2 : 1 ≤ L.length := List.length_pos_iff.mpr (h L List.mem_cons_self)
    simp only [List.flatten_cons, List.length_append, List.length_cons]
    omega
theorem flatten_less {Ls : List (List Int)} (h : ∀ L ∈ Ls, L ≠ []) (h2 : 2 ≤ Ls.length) {L : List Int} (hL : L ∈ Ls) : L.length < Ls.flatten.length := by
  induction Ls with
  | nil => exact absurd hL (by simp)
  | cons M Ls ih =>
    have hp := flatten_pos fun N hN => h N (List.mem_cons_of_mem _ hN)
    simp only [List.flatten_cons, List.length_append, List.length_cons] at *
    have hM : 1 ≤ M.length := List.length_pos_iff.mpr (h M List.mem_cons_self)
    rcases List.mem_cons.mp hL with rfl | hL
    · omega
    · have := flatten_mem_len hL
      omega
section
variable {P : Program} {w : World} {K : PySem.W.Frag} {mg : Str → Option Value} {base : Heap}
/-! _law_shape -/
abbrev s20 : Stmt := top 20
abbrev N20 : List Str := ["deal", "parts", "many", "pieces", "at", "part", "piece", "kind", "turn"]
theorem sc20 : FnScope N20 ["deal", "parts"] (defScope s20) := ⟨rfl, rfl, rfl, by decide +kernel, rfl, by decide +kernel, by decide +kernel⟩
def sp20 (K : PySem.W.Frag) (T : List (Addr × Str)) (n : Nat) : Sp := fun vs H Q _ => ∃ (d q b : Addr) (Ps : List Int), vs = [.ref d, .ref b] ∧ DealAt d q H ∧ Tabs T H ∧ SqL K H b (Ps.map V.int) ∧ Ps ≠ [] ∧ Ps.length ≤ n ∧ n ≤ 8 ∧ b ≠ d ∧ b ≠ q ∧
  ∀ (H' : Hp) (v : V) (t : Tr), Dg d q T H H' → Dt H' v (enc t) → ok t → (lv t).Perm Ps → Q v H'
theorem ok20_step {n : Nat} {f f15 f16 f17 f18 f19 c PT : Addr} {fd fd15 fd16 fd17 fd18 fd19 : FuncData} (D : Df K mg "_law_shape" s20 f fd ["deal", "parts"]) (D15 : Df K mg "_law_draw" s15 f15 fd15 ["deal", "bound"]) (D16 : Df K mg "_law_pick" s16 f16 fd16 ["deal", "some"])
    (D17 : Df K mg "_law_mixed" s17 f17 fd17 ["deal", "things"]) (D18 : Df K mg "_law_leaves" s18 f18 fd18 ["shape"]) (D19 : DfC K mg "_law_told" s19 f19 fd19 c ["kind", "children"]) (Z : Zs mg) (TB : TabB base mg c PT)
    (G : FnOk P w K mg base CX0 (n + 3) f fd ["deal", "parts"] (sp20 K [(PT, nm19)] n)) : FnOk P w K mg base CX0 (n + 4) f fd ["deal", "parts"] (sp20 K [(PT, nm19)] (n + 1)) := by
  have G15 : FnOk P w K mg base CX0 1 f15 fd15 ["deal", "bound"] sp15 := ok15 D15 Z
  have G16 : FnOk P w K mg base CX0 2 f16 fd16 ["deal", "some"] (sp16 K) := ok16 D16 D15 Z
  have G17 : FnOk P w K mg base CX0 2 f17 fd17 ["deal", "things"] (sp17 K) := ok17 D17 D15 Z
  have G19 : FnOk P w K mg base CX0 (n + 3) f19 fd19 ["kind", "children"] (sp19 K [(PT, nm19)] (n + 1)) := ok19 (n + 1) D19 D18 Z TB
  refine D.F.ok sc20 (fun vs H Q E h => ?_) (fun cdv A outer s H vs Q E hr h => ?_)
  · obtain ⟨d, q, b, Ps, rfl, _⟩ := h
    rfl
  obtain ⟨d, q, b, Ps, rfl, hD, hT, hb, h0, hl, hn, nbd, nbq, qq⟩ := h
  have hr1 : Room 1 _ := hr.mono (by omega)
  have hr2 : Room 2 _ := hr.mono (by omega)
  refine ⟨_, pss_cons (ps_if (pt_cmpR op_eq (pe_callB call_len_seq rfl Z.len PySem.boot_len (pa_cons (pv 1) pa_nil)) pe_int (nomark _)) (pss_one (ps_ret (pe_ix ix_list (pv 1) pe_int (fun _ _ => rfl)))) pss_nil)
    (pss_cons (ps_set (i := 2) sc20.nd rfl (.inl rfl) (pe_callB (call_min2 rfl) rfl Z.min (by decide +kernel) (pa_cons (pe_callB call_len_seq rfl Z.len PySem.boot_len (pa_cons (pv 1) pa_nil)) (pa_cons
        (pe_op op_add pe_int (pe_call G15 hr1 rfl D15.g D15.F.kp D15.b .nil pass0 (pa_cons (pv 0) (pa_cons (pe_call G16 hr2 rfl D16.g D16.F.kp D16.b .nil pass0 (pa_cons (pv 0) (pa_cons (pe_lst (pa_cons pe_int (pa_cons pe_int (pa_cons pe_int (pa_cons pe_int pa_nil))))) pa_nil))) pa_nil)))) pa_nil))))
    (pss_cons (ps_setLc (i := 3) (own := [("turn", 8)]) (g := gName 8) (tt := tYes) rfl sc20.nd rfl rfl (sw_true rfl rfl rfl (by decide +kernel)) (pi_range1 rfl Z.rng (pa_cons (pv 2) pa_nil)) (blkOk_by (N := N20) (sc := defScope s20) (by decide +kernel))
      (fun _ _ _ _ _ => pg_name (i := 8) sc20.nd rfl (.inl rfl)) (fun _ _ _ _ _ => pts_nil) (fun _ _ _ _ _ => pe_lst pa_nil))
    (pss_cons (ps_for PassesOwn.never rfl (pi_enum rfl Z.enum (pa_cons (pe_call G17 hr2 rfl D17.g D17.F.kp D17.b .nil pass0 (pa_cons (pv 0) (pa_cons (pv 1) pa_nil))) pa_nil)) (pg_tup rfl (pgs_cons (pg_name (i := 4) sc20.nd rfl (.inl rfl)) (pgs_cons (pg_name (i := 5) sc20.nd rfl (.inl rfl)) pgs_nil)))
      (pss_cons (ps_set (i := 6) sc20.nd rfl (.inl rfl) (pe_ix ix_list (pv 3) (pe_ifExp (pt_cmpR op_lt (pv 4) (pv 2) (nomark _)) (pv 4) (pe_call G15 hr1 rfl D15.g D15.F.kp D15.b .nil pass0 (pa_cons (pv 0) (pa_cons (pv 2) pa_nil)))) (fun _ _ => rfl)))
      (pss_one (ps_expr (pe_bm PySem.F.plainAttrs_list PySem.F.slot_list_append PySem.F.type_list_append mt_append (pv 6) (pa_cons (pv 5) pa_nil))))))
    (pss_cons (ps_set (i := 7) sc20.nd rfl (.inl rfl) (pe_ifExp (pt_cmpR op_eq (pv 2) pe_int (nomark _)) pe_str (pe_call G16 hr2 rfl D16.g D16.F.kp D16.b .nil pass0 (pa_cons (pv 0) (pa_cons
        (pe_lst (pa_cons pe_str (pa_cons pe_str (pa_cons pe_str (pa_cons pe_str (pa_cons pe_str pa_nil)))))) pa_nil)))))
    (pss_one (ps_ret (pe_call G19 hr rfl D19.g D19.F.kp D19.b .nil pass0 (pa_cons (pv 7) (pa_cons
        (pe_lc (own := [("piece", 6)]) (g := gName 6) (tt := tYes) rfl sc20.nd (pi_list (pv 3)) (blkOk_by (N := N20) (sc := defScope s20) (by decide +kernel))
          (fun _ _ _ _ _ => pg_name (i := 6) sc20.nd rfl (.inl rfl)) (fun _ _ _ _ _ => pts_nil) (fun _ _ _ _ _ => pe_call G hr rfl D.g D.F.kp D.b .nil pass0 (pa_cons (pv 0) (pa_cons (pv 6) pa_nil)))) pa_nil))))))))), ?_⟩
  have hlen : (((Ps.map V.int).length : Nat) : Int) = (Ps.length : Nat) := by rw [List.length_map]
  have hp0 : 0 < Ps.length := List.length_pos_iff.mpr h0
  refine ⟨_, rfl, b, _, rfl, .inl hb, rfl, _, rfl, ?_⟩
  rw [hlen]
  by_cases h1 : Ps.length = 1
  · refine itT (decide_eq_true (by rw [h1]; rfl)) ?_
    obtain ⟨m, rfl⟩ : ∃ m, Ps = [m] := List.length_eq_one_iff.mp h1
    refine ⟨_, rfl, b, _, 0, _, rfl, rfl, hb, atI_nat (j := 0) rfl, ?_⟩
    refine qq H (.int m) (.leaf m) (Dg.refl hD hT) (by rw [enc]; exact .int m) trivial ?_
    rw [lv]
  · refine itF (fun z => h1 (by have := of_decide_eq_true z; injection this with this; omega)) ?_
    refine ⟨_, rfl, b, _, rfl, .inl hb, _, rfl, _, rfl, (by show 4 ≤ sizeLine; decide), fun l1 hl1 => ?_⟩
    have t1 : Same H (upd H l1 (.lst [.int 2, .int 2, .int 3, .int 9])) := same_upd hl1
    have nl1 := hD.ne hl1
    refine ⟨d, q, l1, _, rfl, hD.sm t1, SqL.of upd_same, by simp, by decide, nl1.1, nl1.2, fun x H1 hx D1 k1 => ?_⟩
    obtain ⟨m, rfl, hm0, hm⟩ : ∃ m : Nat, x = .int m ∧ 0 < m ∧ m < 10 := by
      have : x = .int 2 ∨ x = .int 2 ∨ x = .int 3 ∨ x = .int 9 := by simpa using hx
      rcases this with rfl | rfl | rfl | rfl
      · exact ⟨2, rfl, by decide, by decide⟩
      · exact ⟨2, rfl, by decide, by decide⟩
      · exact ⟨3, rfl, by decide, by decide⟩
      · exact ⟨9, rfl, by decide, by decide⟩
    have g1 : Dg d q [(PT, nm19)] H H1 := ((Dg.refl hD hT).sm t1).dq D1 k1
    refine ⟨d, q, m, rfl, D1, hm0, by omega, fun r H2 hr2 D2 k2 => ?_⟩
    have g2 := g1.dq D2 k2
    have hb2 := g2.seq hb nbd nbq
    refine ⟨_, _, rfl, rfl, _, _, rfl, ?_⟩
    obtain ⟨M, hM, hM2, hMl⟩ : ∃ M : Nat, (if 2 + (r : Int) < (((Ps.map V.int).length : Nat) : Int) then 2 + (r : Int) else (((Ps.map V.int).length : Nat) : Int)) = (M : Nat) ∧ 2 ≤ M ∧ M ≤ Ps.length := by
      rw [hlen]
      split
      · exact ⟨2 + r, by omega, by omega, by omega⟩
      · exact ⟨Ps.length, rfl, by omega, Nat.le_refl _⟩
    rw [hM]
    clear hM
    refine ⟨_, rfl, M, rfl, by omega, by omega, fun dd hdd => ?_⟩
    refine lc_it (walk_range (lo := 0) (n := M)) (fun j H' => Same H2 H' ∧ ∃ As : List Addr, H' dd = some (.lst (As.map V.ref)) ∧ As.length = j ∧ As.Nodup ∧ ∀ a ∈ As, H2 a = none ∧ a ≠ dd ∧ H' a = some (.lst [])) ⟨same_upd hdd, [], upd_same, rfl, by simp, by simp⟩ (fun j H' _ _ => trivial) ?_ ?_
    · rintro j u H0 H3 hj ⟨s3, As, hAs, hAl, hnd, hA⟩ ⟨rfl, rfl⟩
      refine ⟨rfl, ?_⟩
      refine iteT (B := True) ?_
      refine ⟨Nat.zero_le _, fun p hp => ?_⟩
      have s4 : Same H3 (upd H3 p (.lst [])) := same_upd hp
      have npd : p ≠ dd := fun z => by rw [z, hAs] at hp; cases hp
      refine ⟨_, s4 _ _ hAs, ?_, same_upd2 (s3.trans s4) hdd, As ++ [p], ?_, ?_, ?_, fun a ha => ?_⟩
      · rw [List.length_map]
        exact small1000 (by omega)
      · rw [upd_same, List.map_append]
        rfl
      · rw [List.length_append, hAl]
        rfl
      · refine List.nodup_append.mpr ⟨hnd, by simp, fun a ha b hb => ?_⟩
        have eb : b = p := by simpa using hb
        rw [eb]
        exact ne_of_none (hA a ha).2.2 hp
      · rcases List.mem_append.mp ha with ha | ha
        · obtain ⟨a1, a2, a3⟩ := hA a ha
          exact ⟨a1, a2, by rw [upd_ne a2]; exact s4 _ _ a3⟩
        · have ea : a = p := by simpa using ha
          rw [ea]
          exact ⟨s3.free hp, npd, by rw [upd_ne npd, upd_same]⟩
    rintro H3 ⟨s3, As, hAs, hAl, hnd, hA⟩
    have g3 := g2.sm s3
    have ndd := g2.new hdd
    have hb3 := g3.seq hb nbd nbq
    have hA3 : ∀ a ∈ As, a ≠ d ∧ a ≠ q ∧ Nw H a := fun a ha => g2.new (hA a ha).1
    refine ⟨_, rfl, _, rfl, d, q, b, _, rfl, g3.D, hb3, (fun v hv => by
      obtain ⟨m, _, rfl⟩ := List.mem_map.mp hv
      exact ⟨.int m, .int m, by simp [PyData.canLay0], by simp [PyData.depth]⟩), by rw [List.length_map]; omega, fun ys p H4 hperm hp30 hp4 D4 k4 => ?_⟩
    obtain ⟨Ms, rfl, hMs⟩ := perm_ints hperm
    have hMl2 := hMs.length_eq
    have g4 := g3.dq D4 k4
    have npp := g3.new hp30
    have hAs4 : H4 dd = some (.lst (As.map V.ref)) := k4 _ _ hAs ndd.1 ndd.2.1
    have hA4 : ∀ a ∈ As, H4 a = some (.lst []) := fun a ha => k4 _ _ (hA a ha).2.2 (hA3 a ha).1 (hA3 a ha).2.1
    have nap : ∀ a ∈ As, a ≠ p := fun a ha => ne_of_none (hA a ha).2.2 hp30
    have ndp : dd ≠ p := ne_of_none hAs hp30
    have nad : ∀ a ∈ As, a ≠ dd := fun a ha => (hA a ha).2.1
    clear hA
    refine ⟨p, _, rfl, SqL.of hp4, ?_⟩
    refine for_it (walk_enum (K := K) (xs := Ms.map V.int)) (fun j σ H' => ∃ (y1 y2 y3 : Option V) (Ls : List (List Int)), σ = [some (.ref d), some (.ref b), some (.int M), some (.ref dd), y1, y2, y3, none, none] ∧ Dg d q [(PT, nm19)] H H' ∧ H' p = some (.lst (Ms.map V.int)) ∧ H' dd = some (.lst (As.map V.ref)) ∧ Ls.length = M ∧
        (∀ (i : Nat) (a : Addr) (L : List Int), As[i]? = some a → Ls[i]? = some L → H' a = some (.lst (L.map V.int))) ∧ Ls.flatten.Perm (Ms.take j) ∧ (∀ (i : Nat) (L : List Int), i < j → Ls[i]? = some L → L ≠ []) ∧ j ≤ Ms.length) ?_ ?_ ?_ ?_
    · refine ⟨none, none, none, List.replicate M [], rfl, g4, hp4, hAs4, by simp, fun i a L e1 e2 => ?_, by simp, fun i L h => absurd h (Nat.not_lt_zero i), Nat.zero_le _⟩
      rw [hA4 a (List.mem_of_getElem? e1)]
      obtain ⟨_, e⟩ := List.mem_replicate.mp (List.mem_of_getElem? e2)
      rw [e]
      rfl
    · rintro j σ H' _ ⟨_, _, _, _, _, _, hp', _⟩
      exact SqL.of hp'
    · rintro j x σ H5 H6 hj ⟨y1, y2, y3, Ls, rfl, g5, hp5, hdd5, hLl, hLs, hfl, hne, hjl⟩ ⟨T, x1, x2, rfl, hTn, rfl, e1, e2⟩
      have e1' : V.int (j : Nat) = x1 := Option.some.inj e1
      subst e1'
      obtain ⟨m, hmj, rfl⟩ := int_at e2
      have smT : Same H5 (upd H5 T (.tup [.int (j : Nat), .int m])) := same_upd hTn
      have g6 := g5.sm smT
      have hp6 := smT _ _ hp5
      have hdd6 := smT _ _ hdd5
      have hLs6 : ∀ (i : Nat) (a : Addr) (L : List Int), As[i]? = some a → Ls[i]? = some L → upd H5 T (.tup [.int (j : Nat), .int m]) a = some (.lst (L.map V.int)) := fun i a L q1 q2 => smT _ _ (hLs i a L q1 q2)
      refine ⟨T, _, rfl, .inl (.inl upd_same), rfl, _, [.int m], rfl, .int m, [], rfl, rfl, ?_⟩
      revert g6 hp6 hdd6 hLs6
      generalize upd H5 T (.tup [.int (j : Nat), .int m]) = H6
      intro g6 hp6 hdd6 hLs6
      have hML : M = As.length := hAl.symm
      -- the part goes to the piece at i
      have fin : ∀ (H7 : Hp) (i : Nat), i < M → (j < M → i = j) → Dg d q [(PT, nm19)] H H7 → H7 p = some (.lst (Ms.map V.int)) → H7 dd = some (.lst (As.map V.ref)) →
          (∀ (i : Nat) (a : Addr) (L : List Int), As[i]? = some a → Ls[i]? = some L → H7 a = some (.lst (L.map V.int))) →
          ∃ (a : Addr) (L : List Int), (As.map V.ref)[i]? = some (.ref a) ∧ H7 a = some (.lst (L.map V.int)) ∧ L.length < 1000 ∧ (∃ (y1 y2 y3 : Option V) (Ls : List (List Int)), [some (V.ref d), some (.ref b), some (.int M), some (.ref dd), some (.int (j : Nat)), some (.int m), some (.ref a), none, none] = [some (V.ref d), some (.ref b), some (.int M), some (.ref dd), y1, y2, y3, none, none] ∧
            Dg d q [(PT, nm19)] H (upd H7 a (.lst (L.map V.int ++ [.int m]))) ∧ upd H7 a (.lst (L.map V.int ++ [.int m])) p = some (.lst (Ms.map V.int)) ∧ upd H7 a (.lst (L.map V.int ++ [.int m])) dd = some (.lst (As.map V.ref)) ∧ Ls.length = M ∧
            (∀ (i : Nat) (a' : Addr) (L' : List Int), As[i]? = some a' → Ls[i]? = some L' → upd H7 a (.lst (L.map V.int ++ [.int m])) a' = some (.lst (L'.map V.int))) ∧ Ls.flatten.Perm (Ms.take (j + 1)) ∧ (∀ (i : Nat) (L : List Int), i < j + 1 → Ls[i]? = some L → L ≠ []) ∧ j + 1 ≤ Ms.length) := fun H7 i hi hij g7 hp7 hdd7 hLs7 => by
        have hai : As[i]? = some (As[i]'(by omega)) := List.getElem?_eq_getElem (by omega)
        have hLi : Ls[i]? = some (Ls[i]'(by omega)) := List.getElem?_eq_getElem (by omega)
        revert hai hLi
        generalize As[i]'(by omega) = a
        generalize Ls[i]'(by omega) = L
        intro hai hLi
        have haA := List.mem_of_getElem? hai
        have ha7 := hLs7 i a L hai hLi
        have hjl' : j < Ms.length := by
          have := (List.getElem?_eq_some_iff.mp hmj).1
          exact this
        have hLlen : L.length ≤ 8 := by
          have q1 := flatten_mem_len (List.mem_of_getElem? hLi)
          have q2 := hfl.length_eq
          rw [List.length_take] at q2
          omega
        refine ⟨a, L, by rw [List.getElem?_map, hai]; rfl, ha7, by omega, _, _, _, Ls.set i (L ++ [m]), rfl, g7.put (hA3 a haA) ha7, ?_, ?_, by rw [List.length_set]; exact hLl, fun i2 a2 L2 q1 q2 => ?_, ?_, fun i2 L2 h2 q2 => ?_, hjl'⟩
        · rw [upd_ne (Ne.symm (nap a haA))]; exact hp7
        · rw [upd_ne (Ne.symm (nad a haA))]; exact hdd7
        · by_cases ei : i2 = i
          · subst ei
            rw [hai] at q1
            obtain rfl := Option.some.inj q1
            rw [List.getElem?_set_self (by omega)] at q2
            obtain rfl := Option.some.inj q2
            rw [upd_same, List.map_append]
            rfl
          · rw [List.getElem?_set_ne (Ne.symm ei)] at q2
            have na : a2 ≠ a := fun z => by
              rw [z] at q1
              have b1 := List.getElem?_eq_some_iff.mp q1
              have b2 := List.getElem?_eq_some_iff.mp hai
              obtain ⟨c1, d1⟩ := b1
              obtain ⟨c2, d2⟩ := b2
              exact ei ((List.getElem_inj hnd).mp (d1.trans d2.symm))
            rw [upd_ne na]
            exact hLs7 i2 a2 L2 q1 q2
        · rw [take_snoc hmj]
          exact (set_flatten hLi).trans (hfl.append_right [m])
        · by_cases ei : i2 = i
          · subst ei
            rw [List.getElem?_set_self (by omega)] at q2
            obtain rfl := Option.some.inj q2
            simp
          · rw [List.getElem?_set_ne (Ne.symm ei)] at q2
            by_cases e3 : i2 < j
            · exact hne i2 L2 e3 q2
            · have e4 : i2 = j := by omega
              have := (List.getElem?_eq_some_iff.mp q2).1
              exact absurd (hij (by omega)) (fun z => ei (by omega))
      refine ⟨_, rfl, _, rfl, _, rfl, _, _, rfl, rfl, _, rfl, ?_⟩
      by_cases hjM : j < M
      · refine itT (decide_eq_true (by omega)) ?_
        obtain ⟨a, L, f1, f2, f3, f4⟩ := fin H6 j hjM (fun _ => rfl) g6 hp6 hdd6 hLs6
        exact ⟨_, rfl, dd, _, _, .ref a, rfl, rfl, SqL.of hdd6, atI_nat f1, _, rfl, .inl ⟨rfl, _, SqL.of f2⟩, _, rfl, a, _, _, rfl, rfl, f2, by rw [List.length_map]; exact small1000 (by omega), f4⟩
      · refine itF (fun z => hjM (by have := of_decide_eq_true z; omega)) ?_
        refine ⟨_, rfl, _, rfl, d, q, M, rfl, g6.D, by omega, by omega, fun r2 H7 hr2 D7 k7 => ?_⟩
        have g7 := g6.dq D7 k7
        have hdd7 := k7 _ _ hdd6 ndd.1 ndd.2.1
        obtain ⟨a, L, f1, f2, f3, f4⟩ := fin H7 r2 hr2 (fun h => absurd h hjM) g7 (k7 _ _ hp6 npp.1 npp.2.1) hdd7 (fun i a L q1 q2 => k7 _ _ (hLs6 i a L q1 q2) (hA3 a (List.mem_of_getElem? q1)).1 (hA3 a (List.mem_of_getElem? q1)).2.1)
        exact ⟨dd, _, _, .ref a, rfl, rfl, SqL.of hdd7, atI_nat f1, _, rfl, .inl ⟨rfl, _, SqL.of f2⟩, _, rfl, a, _, _, rfl, rfl, f2, by rw [List.length_map]; exact small1000 (by omega), f4⟩
    · rintro σ H5 ⟨y1, y2, y3, Ls, rfl, g5, hp5, hdd5, hLl, hLs, hfl, hne, hjl⟩
      rw [List.length_map] at hfl hne
      rw [List.take_length] at hfl
      have hall : ∀ L ∈ Ls, L ≠ [] := fun L hL => by
        obtain ⟨i, hi⟩ := List.getElem?_of_mem hL
        have := (List.getElem?_eq_some_iff.mp hi).1
        exact hne i L (by omega) hi
      have hflP : Ls.flatten.Perm Ps := hfl.trans hMs
      have hfll := hflP.length_eq
      refine ⟨_, rfl, rfl, _, rfl, ?_⟩
      refine ite2 (fun _ => ?_) (fun _ => ?_)
      revert g5 hdd5 hLs
      rw [show (Str.ofString "bare" : Str) = kname .bare from rfl]
      generalize Kd.bare = k
      generalize H5 = H6
      intro g6 hdd6 hLs6
      rotate_left
      refine ⟨_, rfl, (by show 5 ≤ sizeLine; decide), fun l2 hl2 => ?_⟩
      have t2 : Same H5 (upd H5 l2 (.lst [.str "bare", .str "line", .str "free", .str "line", .str "free"])) := same_upd hl2
      have nl2 := g5.new hl2
      refine ⟨d, q, l2, _, rfl, g5.D.sm t2, SqL.of upd_same, by simp, by decide, nl2.1, nl2.2.1, fun x H6 hx D6 k6 => ?_⟩
      obtain ⟨k, rfl⟩ : ∃ k : Kd, x = .str (kname k) := by
        have : x = .str "bare" ∨ x = .str "line" ∨ x = .str "free" ∨ x = .str "line" ∨ x = .str "free" := by simpa using hx
        rcases this with rfl | rfl | rfl | rfl | rfl
        · exact ⟨.bare, rfl⟩
        · exact ⟨.line, rfl⟩
        · exact ⟨.free, rfl⟩
        · exact ⟨.line, rfl⟩
        · exact ⟨.free, rfl⟩
      have g6 := (g5.sm t2).dq D6 k6
      have hdd6 := k6 _ _ (t2 _ _ hdd5) ndd.1 ndd.2.1
      have hLs6 : ∀ (i : Nat) (a : Addr) (L : List Int), As[i]? = some a → Ls[i]? = some L → H6 a = some (.lst (L.map V.int)) := fun i a L q1 q2 => k6 _ _ (t2 _ _ (hLs i a L q1 q2)) (hA3 a (List.mem_of_getElem? q1)).1 (hA3 a (List.mem_of_getElem? q1)).2.1
      clear t2 nl2 hx k6 D6 hl2
      all_goals
        refine ⟨_, rfl, _, rfl, dd, rfl, ⟨_, SqL.of hdd6⟩, fun d2 hd2 => ?_⟩
        have nd2 := g6.new hd2
        have sd2 : Same H6 (upd H6 d2 (.lst [])) := same_upd hd2
        refine lc_it (walk_list (K := K) (xs := As.map V.ref)) (fun j H' => Dg d q [(PT, nm19)] H H' ∧ H' dd = some (.lst (As.map V.ref)) ∧ (∀ (i : Nat) (a : Addr) (L : List Int), As[i]? = some a → Ls[i]? = some L → H' a = some (.lst (L.map V.int))) ∧
          ∃ (zs : List V) (ts : List Tr), H' d2 = some (.lst zs) ∧ Dts H' zs (ts.map enc) ∧ ts.length = j ∧ (∀ t ∈ ts, ok t) ∧ (lvs ts).Perm (Ls.take j).flatten ∧ j ≤ M) ?_ ?_ ?_ ?_
        · exact ⟨g6.sm sd2, sd2 _ _ hdd6, fun i a L q1 q2 => sd2 _ _ (hLs6 i a L q1 q2), [], [], upd_same, .nil, rfl, by simp, by simp [lvs], Nat.zero_le _⟩
        · rintro j H' _ ⟨_, h', _⟩
          exact SqL.of h'
        · rintro j u H0 H7 hj ⟨g7, hdd7, hLs7, zs, ts, hzs, hts, htl, hto, htp, _⟩ ⟨rfl, hu⟩
          rw [List.getElem?_map] at hu
          cases haj : As[j]? with
          | none => rw [haj] at hu; simp at hu
          | some a =>
            rw [haj] at hu
            obtain rfl : V.ref a = u := Option.some.inj hu
            have hjM : j < M := by
              have := (List.getElem?_eq_some_iff.mp haj).1
              omega
            have hLj : Ls[j]? = some (Ls[j]'(by omega)) := List.getElem?_eq_getElem (by omega)
            revert hLj
            generalize Ls[j]'(by omega) = L
            intro hLj
            have hLm := List.mem_of_getElem? hLj
            have hLlt := flatten_less hall (by omega) hLm
            have haA := List.mem_of_getElem? haj
            refine ⟨rfl, ?_⟩
            refine iteT (B := True) ?_
            refine ⟨_, rfl, _, rfl, d, q, a, L, rfl, g7.D, g7.t, SqL.of (hLs7 j a L haj hLj), hall L hLm, by omega, by omega, (hA3 a haA).1, (hA3 a haA).2.1, fun H8 v t g8 hv ho hp8 => ?_⟩
            have hzs8 : H8 d2 = some (.lst zs) := g8.k _ _ hzs nd2.1 nd2.2.1 (fun _ z => by cases z)
            have nad2 : ∀ (i : Nat) (a : Addr), As[i]? = some a → a ≠ d2 := fun i a q1 => by
              have hiM : i < Ls.length := by
                have := (List.getElem?_eq_some_iff.mp q1).1
                omega
              exact ne_of_none (hLs6 i a _ q1 (List.getElem?_eq_getElem hiM)) hd2
            refine ⟨zs, hzs8, ?_, (g7.trans g8).put nd2 hzs8, ?_, fun i a2 L2 q1 q2 => ?_, zs ++ [v], ts ++ [t], upd_same, ?_, ?_, fun t2 ht2 => ?_, ?_, hjM⟩
            · have := hts.length
              rw [List.length_map] at this
              exact small1000 (by omega)
            · rw [upd_ne (ne_of_none hdd6 hd2)]
              exact g8.k _ _ hdd7 ndd.1 ndd.2.1 (fun _ z => by cases z)
            · rw [upd_ne (nad2 i a2 q1)]
              exact g8.k _ _ (hLs7 i a2 L2 q1 q2) (hA3 a2 (List.mem_of_getElem? q1)).1 (hA3 a2 (List.mem_of_getElem? q1)).2.1 (fun _ z => by cases z)
            · rw [List.map_append]
              exact ((hts.kp (g8.kp g7.D)).app (.one hv)).kp (kp_list (H1 := H8) hzs8)
            · rw [List.length_append, htl]
              rfl
            · rcases List.mem_append.mp ht2 with h | h
              · exact hto t2 h
              · obtain rfl : t2 = t := by simpa using h
                exact ho
            · rw [flatten_take hLj, lvs_flat, List.flatMap_append, ← lvs_flat]
              refine htp.append ?_
              simpa using hp8
        · rintro H7 ⟨g7, hdd7, hLs7, zs, ts, hzs, hts, htl, hto, htp, _⟩
          rw [List.length_map] at htl htp
          rw [hAl, ← hLl, List.take_length] at htp
          have hlt := htp.length_eq
          refine ⟨k, d2, zs, ts, rfl, SqL.of hzs, hts, by omega, hto, by omega, by omega, g7.t, fun H8 v cs' hpm G8 hv => ?_⟩
          obtain ⟨bb, dd0, u1, u2, u3⟩ := g7.D
          refine qq H8 v (.knot k cs') ⟨fun x o e1 e2 e3 e4 => G8.e _ _ (g7.k x o e1 e2 e3 e4) e4, ⟨bb, dd0, G8.e _ _ u1 (fun _ z => by cases z), G8.e _ _ u2 (fun _ z => by cases z), u3⟩, G8.t⟩ hv ?_ ?_
          · rw [ok]
            refine ⟨?_, oks_iff.mpr fun c hc => hto c (hpm.mem_iff.mp hc)⟩
            rw [hpm.length_eq]
            omega
          · rw [lv_knot]
            have : (lvs cs').Perm (lvs ts) := by
              rw [lvs_flat, lvs_flat]
              exact hpm.flatMap_right lv
            exact this.trans (htp.trans hflP)
theorem none20 {k : Nat} {T : List (Addr × Str)} {f : Addr} {fd : FuncData} : FnOk P w K mg base CX0 k f fd ["deal", "parts"] (sp20 K T 0) := by
  have no : ∀ vs H Q E, ¬ sp20 K T 0 vs H Q E := fun vs H Q E h => by
    obtain ⟨d, q, b, Ps, _, _, _, _, h0, hl, _⟩ := h
    exact h0 (List.eq_nil_of_length_eq_zero (by omega))
  exact ⟨fun vs H Q E h => absurd h (no vs H Q E), fun A outer s H args us vs Q E _ _ _ _ h => absurd h (no vs H Q E)⟩
theorem ok20 {f f15 f16 f17 f18 f19 c PT : Addr} {fd fd15 fd16 fd17 fd18 fd19 : FuncData} (D : Df K mg "_law_shape" s20 f fd ["deal", "parts"]) (D15 : Df K mg "_law_draw" s15 f15 fd15 ["deal", "bound"]) (D16 : Df K mg "_law_pick" s16 f16 fd16 ["deal", "some"])
    (D17 : Df K mg "_law_mixed" s17 f17 fd17 ["deal", "things"]) (D18 : Df K mg "_law_leaves" s18 f18 fd18 ["shape"]) (D19 : DfC K mg "_law_told" s19 f19 fd19 c ["kind", "children"]) (Z : Zs mg) (TB : TabB base mg c PT) :
    ∀ n, FnOk P w K mg base CX0 (n + 3) f fd ["deal", "parts"] (sp20 K [(PT, nm19)] n)
  | 0 => none20
  | n + 1 => ok20_step D D15 D16 D17 D18 D19 Z TB (ok20 D D15 D16 D17 D18 D19 Z TB n)
end
end K24
namespace K24
open PySem PySem.Spec PyProof.Rows L2
def ab (i : Int) : Int := if i < 0 then -i else i
theorem ab_nonneg (i : Int) : 0 ≤ ab i := by
  unfold ab
  split <;> omega
section
variable {P : Program} {w : World} {K : PySem.W.Frag} {mg : Str → Option Value} {base : Heap}
/-! _law_deal -/
abbrev s14 : Stmt := top 14
abbrev N14 : List Str := ["script", "base", "cell", "cells", "blend"]
theorem sc14 : FnScope N14 ["script", "base"] (defScope s14) := ⟨rfl, rfl, rfl, by decide +kernel, rfl, by decide +kernel, by decide +kernel⟩
def sp14 (K : PySem.W.Frag) : Sp := fun vs H Q _ => ∃ (a : Addr) (ns : List Int), vs = [.ref a, .int 0] ∧ SqL K H a (ns.map V.int) ∧ ns.length ≤ 63 ∧ ∀ (H' : Hp) (d q : Addr), Same H H' → H d = none → H q = none → DealAt d q H' → Q (.ref d) H'
theorem ok14 {f : Addr} {fd : FuncData} (D : Df K mg "_law_deal" s14 f fd ["script", "base"]) (Z : Zs mg) : FnOk P w K mg base CX0 1 f fd ["script", "base"] (sp14 K) := by
  refine D.F.ok sc14 (fun vs H Q E h => ?_) (fun cdv A outer s H vs Q E hr h => ?_)
  · obtain ⟨a, ns, rfl, _⟩ := h
    rfl
  obtain ⟨a, ns, rfl, ha, hl, q⟩ := h
  refine ⟨_, pss_cons (ps_setLc (i := 3) (own := [("cell", 2)]) (g := gName 2) (tt := tYes) rfl sc14.nd rfl rfl (sw_true rfl rfl rfl (by decide +kernel)) (pi_list (pe_slice sl_list (pv 0) (po_some (pv 1)) (po_some pe_int))) (blkOk_by (N := N14) (sc := defScope s14) (by decide +kernel))
      (fun _ _ _ _ _ => pg_name (i := 2) sc14.nd rfl (.inl rfl)) (fun _ _ _ _ _ => pts_nil) (fun _ _ _ _ _ => pe_callB call_abs rfl Z.abs (by decide +kernel) (pa_cons (pe_callTy call_int1 rfl Z.int (by decide +kernel) (pa_cons (pv 2) pa_nil)) pa_nil)))
    (pss_cons (ps_set (i := 4) sc14.nd rfl (.inl rfl) (pe_op op_add pe_int (pe_op op_mul pe_int (pv 1))))
    (pss_cons (ps_for PassesOwn.never rfl (pi_list (pv 3)) (pg_name (i := 2) sc14.nd rfl (.inl rfl))
      (pss_one (ps_set (i := 4) sc14.nd rfl (.inl rfl) (pe_op op_mod (pe_callTy call_int1 rfl Z.int (by decide +kernel) (pa_cons
        (pe_op op_add (pe_op op_add (pe_op op_mul (pv 4) pe_int) (pe_op op_mod (pe_callTy call_int1 rfl Z.int (by decide +kernel) (pa_cons (pv 2) pa_nil)) pe_int)) pe_int) pa_nil)) pe_int))))
    (pss_one (ps_ret (pe_lst (pa_cons (pe_revL
        (pe_lc (own := [("cell", 2)]) (g := gName 2) rfl sc14.nd (pi_list (pv 3)) (blkOk_by (N := N14) (sc := defScope s14) (by decide +kernel))
          (fun _ _ _ _ _ => pg_name (i := 2) sc14.nd rfl (.inl rfl)) (fun _ _ _ _ _ => pts_one (pt_cmpR op_ge (pv 2) (pe_op op_pow pe_int pe_int) (nomark _))) (fun _ _ _ _ _ => pv 2)))
        (pa_cons (pv 4) pa_nil))))))), ?_⟩
  obtain ⟨ms, hms⟩ : ∃ ms : List Int, ms = (ns.drop (HT.sIx (ns.map V.int).length 0 (some 0))).take (HT.sIx (ns.map V.int).length (ns.map V.int).length (some 57) - HT.sIx (ns.map V.int).length 0 (some 0)) := ⟨_, rfl⟩
  have ecut : cutV (ns.map V.int) (some 0) (some 57) = ms.map V.int := by
    unfold cutV
    rw [← List.map_drop, ← List.map_take, ← hms]
  have hml : ms.length ≤ 63 := by
    rw [hms, List.length_take, List.length_drop]
    omega
  clear hms
  refine ⟨_, rfl, _, rfl, 0, rfl, 57, rfl, a, _, rfl, ha, fun p hp => ?_⟩
  rw [ecut]
  have s0 : Same H (upd H p (.lst (ms.map V.int))) := same_upd hp
  refine ⟨p, rfl, ⟨_, SqL.of upd_same⟩, fun dd hdd => ?_⟩
  refine lc_it (walk_list (K := K) (xs := ms.map V.int)) (fun j H' => Same (upd H p (.lst (ms.map V.int))) H' ∧ H' dd = some (.lst (((ms.take j).map ab).map V.int))) ⟨same_upd hdd, upd_same⟩ (fun j H' _ ⟨s2, _⟩ => SqL.of (s2 _ _ upd_same)) ?_ ?_
  · rintro j u H0 H1 hj ⟨s1, hz⟩ ⟨rfl, hu⟩
    obtain ⟨m, hm, rfl⟩ := int_at hu
    refine ⟨rfl, ?_⟩
    refine iteT (B := True) ?_
    refine ⟨_, rfl, .inl ⟨_, rfl, _, rfl, _, hz, ?_, same_upd2 s1 hdd, ?_⟩⟩
    · rw [List.length_map, List.length_map, List.length_take]
      exact small1000 (by omega)
    · rw [upd_same, take_snoc hm, List.map_append, List.map_append]
      rfl
  rintro H1 ⟨s1, hz⟩
  rw [List.length_map, List.take_length] at hz
  have sH1 := s0.trans s1
  have hcl : (ms.map ab).length ≤ 63 := by rw [List.length_map]; exact hml
  have hpos : ∀ x ∈ ms.map ab, 0 ≤ x := fun x hx => by
    obtain ⟨y, _, rfl⟩ := List.mem_map.mp hx
    exact ab_nonneg y
  have hddH : H dd = none := s0.free hdd
  revert hz hcl hpos
  generalize ms.map ab = cl
  intro hz hcl hpos
  refine ⟨_, rfl, _, _, rfl, rfl, .inl ⟨by decide, by decide⟩, _, _, rfl, rfl, ?_⟩
  refine ⟨_, rfl, dd, rfl, ⟨_, SqL.of hz⟩, ?_⟩
  refine for_it (walk_list (K := K) (xs := cl.map V.int)) (fun i σ H' => ∃ (y : Option V) (b : Int), σ = [some (.ref a), some (.int 0), y, some (.ref dd), some (.int b)] ∧ H' = H1 ∧ 0 ≤ b ∧ b < 2147483648) ⟨none, _, rfl, rfl, by decide, by decide⟩ (fun i σ H' _ ⟨_, _, _, e, _⟩ => by rw [e]; exact SqL.of hz) ?_ ?_
  · rintro i x σ H0 H2 hi ⟨y, b, rfl, rfl, hb0, hb⟩ ⟨rfl, hxi⟩
    obtain ⟨m, hm, rfl⟩ := int_at hxi
    refine ⟨_, rfl, _, _, rfl, rfl, .inl ⟨by omega, by omega⟩, _, rfl, .inl ⟨_, rfl, _, _, rfl, rfl, (by show (0 : Int) < 2147483549; decide), _, _, rfl, rfl, _, _, rfl, rfl, .inl ⟨_, rfl, _, _, rfl, rfl, (by show (0 : Int) < 2147483563; decide), ?_⟩⟩⟩
    refine ⟨_, _, rfl, rfl, Int.emod_nonneg _ (by decide), ?_⟩
    have := Int.emod_lt_of_pos (b * 40014 + m % 2147483549 + 29) (show (0 : Int) < 2147483563 by decide)
    omega
  · rintro σ H2 ⟨y, b, rfl, rfl, hb0, hb⟩
    refine ⟨_, rfl, dd, rfl, ⟨_, SqL.of hz⟩, fun d2 hd2 => ?_⟩
    refine lc_it (walk_list (K := K) (xs := cl.map V.int)) (fun j H' => Same H2 H' ∧ H' d2 = some (.lst (((cl.take j).filter fun x => decide ((10 : Int) ^ 18 ≤ x)).map V.int))) ⟨same_upd hd2, upd_same⟩ (fun j H' _ ⟨s2, _⟩ => SqL.of (s2 _ _ hz)) ?_ ?_
    · rintro j u H0 H3 hj ⟨s3, hz3⟩ ⟨rfl, hu⟩
      obtain ⟨m, hm, rfl⟩ := int_at hu
      refine ⟨rfl, ?_⟩
      refine ⟨_, rfl, _, _, rfl, rfl, ⟨by decide, by decide, by decide⟩, _, _, rfl, rfl, _, rfl, ?_⟩
      have hfl := List.length_filter_le (fun x => decide ((10 : Int) ^ 18 ≤ x)) (cl.take j)
      rw [List.length_take] at hfl
      by_cases h1 : (10 : Int) ^ 18 ≤ m
      · refine itT (decide_eq_true (show m ≥ (10 : Int) ^ (18 : Int).toNat from h1)) ?_
        refine ⟨_, rfl, _, hz3, ?_, same_upd2 s3 hd2, ?_⟩
        · rw [List.length_map]
          exact small1000 (by omega)
        · rw [upd_same, filter_snoc _ hm, if_pos (decide_eq_true h1), List.map_append]
          rfl
      · refine itF (fun z => h1 (show m ≥ (10 : Int) ^ (18 : Int).toNat from of_decide_eq_true z)) ?_
        refine ⟨s3, ?_⟩
        rw [filter_snoc _ hm, if_neg (fun z => h1 (of_decide_eq_true z)), List.append_nil]
        exact hz3
    · rintro H3 ⟨s3, hz3⟩
      rw [List.length_map, List.take_length] at hz3
      have hfl := List.length_filter_le (fun x => decide ((10 : Int) ^ 18 ≤ x)) cl
      have hfp : ∀ x ∈ cl.filter fun x => decide ((10 : Int) ^ 18 ≤ x), 0 ≤ x := fun x hx => hpos x (List.mem_filter.mp hx).1
      revert hz3 hfl hfp
      generalize (cl.filter fun x => decide ((10 : Int) ^ 18 ≤ x)) = fl
      intro hz3 hfl hfp
      refine ⟨d2, _, rfl, SqL.of hz3, fun q1 hq1 => ⟨_, rfl, (by show 2 ≤ sizeLine; decide), fun d1 hd1 => ?_⟩⟩
      have sH3 := sH1.trans s3
      have t1 : Same H3 (upd H3 q1 (.lst (fl.map V.int).reverse)) := same_upd hq1
      have t2 := t1.trans (same_upd (o := .lst [.ref q1, .int b]) hd1)
      have n12 : d1 ≠ q1 := fun z => by rw [z, upd_same] at hd1; cases hd1
      refine q _ d1 q1 (sH3.trans t2) (sH3.free (t1.free hd1)) (sH3.free hq1) ⟨b, fl.reverse, upd_same, ?_, fun x hx => hfp x (List.mem_reverse.mp hx), by rw [List.length_reverse]; omega, hb0, hb, n12⟩
      rw [upd_ne (Ne.symm n12), upd_same, List.map_reverse]
end
end K24
namespace K24
open PySem PySem.Spec PyProof.Rows L2
open LamX (Tabs TabB ExtN)
/-- all defs of the module -/
structure Lw (K : PySem.W.Frag) (mg : Str → Option Value) (a : Nat → Addr) (d : Nat → FuncData) (c : Addr) : Prop where
  T : Ps K mg a d
  d14 : Df K mg "_law_deal" (top 14) (a 14) (d 14) ["script", "base"]
  d15 : Df K mg "_law_draw" (top 15) (a 15) (d 15) ["deal", "bound"]
  d16 : Df K mg "_law_pick" (top 16) (a 16) (d 16) ["deal", "some"]
  d17 : Df K mg "_law_mixed" (top 17) (a 17) (d 17) ["deal", "things"]
  d18 : Df K mg "_law_leaves" (top 18) (a 18) (d 18) ["shape"]
  d19 : DfC K mg "_law_told" (top 19) (a 19) (d 19) c ["kind", "children"]
  d20 : Df K mg "_law_shape" (top 20) (a 20) (d 20) ["deal", "parts"]
  d21 : Df K mg "_law_groups" (top 21) (a 21) (d 21) ["kind", "many"]
  d22 : Df K mg "_law_union" (top 22) (a 22) (d 22) ["lots"]
  d24 : Df K mg "_law_lots" (top 24) (a 24) (d 24) ["many"]
  d25 : Df K mg "_law_overlap" (top 25) (a 25) (d 25) ["one", "other"]
  d26 : Df K mg "_law_places" (top 26) (a 26) (d 26) ["shape"]
  d27 : Df K mg "_law_hull" (top 27) (a 27) (d 27) ["inner", "lot"]
theorem any_lots (Ls : List (List Int)) (L : List Int) : ((Ls.map lotD).any fun z => PyData.eqv z (lotD L)) = decide (L ∈ Ls) := by
  induction Ls with
  | nil => simp
  | cons M Ls ih =>
    rw [List.map_cons, List.any_cons, ih, eqv_lot]
    by_cases e : M = L
    · simp [e]
    · by_cases e2 : L ∈ Ls
      · simp [e2]
      · simp [e, e2, Ne.symm e]
theorem okd_lot (L : List Int) : okd (lotD L) := by
  refine ⟨by unfold lotD; rw [PyData.canLay0]; exact lay_ints L, ?_⟩
  unfold lotD
  rw [PyData.depth, dep_ints]
  decide
theorem lots_ok (Ls : List (List Int)) : ∀ x ∈ Ls.map lotD, okd x := fun x hx => by
  obtain ⟨L, _, rfl⟩ := List.mem_map.mp hx
  exact okd_lot L
theorem shaped_lots (Ls : List (List Int)) : SeqAt.shaped (.list (Ls.map lotD)) = true := shaped_all (lots_ok Ls)
theorem shaped_tlots (Ls : List (List Int)) : SeqAt.shaped (.tuple (Ls.map lotD)) = true := by
  obtain ⟨h1, h2⟩ := lay_all (lots_ok Ls)
  show ((PyData.tuple (Ls.map lotD)).canLay0 && decide ((PyData.tuple (Ls.map lotD)).depth ≤ 64)) = true
  rw [Bool.and_eq_true]
  refine ⟨by rw [PyData.canLay0]; exact h1, decide_eq_true ?_⟩
  rw [PyData.depth]
  omega
theorem okd_pl (z : List Int × List Nat) : okd (plD z) := by
  obtain ⟨a1, a2⟩ := okd_lot z.1
  obtain ⟨b1, b2⟩ := okd_lot (ixs z.2)
  unfold plD
  refine ⟨by simp [PyData.canLay0, PyData.canLayAll0, a1, b1], ?_⟩
  have e1 : (lotD z.1).depth = 1 := by unfold lotD; rw [PyData.depth, dep_ints]
  have e2 : (lotD (ixs z.2)).depth = 1 := by unfold lotD; rw [PyData.depth, dep_ints]
  simp [PyData.depth, PyData.depthAll, e1, e2]
theorem okd_ql (z : List Int × List Int × List Nat) : okd (qlD z) := by
  obtain ⟨a1, a2⟩ := okd_lot z.1
  obtain ⟨b1, b2⟩ := okd_pl z.2
  unfold qlD
  refine ⟨by simp [PyData.canLay0, PyData.canLayAll0, a1, b1], ?_⟩
  have e1 : (lotD z.1).depth = 1 := by unfold lotD; rw [PyData.depth, dep_ints]
  have e2 : (plD z.2).depth = 2 := by
    have e3 : (lotD z.2.1).depth = 1 := by unfold lotD; rw [PyData.depth, dep_ints]
    have e4 : (lotD (ixs z.2.2)).depth = 1 := by unfold lotD; rw [PyData.depth, dep_ints]
    unfold plD
    simp [PyData.depth, PyData.depthAll, e3, e4]
  simp [PyData.depth, PyData.depthAll, e1, e2]
theorem shaped_ok {x : PyData} (h : okd x) : SeqAt.shaped x = true := by
  obtain ⟨h1, h2⟩ := h
  show (x.canLay0 && decide (x.depth ≤ 64)) = true
  rw [Bool.and_eq_true]
  exact ⟨h1, decide_eq_true (by omega)⟩
theorem dts_mem {α : Type} {H : Hp} {e : α → PyData} {vs : List V} {zs : List α} (h : Dts H vs (zs.map e)) {v : V} (hv : v ∈ vs) : ∃ z ∈ zs, Dt H v (e z) := by
  obtain ⟨i, hi⟩ := List.getElem?_of_mem hv
  obtain ⟨x, hx, hd⟩ := h.get hi
  rw [List.getElem?_map] at hx
  cases hz : zs[i]? with
  | none => rw [hz] at hx; simp at hx
  | some z =>
    rw [hz] at hx
    obtain rfl : e z = x := Option.some.inj hx
    exact ⟨z, List.mem_of_getElem? hz, hd⟩
theorem mem_cut {xs : List V} {lo hi : Option Int} {v : V} (h : v ∈ cutV xs lo hi) : v ∈ xs := by
  unfold cutV at h
  exact List.mem_of_mem_drop (List.mem_of_mem_take h)
theorem dt_ql {H : Hp} {v : V} {z : List Int × List Int × List Nat} (h : Dt H v (qlD z)) : ∃ p1 p2 u, v = .ref p1 ∧ H p1 = some (.tup [.ref p2, u]) ∧ H p2 = some (.tup (z.1.map V.int)) ∧ Dt H u (plD z.2) := by
  obtain ⟨a, xs, rfl, ha, t⟩ := h.tup_of
  cases t with
  | cons h1 t =>
    cases t with
    | cons h2 t =>
      cases t
      obtain ⟨b, rfl, hb⟩ := dt_lot h1
      exact ⟨a, b, _, rfl, ha, hb, h2⟩
section
variable {P : Program} {w : World} {K : PySem.W.Frag} {mg : Str → Option Value} {base : Heap} {a : Nat → Addr} {d : Nat → FuncData}
abbrev s28 : Stmt := top 28
abbrev N28 : List Str := ["script", "deal", "many", "shape", "places", "lot", "place", "inner", "strong", "told", "crossing", "other"]
theorem sc28 : FnScope N28 ["script"] (defScope s28) := ⟨rfl, rfl, rfl, by decide +kernel, rfl, by decide +kernel, by decide +kernel⟩
def sp28 (K : PySem.W.Frag) (T : List (Addr × Str)) : Sp := fun vs H Q _ => ∃ (a : Addr) (ns : List Int), vs = [.ref a] ∧ SqL K H a (ns.map V.int) ∧ ns.length ≤ 63 ∧ Tabs T H ∧ ∀ H', Q (.bl true) H'
theorem ok28 {f c PT : Addr} {fd : FuncData} (F : Fun K "law" "law" s28 f fd) (W : Lw K mg a d c) (TB : TabB base mg c PT) : FnOk P w K mg base CX0 12 f fd ["script"] (sp28 K [(PT, nm19)]) := by
  have Z := W.T.Z
  have G4 : FnOk P w K mg base CX0 8 (a 4) (d 4) ["shape"] (sp4 6) := ok4 W.T.d4 W.T.d1 W.T.du W.T.d2 W.T.d3 Z
  have G9 : FnOk P w K mg base CX0 9 (a 9) (d 9) ["shape", "lot"] (sp9 K 6) := ok9 6 W.T
  have G10 : FnOk P w K mg base CX0 10 (a 10) (d 10) ["shape", "lot"] (sp10 K 6) := ok10 6 W.T
  have G11 : FnOk P w K mg base CX0 11 (a 11) (d 11) ["shape", "lot"] (sp11 K 6) := ok11 6 W.T
  have G12 : FnOk P w K mg base CX0 9 (a 12) (d 12) ["shape", "lot"] (sp12 K 6) := ok12 6 W.T
  have G14 : FnOk P w K mg base CX0 1 (a 14) (d 14) ["script", "base"] (sp14 K) := ok14 W.d14 Z
  have G15 : FnOk P w K mg base CX0 1 (a 15) (d 15) ["deal", "bound"] sp15 := ok15 W.d15 Z
  have G17 : FnOk P w K mg base CX0 2 (a 17) (d 17) ["deal", "things"] (sp17 K) := ok17 W.d17 W.d15 Z
  have G20 : FnOk P w K mg base CX0 9 (a 20) (d 20) ["deal", "parts"] (sp20 K [(PT, nm19)] 6) := ok20 W.d20 W.d15 W.d16 W.d17 W.d18 W.d19 Z TB 6
  have G24 : FnOk P w K mg base CX0 1 (a 24) (d 24) ["many"] sp24 := ok24 W.d24 Z
  have G25 : FnOk P w K mg base CX0 1 (a 25) (d 25) ["one", "other"] (sp25 K) := ok25 W.d25 Z
  have G26 : FnOk P w K mg base CX0 8 (a 26) (d 26) ["shape"] (sp26 6) := ok26 W.d26 W.d18 W.d21 W.d22 Z 6
  have G27 : FnOk P w K mg base CX0 1 (a 27) (d 27) ["inner", "lot"] (sp27 K) := ok27 W.d27 Z
  have b4 := kbinds W.T.d4.F (ps := ["shape"]) (by simp) fun _ _ _ _ _ _ ws hl => match ws, hl with | [_], _ => rfl
  have b9 := kbinds W.T.d9.F (ps := ["shape", "lot"]) (by simp) fun _ _ _ _ _ _ ws hl => match ws, hl with | [_, _], _ => rfl
  have b11 := kbinds W.T.d11.F (ps := ["shape", "lot"]) (by simp) fun _ _ _ _ _ _ ws hl => match ws, hl with | [_, _], _ => rfl
  have b12 := kbinds W.T.d12.F (ps := ["shape", "lot"]) (by simp) fun _ _ _ _ _ _ ws hl => match ws, hl with | [_, _], _ => rfl
  refine F.ok sc28 (fun vs H Q E h => ?_) (fun cdv A outer s H vs Q E hr h => ?_)
  · obtain ⟨a, ns, rfl, _⟩ := h
    rfl
  obtain ⟨a0, ns, rfl, ha0, hl, hT, q⟩ := h
  have r1 : Room 1 _ := hr.mono (by decide)
  have r2 : Room 2 _ := hr.mono (by decide)
  have r8 : Room 8 _ := hr.mono (by decide)
  have r9 : Room 9 _ := hr.mono (by decide)
  have r10 : Room 10 _ := hr.mono (by decide)
  have hu := hr.units
  have hu65 := lt65 hr
  refine ⟨_, pss_cons (ps_set (i := 1) sc28.nd rfl (.inl rfl) (pe_call G14 r1 rfl W.d14.g W.d14.F.kp W.d14.b .nil pass0 (pa_cons (pv 0) (pa_cons pe_int pa_nil))))
    (pss_cons (ps_set (i := 2) sc28.nd rfl (.inl rfl) (pe_op op_add pe_int (pe_call G15 r1 rfl W.d15.g W.d15.F.kp W.d15.b .nil pass0 (pa_cons (pv 1) (pa_cons pe_int pa_nil)))))
    (pss_cons (ps_set (i := 3) sc28.nd rfl (.inr rfl) (pe_call G20 r9 rfl W.d20.g W.d20.F.kp W.d20.b .nil pass0 (pa_cons (pv 1) (pa_cons (pe_listRg rfl rfl Z.lst (prg_1 rfl Z.rng (pv 2))) pa_nil))))
    (pss_cons (ps_set (i := 4) sc28.nd rfl (.inl rfl) (pe_call G26 r8 rfl W.d26.g W.d26.F.kp W.d26.b .nil pass0 (pa_cons (pv 3) pa_nil)))
    (pss_cons (ps_par (i := 7) (j := 8) (by rfl) sc28.nd rfl rfl (by decide) rfl rfl (pa_cons
        (pe_lc (own := [("lot", 5), ("place", 6)]) (g := gTup K 2 (gCons (gName 5) (gCons (gName 6) gNil))) (tt := tYes) rfl sc28.nd (pi_list (pv 4)) (blkOk_by (N := N28) (sc := defScope s28) (by decide +kernel))
          (fun _ _ _ _ _ => pg_tup rfl (pgs_cons (pg_name (i := 5) sc28.nd rfl (.inl rfl)) (pgs_cons (pg_name (i := 6) sc28.nd rfl (.inl rfl)) pgs_nil))) (fun _ _ _ _ _ => pts_nil) (fun _ _ _ _ _ => pv 5))
        (pa_cons (pe_callK0 G4 r8 rfl W.T.d4.g W.T.d4.F.kp b4 pass0 (pk_cons (pv 3) pk_nil)) pa_nil)) (by rfl))
    (pss_cons (ps_for PassesOwn.never rfl (pi_list (pe_call G24 r1 rfl W.d24.g W.d24.F.kp W.d24.b .nil pass0 (pa_cons (pv 2) pa_nil))) (pg_name (i := 5) sc28.nd rfl (.inr rfl))
      (pss_cons (ps_set (i := 9) sc28.nd rfl (.inl rfl) (pe_call G10 r10 rfl W.T.d10.g W.T.d10.F.kp W.T.d10.b .nil pass0 (pa_cons (pv 3) (pa_cons (pv 5) pa_nil))))
      (pss_one (ps_if (PW.pt (pw_or (pt_not (pt_truth (pe_callB call_isi rfl Z.isi (by decide +kernel) (pa_cons (pv 9) (pa_cons (pe_bltn (v := .ty "bool") rfl Z.bool (by decide +kernel) rfl) pa_nil))) (fun _ => rfl)))
          (pw_or1 (pt_cmpR op_ne (pv 9) (pe_cmpR (op_inD hu65) (pv 5) (pv 7) (by with_unfolding_all rfl)) (nomark _))))) (pss_one (ps_ret pe_bl)) pss_nil))))
    (pss_cons (ps_for PassesOwn.never rfl (pi_list (pe_slice sl_list (pe_call G17 r2 rfl W.d17.g W.d17.F.kp W.d17.b .nil pass0 (pa_cons (pv 1) (pa_cons (pv 4) pa_nil))) po_none (po_some pe_int)))
        (pg_tup rfl (pgs_cons (pg_name (i := 5) sc28.nd rfl (.inr rfl)) (pgs_cons (pg_name (i := 6) sc28.nd rfl (.inl rfl)) pgs_nil)))
      (pss_cons (ps_if (PW.pt (pw_or (pt_cmpR (op_neD hu) (pe_call G11 hr rfl W.T.d11.g W.T.d11.F.kp W.T.d11.b .nil pass0 (pa_cons (pv 3) (pa_cons (pv 5) pa_nil))) (pv 6) (nomark _))
          (pw_or1 (pt_cmpR (op_neD hu) (pe_call G9 r9 rfl W.T.d9.g W.T.d9.F.kp W.T.d9.b .nil pass0 (pa_cons (pv 3) (pa_cons (pv 5) pa_nil))) (pv 5) (nomark _))))) (pss_one (ps_ret pe_bl)) pss_nil)
      (pss_cons (ps_set (i := 10) sc28.nd rfl (.inl rfl) (pe_callK0 G12 r9 rfl W.T.d12.g W.T.d12.F.kp b12 pass0 (pk_cons (pv 3) (pk_cons (pv 5) pk_nil))))
      (pss_one (ps_if (pt_cmpR (op_inDT hu65) (pv 5) (pv 8) (by with_unfolding_all rfl))
        (pss_one (ps_if (PW.pt (pw_or (pt_cmpR op_notN (pv 10) pe_non (nomark _)) (pw_or1 (pt_cmpR (op_neD hu)
            (pe_lc (own := [("other", 11)]) (g := gName 11) rfl sc28.nd (pi_list (pv 7)) (blkOk_by (N := N28) (sc := defScope s28) (by decide +kernel))
              (fun _ _ _ _ _ => pg_name (i := 11) sc28.nd rfl (.inl rfl)) (fun _ _ _ _ _ => pts_one (pt_val (pe_call G25 r1 rfl W.d25.g W.d25.F.kp W.d25.b .nil pass0 (pa_cons (pv 5) (pa_cons (pv 11) pa_nil))))) (fun _ _ _ _ _ => pv 11))
            (pe_lst pa_nil) (nomark _))))) (pss_one (ps_ret pe_bl)) pss_nil))
        (pss_one (ps_if (PW.pt (pw_or (pt_cmpR (op_notInD hu65) (pv 10) (pv 7) (by with_unfolding_all rfl))
            (pw_or1 (pt_not (pt_truth (pe_call G25 r1 rfl W.d25.g W.d25.F.kp W.d25.b .nil pass0 (pa_cons (pv 5) (pa_cons (pv 10) pa_nil))) (fun _ => rfl)))))) (pss_one (ps_ret pe_bl)) pss_nil)))))))
    (pss_cons (ps_for PassesOwn.never rfl (pi_list (pe_slice sl_list (pe_call G17 r2 rfl W.d17.g W.d17.F.kp W.d17.b .nil pass0 (pa_cons (pv 1) (pa_cons (pe_call G24 r1 rfl W.d24.g W.d24.F.kp W.d24.b .nil pass0 (pa_cons (pv 2) pa_nil)) pa_nil))) po_none (po_some pe_int))) (pg_name (i := 5) sc28.nd rfl (.inr rfl))
      (pss_cons (ps_if (pt_cmpR (op_neD hu) (pe_callK0 G9 r9 rfl W.T.d9.g W.T.d9.F.kp b9 pass0 (pk_cons (pv 3) (pk_cons (pe_callTy call_list_of rfl Z.lst (by decide +kernel) (pa_cons (pv 5) pa_nil)) pk_nil)))
          (pe_call G27 r1 rfl W.d27.g W.d27.F.kp W.d27.b .nil pass0 (pa_cons (pv 7) (pa_cons (pv 5) pa_nil))) (nomark _)) (pss_one (ps_ret pe_bl)) pss_nil)
      (pss_one (ps_if (PW.pt (pw_and (pt_cmpR (op_notInD hu65) (pv 5) (pv 7) (by with_unfolding_all rfl)) (pw_and1 (PW.pt (pw_or
          (pt_cmpR op_notN (pe_callK0 G11 hr rfl W.T.d11.g W.T.d11.F.kp b11 pass0 (pk_cons (pv 3) (pk_cons (pv 5) pk_nil))) pe_non (nomark _))
          (pw_or1 (pt_truth (pe_call G10 r10 rfl W.T.d10.g W.T.d10.F.kp W.T.d10.b .nil pass0 (pa_cons (pv 3) (pa_cons (pe_callTy call_list_of rfl Z.lst (by decide +kernel) (pa_cons (pv 5) pa_nil)) pa_nil))) (fun _ => rfl)))))))) (pss_one (ps_ret pe_bl)) pss_nil))))
    (pss_one (ps_ret (pe_cmpR op_eq (pe_callB call_len_seq rfl Z.len PySem.boot_len (pa_cons (pv 8) pa_nil)) (pe_callB call_len_seq rfl Z.len PySem.boot_len (pa_cons
      (pe_lc (own := [("lot", 5)]) (g := gName 5) rfl sc28.nd (pi_list (pv 7)) (blkOk_by (N := N28) (sc := defScope s28) (by decide +kernel))
        (fun _ _ _ _ _ => pg_name (i := 5) sc28.nd rfl (.inl rfl)) (fun _ _ _ _ _ => pts_one (pt_cmpR op_isN (pe_call G12 r9 rfl W.T.d12.g W.T.d12.F.kp W.T.d12.b .nil pass0 (pa_cons (pv 3) (pa_cons (pv 5) pa_nil))) pe_non (nomark _))) (fun _ _ _ _ _ => pv 5)) pa_nil)) (nomark _))))))))))), ?_⟩
  refine ⟨_, rfl, a0, ns, rfl, ha0, hl, fun H1 dl ql s1 hd1 hq1 D1 => ?_⟩
  have T1 := hT.ext s1
  refine ⟨_, rfl, dl, ql, 6, rfl, D1, by decide, by decide, fun r H2 hr6 D2 k2 => ⟨_, _, rfl, rfl, ?_⟩⟩
  have T2 := tabs_dq D1 T1 k2
  dsimp only
  rw [show (1 : Int) + (r : Int) = ((r + 1 : Nat) : Int) by omega]
  obtain ⟨m, em⟩ : ∃ m, m = r + 1 := ⟨_, rfl⟩
  rw [← em]
  have hm0 : 0 < m := by omega
  have hm6 : m ≤ 6 := by omega
  clear em
  refine ⟨_, rfl, _, rfl, _, rfl, RgOk.of_le (by omega) (by omega) (by omega) (by omega), fun p hp => ?_⟩
  rw [rg_range]
  have s3 : Same H2 (upd H2 p (.lst ((ixs (List.range m)).map V.int))) := same_upd hp
  have np := D2.ne hp
  refine ⟨dl, ql, p, ixs (List.range m), rfl, D2.sm s3, T2.ext s3, SqL.of upd_same, ?_, ?_, by decide, np.1, np.2, fun H4 sv t g4 hv4 ho hpm => ?_⟩
  · intro e
    have : (ixs (List.range m)).length = 0 := by rw [e]; rfl
    rw [ixs, List.length_map, List.length_range] at this
    omega
  · rw [ixs, List.length_map, List.length_range]
    exact hm6
  have hndP : (ixs (List.range m)).Nodup := by
    unfold ixs
    exact List.pairwise_map.mpr ((sn_nd (sn_range m)).imp fun h e => h (by omega))
  have wf : Wf t := ⟨ho, hpm.nodup_iff.mpr hndP⟩
  have hlen : (lv t).length ≤ 6 := by
    have := hpm.length_eq
    rw [ixs, List.length_map, List.length_range] at this
    omega
  have hmem : ∀ x, 0 ≤ x ∧ x < (m : Int) → x ∈ lv t := fun x hx => hpm.mem_iff.mpr (by
    unfold ixs
    exact List.mem_map.mpr ⟨x.toNat, List.mem_range.mpr (by omega), by omega⟩)
  have hshort : ∀ L : List Int, SS L → sub L (lv t) → L.length ≤ 6 := fun L h1 h2 => Nat.le_trans (nd_sub_len (ss_nd h1) h2) hlen
  clear hpm
  refine ⟨_, rfl, sv, t, rfl, hv4, ho, hlen, by decide, fun H5 pl zs s5 hpl0 hpl hzs => ?_⟩
  have hzl := hzs.length
  rw [List.length_map] at hzl
  refine ⟨_, rfl, pl, rfl, ⟨_, SqL.of hpl⟩, fun il hil => ?_⟩
  refine lc_it (walk_list (K := K) (xs := zs)) (fun j H' => Same H5 H' ∧ ∃ is, H' il = some (.lst is) ∧ Dts H' is (((places t).take j).map fun z => lotD z.1)) ⟨same_upd hil, [], upd_same, by simpa using Dts.nil⟩ (fun j H' _ ⟨s2, _⟩ => SqL.of (s2 _ _ hpl)) ?_ ?_
  · rintro j u H0 H6 hj ⟨s6, is, his, hgs⟩ ⟨rfl, hu⟩
    obtain ⟨x, hx, hxd⟩ := hzs.get hu
    rw [List.getElem?_map] at hx
    cases hzj : (places t)[j]? with
    | none => rw [hzj] at hx; simp at hx
    | some z =>
      rw [hzj] at hx
      obtain rfl : qlD z = x := Option.some.inj hx
      obtain ⟨p1, p2, u2, rfl, e1, e2, e3⟩ := dt_ql (hxd.sm s6)
      refine ⟨p1, _, rfl, SqT.of e1, rfl, _, [u2], rfl, _, [], rfl, rfl, rfl, ?_⟩
      refine iteT (B := True) ?_
      have hgl := hgs.length
      rw [List.length_map, List.length_take] at hgl
      have hpl2 := places_len t ho (by omega)
      have htl := trees_len t ho
      refine ⟨_, rfl, is, his, lt_line (by omega), same_upd2 s6 hil, _, upd_same, ?_⟩
      rw [take_snoc hzj, List.map_append]
      exact (hgs.app (.one (dt_lot_mk e2))).kp (kp_list (H1 := H6) his)
  rintro H6 ⟨s6, is, his, hgs⟩
  rw [hzl, List.take_length] at hgs
  have egs : (places t).map (fun z => lotD z.1) = (inn t).map lotD := by
    unfold inn
    rw [List.map_map]
    rfl
  rw [egs] at hgs
  refine ⟨_, rfl, sv, t, rfl, hv4.sm (s5.trans s6), ho, hlen, by decide, fun H7 st ss Ls s7 hst0 hst hss hperm => ⟨_, _, rfl, ?_⟩⟩
  have g5 := g4.sm s5
  have g7 := g4.sm (s5.trans (s6.trans s7))
  have npl := (g4.D.ne hpl0)
  have nil := (g5.D.ne hil)
  have D7 := g7.D
  have hv := hv4.sm (s5.trans (s6.trans s7))
  have hpl7 := (s6.trans s7) _ _ hpl
  have hzs7 := hzs.sm (s6.trans s7)
  have his7 := s7 _ _ his
  have hgs7 := hgs.sm s7
  clear g4 g5 g7 hv4 hpl0 hil hst0 s5 s6 s7 hpl hzs his hgs egs s3 np hp T2 k2 D2 T1 D1 hd1 hq1 s1 ha0 hT hl
  -- what is known of inner lots
  have hinn : ∀ L ∈ inn t, L ≠ [] ∧ sub L (lv t) ∧ SS L ∧ L.length ≤ 6 := fun L hL => by
    obtain ⟨x1, x2, x3⟩ := inn_lot t wf L hL
    exact ⟨x1, x2, x3, hshort L x3 x2⟩
  have innlen : (inn t).length ≤ 5000 := by
    have hpl2 := places_len t ho (by omega)
    have htl := trees_len t ho
    unfold inn
    rw [List.length_map]
    omega
  have inner_dp : ∀ {H' : Hp}, Dq dl ql H7 H' → Dp K H' (.ref il) (.list ((inn t).map lotD)) := fun k => .lst (SqL.of (k _ _ his7 nil.1 nil.2)) (hgs7.kp (D7.kp k)).dp
  have same_dq : ∀ {H' H'' : Hp}, Dq dl ql H7 H' → Same H' H'' → Dq dl ql H7 H'' := fun k s => k.trans (.of s)
  -- all lots: is_inner
  refine ⟨_, rfl, m, rfl, by omega, fun H8 lp lz LL s8 hlp0 hlp hlz hLL hLLl => ?_⟩
  refine ⟨lp, rfl, ⟨_, SqL.of hlp⟩, ?_⟩
  have hlzl := hlz.length
  rw [List.length_map] at hlzl
  refine for_it (walk_list (K := K) (xs := lz)) (fun i σ H' => ∃ (y5 y9 : Option V), σ = [some (.ref a0), some (.ref dl), some (.int m), some sv, some (.ref pl), y5, none, some (.ref il), some (.ref st), y9, none, none] ∧ Same H8 H')
    ⟨none, none, rfl, Same.refl H8⟩ (fun i σ H' _ ⟨_, _, _, sm⟩ => SqL.of (sm _ _ hlp)) ?_ ?_
  · rintro i x σ H0 H9 hi ⟨y5, y9, rfl, s9⟩ ⟨rfl, hxi⟩
    obtain ⟨L, hL, hxd⟩ := dts_mem hlz (List.mem_of_getElem? hxi)
    obtain ⟨x1, x2, x3⟩ := hLL L hL
    have x4 : sub L (lv t) := fun z hz => hmem z (x3 z hz)
    have x5 := hshort L x2 x4
    obtain ⟨al, rfl, hal⟩ := dt_lot (hxd.sm s9)
    have s79 := s8.trans s9
    refine ⟨_, rfl, _, rfl, sv, al, t, L, rfl, hv.sm s79, .inr (SqT.of hal), by omega, wf, x1, x4, hlen, by decide, fun H10 s10 => ?_⟩
    refine ⟨_, rfl, _, _, _, _, true, rfl, .ty _, .base (.bl _), kit_ty (by decide +kernel), _, rfl, ?_⟩
    refine itF (by decide) ?_
    refine ⟨_, rfl, _, rfl, _, rfl, lotD L, _, .tup (SqT.of (s10 _ _ hal)) (dp_ints L), inner_dp (.of (s79.trans s10)), shaped_lot L, shaped_lots _, rfl, _, rfl, ?_⟩
    rw [any_lots]
    refine itF (fun z => ?_) ⟨_, _, rfl, s9.trans s10⟩
    have e : decide (hull t L = L) = decide (L ∈ inn t) := decide_eq_decide.mpr (hull_iff wf x1 x4)
    rw [e] at z
    simp at z
  rintro σ H9 ⟨y5, y9, rfl, s9⟩
  have D9 := D7.sm (s8.trans s9)
  have k9 : Dq dl ql H7 H9 := .of (s8.trans s9)
  clear hlp0 hlp hlz hLL hLLl hlzl s8 s9
  -- some inner lots: places, hulls, crossing lots
  have hpldata : Dm H7 zs := fun v hv' => by
    obtain ⟨z, _, hz⟩ := dts_mem hzs7 hv'
    exact ⟨_, hz, okd_ql z⟩
  have hzl5 : zs.length ≤ 5000 := by
    have : (places t).length = (inn t).length := by unfold inn; rw [List.length_map]
    omega
  refine ⟨_, rfl, _, rfl, dl, ql, pl, zs, rfl, D9, SqL.of (k9 _ _ hpl7 npl.1 npl.2), hpldata.kp (D7.kp k9), by omega, fun ys p2 H10 hpm2 hp20 hp2 D10 k10 => ?_⟩
  refine ⟨12, rfl, p2, ys, rfl, SqL.of hp2, fun p3 hp3 => ?_⟩
  have s11 := same_upd (o := .lst (cutV ys none (some 12))) hp3
  have k11 : Dq dl ql H7 (upd H10 p3 (.lst (cutV ys none (some 12)))) := (k9.trans k10).trans (.of s11)
  have D11 := D10.sm s11
  refine ⟨p3, rfl, ⟨_, SqL.of upd_same⟩, ?_⟩
  have hp3' : upd H10 p3 (.lst (cutV ys none (some 12))) p3 = some (.lst (cutV ys none (some 12))) := upd_same
  revert k11 D11 hp3'
  generalize upd H10 p3 (.lst (cutV ys none (some 12))) = H11
  intro k11 D11 hp3'
  refine for_it (walk_list (K := K) (xs := cutV ys none (some 12))) (fun i σ H' => ∃ (y5 y6 y9 y10 : Option V), σ = [some (.ref a0), some (.ref dl), some (.int m), some sv, some (.ref pl), y5, y6, some (.ref il), some (.ref st), y9, y10, none] ∧ Same H11 H')
    ⟨_, _, _, _, rfl, Same.refl H11⟩ (fun i σ H' _ ⟨_, _, _, _, _, sm⟩ => SqL.of (sm _ _ hp3')) ?_ ?_
  · rintro i x σ H0 H12 hi ⟨y5, y6, y9, y10, rfl, s12⟩ ⟨rfl, hxi⟩
    obtain ⟨z, hz, hzd⟩ := dts_mem hzs7 (hpm2.mem_iff.mp (mem_cut (List.mem_of_getElem? hxi)))
    have k12 := same_dq k11 s12
    obtain ⟨p1, al, u, rfl, e1, hal, hud⟩ := dt_ql (hzd.kp (D7.kp k12))
    have hLin : z.1 ∈ inn t := List.mem_map.mpr ⟨z, hz, rfl⟩
    have hpz := place_is t wf z hz
    revert hal hLin hpz hud
    obtain ⟨L, pz⟩ := z
    intro hal hud hLin hpz
    dsimp only at hud hal hLin hpz
    obtain ⟨x1, x4, x2, x5⟩ := hinn L hLin
    have hfix : hull t L = L := hull_fix wf hLin
    have hv12 := hv.kp (D7.kp k12)
    refine ⟨p1, _, rfl, .inl (.inl e1), rfl, _, [u], rfl, u, [], rfl, rfl, ?_⟩
    refine ⟨_, rfl, _, rfl, sv, al, t, L, rfl, hv12, .inr (SqT.of hal), by omega, wf, x1, x4, hlen, by decide, fun H13 v13 s13 hA _ => ?_⟩
    refine ⟨_, rfl, plD (place t L), plD pz, (hA hfix).dp, (hud.sm s13).dp, shaped_ok (okd_pl _), shaped_ok (okd_pl _), _, rfl, ?_⟩
    rw [hpz, SeqAt.eqv_refl _ (okd_pl pz).1]
    refine itF (by decide) ?_
    have hal13 := s13 _ _ hal
    refine ⟨_, rfl, _, rfl, sv, al, t, L, rfl, hv12.sm s13, .inr (SqT.of hal13), by omega, wf, x1, x4, hlen, by decide, fun H14 p14 s14 hp140 hp14 => ?_⟩
    refine ⟨_, rfl, lotD (hull t L), lotD L, (dt_lot_mk hp14).dp, .tup (SqT.of (s14 _ _ hal13)) (dp_ints L), shaped_lot _, shaped_lot _, _, rfl, ?_⟩
    rw [hfix, SeqAt.eqv_refl _ (okd_lot L).1]
    refine itF (by decide) ?_
    have s1214 := s13.trans s14
    have hal14 := s1214 _ _ hal
    refine ⟨_, rfl, _, rfl, sv, al, t, L, rfl, hv12.sm s1214, .inr (SqT.of hal14), by omega, wf, hLin, hlen, by decide, fun H15 cv s15 hN hS => ?_⟩
    have s1215 := s1214.trans s15
    have k15 := same_dq k12 s1215
    have hal15 := s15 _ _ hal14
    have hsd : Dp K H15 (.ref st) (.tuple (Ls.map lotD)) := .tup (SqT.of ((D7.kp k15).tup hst)) ((hss.kp (D7.kp k15)).dp)
    refine ⟨_, rfl, _, rfl, lotD L, _, .tup (SqT.of hal15) (dp_ints L), hsd, shaped_lot L, shaped_tlots _, _, rfl, ?_⟩
    rw [any_lots]
    by_cases hst2 : L ∈ Ls
    · refine itT (decide_eq_true hst2) ?_
      have hstr : L ∈ strong t := hperm.mem_iff.mp hst2
      have hnone : cross t L = none := by
        rcases cross_is t wf L hLin with ⟨h, _⟩ | ⟨C, _, hC, ho2⟩
        · exact h
        · exact absurd ho2 (strong_no wf hstr hC)
      obtain rfl := hN hnone
      refine ⟨_, rfl, rfl, _, rfl, ?_⟩
      refine itF (by decide) ?_
      have hil15 := k15 _ _ his7 nil.1 nil.2
      have hgs15 := hgs7.kp (D7.kp k15)
      refine ⟨_, rfl, il, rfl, ⟨_, SqL.of hil15⟩, fun d5 hd5 => ?_⟩
      refine lc_it (walk_list (K := K) (xs := is)) (fun j H' => Same H15 H' ∧ H' d5 = some (.lst [])) ⟨same_upd hd5, upd_same⟩ (fun j H' _ ⟨s2, _⟩ => SqL.of (s2 _ _ hil15)) ?_ ?_
      · rintro j u2 H0 H16 hj ⟨s16, hz16⟩ ⟨rfl, hu2⟩
        obtain ⟨M, hM, hMd⟩ := dts_mem (hgs15.sm s16) (List.mem_of_getElem? hu2)
        obtain ⟨am, rfl, ham⟩ := dt_lot hMd
        obtain ⟨_, _, _, m5⟩ := hinn M hM
        refine ⟨rfl, ?_⟩
        refine ⟨_, rfl, _, rfl, al, am, L, M, rfl, SqT.of (s16 _ _ hal15), SqT.of ham, by omega, by omega, fun H17 s17 => ⟨_, rfl, ?_⟩⟩
        refine itF (fun q2 => strong_no wf hstr hM (of_decide_eq_true q2)) ?_
        exact ⟨s16.trans s17, s17 _ _ hz16⟩
      · rintro H16 ⟨s16, hz16⟩
        refine ⟨Nat.zero_le _, fun l2 hl2 => ?_⟩
        have t2 := same_upd (o := .lst []) hl2
        refine ⟨.list [], .list [], .lst (SqL.of (t2 _ _ hz16)) .nil, .lst (SqL.of upd_same) .nil, shaped_nil, shaped_nil, _, rfl, ?_⟩
        refine itF (by rw [eqv_nil]; decide) ?_
        exact ⟨_, _, _, _, rfl, s12.trans (s1215.trans (s16.trans t2))⟩
    · refine itF (fun q2 => hst2 (of_decide_eq_true q2)) ?_
      obtain ⟨C, hC0, hC, ho2⟩ : ∃ C, cross t L = some C ∧ C ∈ inn t ∧ ovl L C := by
        rcases cross_is t wf L hLin with ⟨_, h⟩ | h
        · exact absurd (hperm.mem_iff.mpr h) hst2
        · exact h
      obtain ⟨ac, rfl, hac⟩ := dt_lot (hS C hC0)
      obtain ⟨_, _, _, c5⟩ := hinn C hC
      refine ⟨_, rfl, _, rfl, lotD C, _, .tup (SqT.of hac) (dp_ints C), inner_dp k15, shaped_lot C, shaped_lots _, _, rfl, ?_⟩
      rw [any_lots]
      refine itF (by simp [hC]) ?_
      refine ⟨_, rfl, _, rfl, al, ac, L, C, rfl, SqT.of hal15, SqT.of hac, by omega, by omega, fun H17 s17 => ⟨_, rfl, ?_⟩⟩
      refine itF (by simp [ho2]) ?_
      exact ⟨_, _, _, _, rfl, s12.trans (s1215.trans s17)⟩
  rintro σ H12 ⟨y5, y6, y9, y10, rfl, s12⟩
  have D12 := D11.sm s12
  have k12 := same_dq k11 s12
  clear hp20 hp2 hp3 s11 hp3' s12 D11 k11
  -- hulls of drawn lots
  refine ⟨_, rfl, _, rfl, m, rfl, by omega, fun H13 lp lz LL s13 hlp0 hlp hlz hLL hLLl => ?_⟩
  have D13 := D12.sm s13
  have k13 := same_dq k12 s13
  have hlzl := hlz.length
  rw [List.length_map] at hlzl
  have hlzd : Dm H13 lz := fun v hv' => by
    obtain ⟨L, _, hL⟩ := dts_mem hlz hv'
    exact ⟨_, hL, okd_lot L⟩
  have nlp := D12.ne hlp0
  refine ⟨dl, ql, lp, lz, rfl, D13, SqL.of hlp, hlzd, by omega, fun ys2 p2 H14 hpm3 hp20 hp2 D14 k14 => ?_⟩
  refine ⟨10, rfl, p2, ys2, rfl, SqL.of hp2, fun p3 hp3 => ?_⟩
  have s15 := same_upd (o := .lst (cutV ys2 none (some 10))) hp3
  have k15 : Dq dl ql H7 (upd H14 p3 (.lst (cutV ys2 none (some 10)))) := (k13.trans k14).trans (.of s15)
  have hlz15 : Dts (upd H14 p3 (.lst (cutV ys2 none (some 10)))) lz (LL.map lotD) := (hlz.kp (D13.kp k14)).sm s15
  refine ⟨p3, rfl, ⟨_, SqL.of upd_same⟩, ?_⟩
  have hp3' : upd H14 p3 (.lst (cutV ys2 none (some 10))) p3 = some (.lst (cutV ys2 none (some 10))) := upd_same
  revert k15 hlz15 hp3'
  generalize upd H14 p3 (.lst (cutV ys2 none (some 10))) = H15
  intro k15 hlz15 hp3'
  refine for_it (walk_list (K := K) (xs := cutV ys2 none (some 10))) (fun i σ H' => ∃ (y5 : Option V), σ = [some (.ref a0), some (.ref dl), some (.int m), some sv, some (.ref pl), y5, y6, some (.ref il), some (.ref st), y9, y10, none] ∧ Same H15 H')
    ⟨_, rfl, Same.refl H15⟩ (fun i σ H' _ ⟨_, _, sm⟩ => SqL.of (sm _ _ hp3')) ?_ ?_
  · rintro i x σ H0 H16 hi ⟨y5, rfl, s16⟩ ⟨rfl, hxi⟩
    obtain ⟨L, hL, hxd⟩ := dts_mem (hlz15.sm s16) (hpm3.mem_iff.mp (mem_cut (List.mem_of_getElem? hxi)))
    obtain ⟨x1, x2, x3⟩ := hLL L hL
    have x4 : sub L (lv t) := fun z hz => hmem z (x3 z hz)
    have x5 := hshort L x2 x4
    obtain ⟨al, rfl, hal⟩ := dt_lot hxd
    have k16 := same_dq k15 s16
    have hv16 := hv.kp (D7.kp k16)
    refine ⟨_, rfl, _, rfl, al, _, rfl, .inr (SqT.of hal), fun pL hpL => ?_⟩
    have t1 := same_upd (o := .lst (L.map V.int)) hpL
    refine ⟨sv, pL, t, L, rfl, hv16.sm t1, .inl (SqL.of upd_same), by omega, wf, x1, x4, hlen, by decide, fun H17 p17 s17 hp170 hp17 => ?_⟩
    have s1617 := t1.trans s17
    have k17 := same_dq k16 s1617
    have hal17 := s1617 _ _ hal
    refine ⟨_, rfl, _, rfl, il, al, is, inn t, L, rfl, SqL.of (k17 _ _ his7 nil.1 nil.2), hgs7.kp (D7.kp k17), SqT.of hal17, by omega, innlen, ⟨_, hull_mem t wf L x1 x4⟩, fun M H18 v18 s18 hM hsM hmin hv18 => ?_⟩
    refine ⟨lotD (hull t L), lotD M, (dt_lot_mk (s18 _ _ hp17)).dp, hv18.dp, shaped_lot _, shaped_lot _, _, rfl, ?_⟩
    rw [hull_short wf x1 x4 hM hsM hmin, SeqAt.eqv_refl _ (okd_lot M).1]
    refine itF (by decide) ?_
    have s1618 := s1617.trans s18
    have k18 := same_dq k16 s1618
    have hal18 := s1618 _ _ hal
    refine ⟨_, rfl, _, rfl, lotD L, _, .tup (SqT.of hal18) (dp_ints L), inner_dp k18, shaped_lot L, shaped_lots _, _, rfl, ?_⟩
    rw [any_lots]
    by_cases hLin : L ∈ inn t
    · refine itF (by simp [hLin]) ?_
      exact ⟨_, rfl, s16.trans s1618⟩
    · refine itT (by simp [hLin]) ?_
      have hne : hull t L ≠ L := fun e => hLin ((hull_iff wf x1 x4).mp e)
      refine ⟨_, rfl, _, rfl, sv, al, t, L, rfl, hv16.sm s1618, .inr (SqT.of hal18), by omega, wf, x1, x4, hlen, by decide, fun H19 v19 s19 _ hB => ?_⟩
      obtain rfl := hB hne
      refine ⟨rfl, _, rfl, ?_⟩
      refine itF (by decide) ?_
      have hal19 := s19 _ _ hal18
      refine ⟨_, rfl, _, rfl, al, _, rfl, .inr (SqT.of hal19), fun pM hpM => ?_⟩
      have t2 := same_upd (o := .lst (L.map V.int)) hpM
      refine ⟨sv, pM, t, L, rfl, (hv16.sm s1618).sm (s19.trans t2), .inl (SqL.of upd_same), by omega, wf, x1, x4, hlen, by decide, fun H20 s20 => ⟨_, rfl, ?_⟩⟩
      refine itF (fun q2 => hne (of_decide_eq_true q2)) ?_
      exact ⟨_, rfl, s16.trans (s1618.trans (s19.trans (t2.trans s20)))⟩
  rintro σ H16 ⟨y5b, rfl, s16⟩
  have k16 := same_dq k15 s16
  -- as many strong lots as inner ones that no inner lot overlaps
  have hst16 := (D7.kp k16).tup hst
  have hil16 := k16 _ _ his7 nil.1 nil.2
  have hgs16 := hgs7.kp (D7.kp k16)
  have hv16 := hv.kp (D7.kp k16)
  refine ⟨_, rfl, st, ss, rfl, .inr (SqT.of hst16), _, rfl, il, rfl, ⟨_, SqL.of hil16⟩, fun d6 hd6 => ?_⟩
  have hisl := hgs16.length
  rw [List.length_map] at hisl
  refine lc_it (walk_list (K := K) (xs := is)) (fun j H' => Same H16 H' ∧ ∃ acc : List V, H' d6 = some (.lst acc) ∧ acc.length = (((inn t).take j).filter (free? t)).length) ⟨same_upd hd6, [], upd_same, by simp⟩ (fun j H' _ ⟨s2, _⟩ => SqL.of (s2 _ _ hil16)) ?_ ?_
  · rintro j u H0 H17 hj ⟨s17, acc, hacc, hal17⟩ ⟨rfl, hu⟩
    obtain ⟨x, hx, hxd⟩ := (hgs16.sm s17).get hu
    rw [List.getElem?_map] at hx
    cases hLj : (inn t)[j]? with
    | none => rw [hLj] at hx; simp at hx
    | some L =>
      rw [hLj] at hx
      obtain rfl : lotD L = x := Option.some.inj hx
      obtain ⟨al, rfl, hal⟩ := dt_lot hxd
      have hLin := List.mem_of_getElem? hLj
      obtain ⟨x1, x4, x2, x5⟩ := hinn L hLin
      refine ⟨rfl, ?_⟩
      refine ⟨_, rfl, _, rfl, sv, al, t, L, rfl, hv16.sm s17, .inr (SqT.of hal), by omega, wf, hLin, hlen, by decide, fun H18 cv s18 hN hS => ⟨rfl, _, rfl, ?_⟩⟩
      have hacc18 := s18 _ _ hacc
      have hfl := List.length_filter_le (free? t) ((inn t).take j)
      rw [List.length_take] at hfl
      by_cases hc : cross t L = none
      · obtain rfl := hN hc
        refine itT (by decide) ?_
        refine ⟨_, rfl, acc, hacc18, lt_line (by omega), same_upd2 (s17.trans s18) hd6, _, upd_same, ?_⟩
        rw [filter_snoc (free? t) hLj, if_pos (by unfold free?; rw [hc]; rfl), List.length_append, List.length_append, hal17]
        rfl
      · obtain ⟨C, hC⟩ := Option.ne_none_iff_exists'.mp hc
        obtain ⟨ac, rfl, _⟩ := dt_lot (hS C hC)
        refine itF (by simp) ?_
        refine ⟨s17.trans s18, acc, hacc18, ?_⟩
        rw [filter_snoc (free? t) hLj, if_neg (by unfold free?; rw [hC]; simp), List.append_nil]
        exact hal17
  · rintro H17 ⟨s17, acc, hacc, hal17⟩
    rw [hisl, List.take_length, count_is t wf] at hal17
    refine ⟨d6, acc, rfl, .inl (SqL.of hacc), rfl, ?_⟩
    have hssl := hss.length
    rw [List.length_map, hperm.length_eq] at hssl
    have e : decide (V.int ((ss.length : Nat) : Int) = V.int ((acc.length : Nat) : Int)) = true := decide_eq_true (by
      rw [hal17, hssl]
      unfold strong
      rw [List.length_map])
    show Q (.bl (decide (V.int ((ss.length : Nat) : Int) = V.int ((acc.length : Nat) : Int)))) H17
    rw [e]
    exact q H17
end
end K24
namespace K24
open PySem PySem.Spec PyProof.Rows L2
open LamX (Tabs TabB ExtN LawAtS)
/-- the table of the code object of _law_told is empty -/
def ToldTab (K : PySem.W.Frag) (mg : Str → Option Value) (h : Heap) : Prop := ∀ (f c : Addr) (o : Obj) (fd : FuncData), mg "_law_told" = some (.ref f) → K.lookup f = some o → o.data = .func fd → fd.code = .ref c →
  ∃ PT, PySem.W.CodeHd h c PT ∧ h.get? PT = some { cls := .none, data := .fields #[] }
theorem walk {l : PySem.W.OpenLaw} {q : Program} {loose : List Str} {XP : (Str → Option Value) → Heap → Prop} {YP : World → Heap → Prop} {d : DefRec} {K : Params → PySem.W.Frag} (hn : l.most = some 63) (hdf : d.params.defaults = [])
    (hrec : ((recsOf q).any fun e => e.name == ("_law_told" : Str)) = true) (hY : ∀ (w : World) (h : Heap), YP w h → (K w.params).In h)
    (F : ∀ (w : World) (mg : Str → Option Value) (fa : Addr) (h : Heap), (K w.params).In h → h.Ns mainGlobals mg → mg d.name = some (.ref fa) → ToldTab (K w.params) mg h → LawAtS l w (K w.params) CX0 12 63 "script" mg fa h) :
    PySem.W.WalkO q loose XP YP l.row.toRowW d [] (fun f vs => PySem.call f vs) := by
  refine Att.attach_callB hn hdf fun w s₀ s₁ mg mb fa o pm cd doc a vs ns G Y _ _ _ hmg hobj hints hlen hbits hg => ?_
  have KX := hY w _ Y
  have tt : ToldTab (K w.params) mg s₁.heap := fun f c o1 fd1 g1 g2 g3 g4 => by
    obtain ⟨e, he, hn1⟩ := List.any_eq_true.mp hrec
    obtain ⟨b, ob, fb, cb, PT, i1, i2, i3, i4, i5, i6⟩ := G.T.tab e he
    rw [beq_iff_eq.mp hn1, g1] at i1
    cases i1
    rw [KX _ _ g2] at i2
    cases i2
    rw [g3] at i3
    cases i3
    rw [g4] at i4
    cases i4
    exact ⟨PT, .of i5 i6, i6.2⟩
  obtain ⟨fd, cs, sp, hT, nT, C, hb, hsp, hF⟩ := F w mg fa _ KX G.T.g hmg tt
  refine LamX.law_callTs KX G.T.g G.T.b G.T.builtins G.T.nolimit hg hT nT C G.T.bmain hobj hints ?_ ⟨rfl, by decide, by decide⟩ hF hb (fun H hH hS => hsp H a ns hlen hbits hH hS) fun _ _ _ z => z
  exact Nat.le_trans hlen (by decide)

set_option maxHeartbeats 0 in
theorem all_mk {l : PySem.W.OpenLaw} {w : World} {K : PySem.W.Frag} {h : Heap} {mg : Str → Option Value} {fa : Addr} (X : K.In h) (G : h.Ns mainGlobals mg) (hfa : mg "law" = some (.ref fa)) (hT : ToldTab K mg h)
    {f1 f2 f3 f4 f5 f6 f7 f8 f9 f10 f11 f12 f14 f15 f16 f17 f18 f19 f20 f21 f22 f24 f25 f26 f27 f28 f29 c19 PT : Addr} {od1 an1 od2 an2 od3 an3 od4 an4 od5 an5 od6 an6 od7 an7 od8 an8 od9 an9 od10 an10 od11 an11 od12 an12 od14 an14 od15 an15 od16 an16 od17 an17 od18 an18 od19 an19 od20 an20 od21 an21 od22 an22 od24 an24 od25 an25 od26 an26 od27 an27 od28 an28 od29 an29 : Option Addr} {sl1 sl2 sl3 sl4 sl5 sl6 sl7 sl8 sl9 sl10 sl11 sl12 sl14 sl15 sl16 sl17 sl18 sl19 sl20 sl21 sl22 sl24 sl25 sl26 sl27 sl28 sl29 : Array (Option Value)} {oc1 kV1 dc1 pm1 cd1 ct1 oc2 kV2 dc2 pm2 cd2 ct2 oc3 kV3 dc3 pm3 cd3 ct3 oc4 kV4 dc4 pm4 cd4 ct4 oc5 kV5 dc5 pm5 cd5 ct5 oc6 kV6 dc6 pm6 cd6 ct6 oc7 kV7 dc7 pm7 cd7 ct7 oc8 kV8 dc8 pm8 cd8 ct8 oc9 kV9 dc9 pm9 cd9 ct9 oc10 kV10 dc10 pm10 cd10 ct10 oc11 kV11 dc11 pm11 cd11 ct11 oc12 kV12 dc12 pm12 cd12 ct12 oc14 kV14 dc14 pm14 cd14 ct14 oc15 kV15 dc15 pm15 cd15 ct15 oc16 kV16 dc16 pm16 cd16 ct16 oc17 kV17 dc17 pm17 cd17 ct17 oc18 kV18 dc18 pm18 cd18 ct18 oc19 kV19 dc19 pm19 ct19 oc20 kV20 dc20 pm20 cd20 ct20 oc21 kV21 dc21 pm21 cd21 ct21 oc22 kV22 dc22 pm22 cd22 ct22 oc24 kV24 dc24 pm24 cd24 ct24 oc25 kV25 dc25 pm25 cd25 ct25 oc26 kV26 dc26 pm26 cd26 ct26 oc27 kV27 dc27 pm27 cd27 ct27 oc28 kV28 dc28 pm28 cd28 ct28 oc29 kV29 dc29 pm29 cd29 ct29 : Value}
    {oC : Value} {oD : Option Addr} {vC : Array Value} {slC : Array (Option Value)}
    (a1 : PySem.W.nsIn K mainGlobals "is_leaf" = some (some (.ref f1))) (l1 : K.lookup f1 = some ⟨oc1, od1, .func (PySem.W.fnOf "is_leaf" "is_leaf" (defArgs (top 1)) (defBody (top 1)) (defScope (top 1)) .none kV1 dc1 pm1 an1 cd1 ct1), sl1⟩) (c10 : PySem.W.codeIn K cd1 "is_leaf" = true) (k1 : PySem.W.keepIn K (.ref f1) = true)
    (a2 : PySem.W.nsIn K mainGlobals "parts_of" = some (some (.ref f2))) (l2 : K.lookup f2 = some ⟨oc2, od2, .func (PySem.W.fnOf "parts_of" "parts_of" (defArgs (top 2)) (defBody (top 2)) (defScope (top 2)) .none kV2 dc2 pm2 an2 cd2 ct2), sl2⟩) (c20 : PySem.W.codeIn K cd2 "parts_of" = true) (k2 : PySem.W.keepIn K (.ref f2) = true)
    (a3 : PySem.W.nsIn K mainGlobals "trees_of" = some (some (.ref f3))) (l3 : K.lookup f3 = some ⟨oc3, od3, .func (PySem.W.fnOf "trees_of" "trees_of" (defArgs (top 3)) (defBody (top 3)) (defScope (top 3)) .none kV3 dc3 pm3 an3 cd3 ct3), sl3⟩) (c30 : PySem.W.codeIn K cd3 "trees_of" = true) (k3 : PySem.W.keepIn K (.ref f3) = true)
    (a4 : PySem.W.nsIn K mainGlobals "strong_lots" = some (some (.ref f4))) (l4 : K.lookup f4 = some ⟨oc4, od4, .func (PySem.W.fnOf "strong_lots" "strong_lots" (defArgs (top 4)) (defBody (top 4)) (defScope (top 4)) .none kV4 dc4 pm4 an4 cd4 ct4), sl4⟩) (c40 : PySem.W.codeIn K cd4 "strong_lots" = true) (k4 : PySem.W.keepIn K (.ref f4) = true)
    (a5 : PySem.W.nsIn K mainGlobals "least_tree" = some (some (.ref f5))) (l5 : K.lookup f5 = some ⟨oc5, od5, .func (PySem.W.fnOf "least_tree" "least_tree" (defArgs (top 5)) (defBody (top 5)) (defScope (top 5)) .none kV5 dc5 pm5 an5 cd5 ct5), sl5⟩) (c50 : PySem.W.codeIn K cd5 "least_tree" = true) (k5 : PySem.W.keepIn K (.ref f5) = true)
    (a6 : PySem.W.nsIn K mainGlobals "met_children" = some (some (.ref f6))) (l6 : K.lookup f6 = some ⟨oc6, od6, .func (PySem.W.fnOf "met_children" "met_children" (defArgs (top 6)) (defBody (top 6)) (defScope (top 6)) .none kV6 dc6 pm6 an6 cd6 ct6), sl6⟩) (c60 : PySem.W.codeIn K cd6 "met_children" = true) (k6 : PySem.W.keepIn K (.ref f6) = true)
    (a7 : PySem.W.nsIn K mainGlobals "filled_children" = some (some (.ref f7))) (l7 : K.lookup f7 = some ⟨oc7, od7, .func (PySem.W.fnOf "filled_children" "filled_children" (defArgs (top 7)) (defBody (top 7)) (defScope (top 7)) .none kV7 dc7 pm7 an7 cd7 ct7), sl7⟩) (c70 : PySem.W.codeIn K cd7 "filled_children" = true) (k7 : PySem.W.keepIn K (.ref f7) = true)
    (a8 : PySem.W.nsIn K mainGlobals "joined_parts" = some (some (.ref f8))) (l8 : K.lookup f8 = some ⟨oc8, od8, .func (PySem.W.fnOf "joined_parts" "joined_parts" (defArgs (top 8)) (defBody (top 8)) (defScope (top 8)) .none kV8 dc8 pm8 an8 cd8 ct8), sl8⟩) (c80 : PySem.W.codeIn K cd8 "joined_parts" = true) (k8 : PySem.W.keepIn K (.ref f8) = true)
    (a9 : PySem.W.nsIn K mainGlobals "inner_hull" = some (some (.ref f9))) (l9 : K.lookup f9 = some ⟨oc9, od9, .func (PySem.W.fnOf "inner_hull" "inner_hull" (defArgs (top 9)) (defBody (top 9)) (defScope (top 9)) .none kV9 dc9 pm9 an9 cd9 ct9), sl9⟩) (c90 : PySem.W.codeIn K cd9 "inner_hull" = true) (k9 : PySem.W.keepIn K (.ref f9) = true)
    (a10 : PySem.W.nsIn K mainGlobals "is_inner" = some (some (.ref f10))) (l10 : K.lookup f10 = some ⟨oc10, od10, .func (PySem.W.fnOf "is_inner" "is_inner" (defArgs (top 10)) (defBody (top 10)) (defScope (top 10)) .none kV10 dc10 pm10 an10 cd10 ct10), sl10⟩) (c100 : PySem.W.codeIn K cd10 "is_inner" = true) (k10 : PySem.W.keepIn K (.ref f10) = true)
    (a11 : PySem.W.nsIn K mainGlobals "lot_place" = some (some (.ref f11))) (l11 : K.lookup f11 = some ⟨oc11, od11, .func (PySem.W.fnOf "lot_place" "lot_place" (defArgs (top 11)) (defBody (top 11)) (defScope (top 11)) .none kV11 dc11 pm11 an11 cd11 ct11), sl11⟩) (c110 : PySem.W.codeIn K cd11 "lot_place" = true) (k11 : PySem.W.keepIn K (.ref f11) = true)
    (a12 : PySem.W.nsIn K mainGlobals "crossing_lot" = some (some (.ref f12))) (l12 : K.lookup f12 = some ⟨oc12, od12, .func (PySem.W.fnOf "crossing_lot" "crossing_lot" (defArgs (top 12)) (defBody (top 12)) (defScope (top 12)) .none kV12 dc12 pm12 an12 cd12 ct12), sl12⟩) (c120 : PySem.W.codeIn K cd12 "crossing_lot" = true) (k12 : PySem.W.keepIn K (.ref f12) = true)
    (a14 : PySem.W.nsIn K mainGlobals "_law_deal" = some (some (.ref f14))) (l14 : K.lookup f14 = some ⟨oc14, od14, .func (PySem.W.fnOf "_law_deal" "_law_deal" (defArgs (top 14)) (defBody (top 14)) (defScope (top 14)) .none kV14 dc14 pm14 an14 cd14 ct14), sl14⟩) (c140 : PySem.W.codeIn K cd14 "_law_deal" = true) (k14 : PySem.W.keepIn K (.ref f14) = true)
    (a15 : PySem.W.nsIn K mainGlobals "_law_draw" = some (some (.ref f15))) (l15 : K.lookup f15 = some ⟨oc15, od15, .func (PySem.W.fnOf "_law_draw" "_law_draw" (defArgs (top 15)) (defBody (top 15)) (defScope (top 15)) .none kV15 dc15 pm15 an15 cd15 ct15), sl15⟩) (c150 : PySem.W.codeIn K cd15 "_law_draw" = true) (k15 : PySem.W.keepIn K (.ref f15) = true)
    (a16 : PySem.W.nsIn K mainGlobals "_law_pick" = some (some (.ref f16))) (l16 : K.lookup f16 = some ⟨oc16, od16, .func (PySem.W.fnOf "_law_pick" "_law_pick" (defArgs (top 16)) (defBody (top 16)) (defScope (top 16)) .none kV16 dc16 pm16 an16 cd16 ct16), sl16⟩) (c160 : PySem.W.codeIn K cd16 "_law_pick" = true) (k16 : PySem.W.keepIn K (.ref f16) = true)
    (a17 : PySem.W.nsIn K mainGlobals "_law_mixed" = some (some (.ref f17))) (l17 : K.lookup f17 = some ⟨oc17, od17, .func (PySem.W.fnOf "_law_mixed" "_law_mixed" (defArgs (top 17)) (defBody (top 17)) (defScope (top 17)) .none kV17 dc17 pm17 an17 cd17 ct17), sl17⟩) (c170 : PySem.W.codeIn K cd17 "_law_mixed" = true) (k17 : PySem.W.keepIn K (.ref f17) = true)
    (a18 : PySem.W.nsIn K mainGlobals "_law_leaves" = some (some (.ref f18))) (l18 : K.lookup f18 = some ⟨oc18, od18, .func (PySem.W.fnOf "_law_leaves" "_law_leaves" (defArgs (top 18)) (defBody (top 18)) (defScope (top 18)) .none kV18 dc18 pm18 an18 cd18 ct18), sl18⟩) (c180 : PySem.W.codeIn K cd18 "_law_leaves" = true) (k18 : PySem.W.keepIn K (.ref f18) = true)
    (a19 : PySem.W.nsIn K mainGlobals "_law_told" = some (some (.ref f19))) (l19 : K.lookup f19 = some ⟨oc19, od19, .func (PySem.W.fnOf "_law_told" "_law_told" (defArgs (top 19)) (defBody (top 19)) (defScope (top 19)) .none kV19 dc19 pm19 an19 (.ref c19) ct19), sl19⟩) (c190 : PySem.W.codeIn K (.ref c19) "_law_told" = true) (k19 : PySem.W.keepIn K (.ref f19) = true)
    (a20 : PySem.W.nsIn K mainGlobals "_law_shape" = some (some (.ref f20))) (l20 : K.lookup f20 = some ⟨oc20, od20, .func (PySem.W.fnOf "_law_shape" "_law_shape" (defArgs (top 20)) (defBody (top 20)) (defScope (top 20)) .none kV20 dc20 pm20 an20 cd20 ct20), sl20⟩) (c200 : PySem.W.codeIn K cd20 "_law_shape" = true) (k20 : PySem.W.keepIn K (.ref f20) = true)
    (a21 : PySem.W.nsIn K mainGlobals "_law_groups" = some (some (.ref f21))) (l21 : K.lookup f21 = some ⟨oc21, od21, .func (PySem.W.fnOf "_law_groups" "_law_groups" (defArgs (top 21)) (defBody (top 21)) (defScope (top 21)) .none kV21 dc21 pm21 an21 cd21 ct21), sl21⟩) (c210 : PySem.W.codeIn K cd21 "_law_groups" = true) (k21 : PySem.W.keepIn K (.ref f21) = true)
    (a22 : PySem.W.nsIn K mainGlobals "_law_union" = some (some (.ref f22))) (l22 : K.lookup f22 = some ⟨oc22, od22, .func (PySem.W.fnOf "_law_union" "_law_union" (defArgs (top 22)) (defBody (top 22)) (defScope (top 22)) .none kV22 dc22 pm22 an22 cd22 ct22), sl22⟩) (c220 : PySem.W.codeIn K cd22 "_law_union" = true) (k22 : PySem.W.keepIn K (.ref f22) = true)
    (a24 : PySem.W.nsIn K mainGlobals "_law_lots" = some (some (.ref f24))) (l24 : K.lookup f24 = some ⟨oc24, od24, .func (PySem.W.fnOf "_law_lots" "_law_lots" (defArgs (top 24)) (defBody (top 24)) (defScope (top 24)) .none kV24 dc24 pm24 an24 cd24 ct24), sl24⟩) (c240 : PySem.W.codeIn K cd24 "_law_lots" = true) (k24 : PySem.W.keepIn K (.ref f24) = true)
    (a25 : PySem.W.nsIn K mainGlobals "_law_overlap" = some (some (.ref f25))) (l25 : K.lookup f25 = some ⟨oc25, od25, .func (PySem.W.fnOf "_law_overlap" "_law_overlap" (defArgs (top 25)) (defBody (top 25)) (defScope (top 25)) .none kV25 dc25 pm25 an25 cd25 ct25), sl25⟩) (c250 : PySem.W.codeIn K cd25 "_law_overlap" = true) (k25 : PySem.W.keepIn K (.ref f25) = true)
    (a26 : PySem.W.nsIn K mainGlobals "_law_places" = some (some (.ref f26))) (l26 : K.lookup f26 = some ⟨oc26, od26, .func (PySem.W.fnOf "_law_places" "_law_places" (defArgs (top 26)) (defBody (top 26)) (defScope (top 26)) .none kV26 dc26 pm26 an26 cd26 ct26), sl26⟩) (c260 : PySem.W.codeIn K cd26 "_law_places" = true) (k26 : PySem.W.keepIn K (.ref f26) = true)
    (a27 : PySem.W.nsIn K mainGlobals "_law_hull" = some (some (.ref f27))) (l27 : K.lookup f27 = some ⟨oc27, od27, .func (PySem.W.fnOf "_law_hull" "_law_hull" (defArgs (top 27)) (defBody (top 27)) (defScope (top 27)) .none kV27 dc27 pm27 an27 cd27 ct27), sl27⟩) (c270 : PySem.W.codeIn K cd27 "_law_hull" = true) (k27 : PySem.W.keepIn K (.ref f27) = true)
    (a28 : PySem.W.nsIn K mainGlobals "law" = some (some (.ref f28))) (l28 : K.lookup f28 = some ⟨oc28, od28, .func (PySem.W.fnOf "law" "law" (defArgs (top 28)) (defBody (top 28)) (defScope (top 28)) .none kV28 dc28 pm28 an28 cd28 ct28), sl28⟩) (c280 : PySem.W.codeIn K cd28 "law" = true) (k28 : PySem.W.keepIn K (.ref f28) = true)
    (a29 : PySem.W.nsIn K mainGlobals "union_of" = some (some (.ref f29))) (l29 : K.lookup f29 = some ⟨oc29, od29, .func (PySem.W.fnOf "union_of" "union_of" (defArgs (sU)) (defBody (sU)) (defScope (sU)) .none kV29 dc29 pm29 an29 cd29 ct29), sl29⟩) (c290 : PySem.W.codeIn K cd29 "union_of" = true) (k29 : PySem.W.keepIn K (.ref f29) = true)
    (lC : K.lookup c19 = some ⟨oC, oD, .fields vC, slC⟩) (vP : vC[11]? = some (.ref PT)) (nP : K.lookup PT = none)
    (z_isi : PySem.W.nsIn K mainGlobals "isinstance" = some none)
    (z_int : PySem.W.nsIn K mainGlobals "int" = some none)
    (z_tup : PySem.W.nsIn K mainGlobals "tuple" = some none)
    (z_lst : PySem.W.nsIn K mainGlobals "list" = some none)
    (z_sorted : PySem.W.nsIn K mainGlobals "sorted" = some none)
    (z_all : PySem.W.nsIn K mainGlobals "all" = some none)
    (z_any : PySem.W.nsIn K mainGlobals "any" = some none)
    (z_enum : PySem.W.nsIn K mainGlobals "enumerate" = some none)
    (z_rng : PySem.W.nsIn K mainGlobals "range" = some none)
    (z_len : PySem.W.nsIn K mainGlobals "len" = some none)
    (z_abs : PySem.W.nsIn K mainGlobals "abs" = some none)
    (z_min : PySem.W.nsIn K mainGlobals "min" = some none)
    (z_zip : PySem.W.nsIn K mainGlobals "zip" = some none)
    (z_bool : PySem.W.nsIn K mainGlobals "bool" = some none) :
    LawAtS l w K CX0 12 63 "script" mg fa h := by
  have e := hfa.symm.trans (PySem.W.mg_of X G a28)
  cases e
  have F1 := fun_mk (st := top 1) l1 c10 k1
  have F2 := fun_mk (st := top 2) l2 c20 k2
  have F3 := fun_mk (st := top 3) l3 c30 k3
  have F4 := fun_mk (st := top 4) l4 c40 k4
  have F5 := fun_mk (st := top 5) l5 c50 k5
  have F6 := fun_mk (st := top 6) l6 c60 k6
  have F7 := fun_mk (st := top 7) l7 c70 k7
  have F8 := fun_mk (st := top 8) l8 c80 k8
  have F9 := fun_mk (st := top 9) l9 c90 k9
  have F10 := fun_mk (st := top 10) l10 c100 k10
  have F11 := fun_mk (st := top 11) l11 c110 k11
  have F12 := fun_mk (st := top 12) l12 c120 k12
  have F14 := fun_mk (st := top 14) l14 c140 k14
  have F15 := fun_mk (st := top 15) l15 c150 k15
  have F16 := fun_mk (st := top 16) l16 c160 k16
  have F17 := fun_mk (st := top 17) l17 c170 k17
  have F18 := fun_mk (st := top 18) l18 c180 k18
  have F20 := fun_mk (st := top 20) l20 c200 k20
  have F21 := fun_mk (st := top 21) l21 c210 k21
  have F22 := fun_mk (st := top 22) l22 c220 k22
  have F24 := fun_mk (st := top 24) l24 c240 k24
  have F25 := fun_mk (st := top 25) l25 c250 k25
  have F26 := fun_mk (st := top 26) l26 c260 k26
  have F27 := fun_mk (st := top 27) l27 c270 k27
  have F28 := fun_mk (st := top 28) l28 c280 k28
  have F29 := fun_mk (st := sU) l29 c290 k29
  have F19 : FunC K "_law_told" (top 19) f19 _ c19 := ⟨⟨oc19, od19, kV19, dc19, pm19, an19, ct19, sl19, rfl, l19, c190⟩, k19⟩
  have D1 : Df K mg "is_leaf" (top 1) f1 _ ["tree"] := ⟨F1, PySem.W.mg_of X G a1, F1.binds fun _ _ _ _ _ _ us hl => match us, hl with | [_], _ => rfl⟩
  have D2 : Df K mg "parts_of" (top 2) f2 _ ["shape"] := ⟨F2, PySem.W.mg_of X G a2, F2.binds fun _ _ _ _ _ _ us hl => match us, hl with | [_], _ => rfl⟩
  have D3 : Df K mg "trees_of" (top 3) f3 _ ["shape"] := ⟨F3, PySem.W.mg_of X G a3, F3.binds fun _ _ _ _ _ _ us hl => match us, hl with | [_], _ => rfl⟩
  have D4 : Df K mg "strong_lots" (top 4) f4 _ ["shape"] := ⟨F4, PySem.W.mg_of X G a4, F4.binds fun _ _ _ _ _ _ us hl => match us, hl with | [_], _ => rfl⟩
  have D5 : Df K mg "least_tree" (top 5) f5 _ ["shape", "lot"] := ⟨F5, PySem.W.mg_of X G a5, F5.binds fun _ _ _ _ _ _ us hl => match us, hl with | [_, _], _ => rfl⟩
  have D6 : Df K mg "met_children" (top 6) f6 _ ["knot", "lot"] := ⟨F6, PySem.W.mg_of X G a6, F6.binds fun _ _ _ _ _ _ us hl => match us, hl with | [_, _], _ => rfl⟩
  have D7 : Df K mg "filled_children" (top 7) f7 _ ["knot", "numbers"] := ⟨F7, PySem.W.mg_of X G a7, F7.binds fun _ _ _ _ _ _ us hl => match us, hl with | [_, _], _ => rfl⟩
  have D8 : Df K mg "joined_parts" (top 8) f8 _ ["knot", "numbers"] := ⟨F8, PySem.W.mg_of X G a8, F8.binds fun _ _ _ _ _ _ us hl => match us, hl with | [_, _], _ => rfl⟩
  have D9 : Df K mg "inner_hull" (top 9) f9 _ ["shape", "lot"] := ⟨F9, PySem.W.mg_of X G a9, F9.binds fun _ _ _ _ _ _ us hl => match us, hl with | [_, _], _ => rfl⟩
  have D10 : Df K mg "is_inner" (top 10) f10 _ ["shape", "lot"] := ⟨F10, PySem.W.mg_of X G a10, F10.binds fun _ _ _ _ _ _ us hl => match us, hl with | [_, _], _ => rfl⟩
  have D11 : Df K mg "lot_place" (top 11) f11 _ ["shape", "lot"] := ⟨F11, PySem.W.mg_of X G a11, F11.binds fun _ _ _ _ _ _ us hl => match us, hl with | [_, _], _ => rfl⟩
  have D12 : Df K mg "crossing_lot" (top 12) f12 _ ["shape", "lot"] := ⟨F12, PySem.W.mg_of X G a12, F12.binds fun _ _ _ _ _ _ us hl => match us, hl with | [_, _], _ => rfl⟩
  have D14 : Df K mg "_law_deal" (top 14) f14 _ ["script", "base"] := ⟨F14, PySem.W.mg_of X G a14, F14.binds fun _ _ _ _ _ _ us hl => match us, hl with | [_, _], _ => rfl⟩
  have D15 : Df K mg "_law_draw" (top 15) f15 _ ["deal", "bound"] := ⟨F15, PySem.W.mg_of X G a15, F15.binds fun _ _ _ _ _ _ us hl => match us, hl with | [_, _], _ => rfl⟩
  have D16 : Df K mg "_law_pick" (top 16) f16 _ ["deal", "some"] := ⟨F16, PySem.W.mg_of X G a16, F16.binds fun _ _ _ _ _ _ us hl => match us, hl with | [_, _], _ => rfl⟩
  have D17 : Df K mg "_law_mixed" (top 17) f17 _ ["deal", "things"] := ⟨F17, PySem.W.mg_of X G a17, F17.binds fun _ _ _ _ _ _ us hl => match us, hl with | [_, _], _ => rfl⟩
  have D18 : Df K mg "_law_leaves" (top 18) f18 _ ["shape"] := ⟨F18, PySem.W.mg_of X G a18, F18.binds fun _ _ _ _ _ _ us hl => match us, hl with | [_], _ => rfl⟩
  have D19 : DfC K mg "_law_told" (top 19) f19 _ c19 ["kind", "children"] := ⟨F19, PySem.W.mg_of X G a19, .all fun us hl => match us, hl with | [_, _], _ => rfl⟩
  have D20 : Df K mg "_law_shape" (top 20) f20 _ ["deal", "parts"] := ⟨F20, PySem.W.mg_of X G a20, F20.binds fun _ _ _ _ _ _ us hl => match us, hl with | [_, _], _ => rfl⟩
  have D21 : Df K mg "_law_groups" (top 21) f21 _ ["kind", "many"] := ⟨F21, PySem.W.mg_of X G a21, F21.binds fun _ _ _ _ _ _ us hl => match us, hl with | [_, _], _ => rfl⟩
  have D22 : Df K mg "_law_union" (top 22) f22 _ ["lots"] := ⟨F22, PySem.W.mg_of X G a22, F22.binds fun _ _ _ _ _ _ us hl => match us, hl with | [_], _ => rfl⟩
  have D24 : Df K mg "_law_lots" (top 24) f24 _ ["many"] := ⟨F24, PySem.W.mg_of X G a24, F24.binds fun _ _ _ _ _ _ us hl => match us, hl with | [_], _ => rfl⟩
  have D25 : Df K mg "_law_overlap" (top 25) f25 _ ["one", "other"] := ⟨F25, PySem.W.mg_of X G a25, F25.binds fun _ _ _ _ _ _ us hl => match us, hl with | [_, _], _ => rfl⟩
  have D26 : Df K mg "_law_places" (top 26) f26 _ ["shape"] := ⟨F26, PySem.W.mg_of X G a26, F26.binds fun _ _ _ _ _ _ us hl => match us, hl with | [_], _ => rfl⟩
  have D27 : Df K mg "_law_hull" (top 27) f27 _ ["inner", "lot"] := ⟨F27, PySem.W.mg_of X G a27, F27.binds fun _ _ _ _ _ _ us hl => match us, hl with | [_, _], _ => rfl⟩
  have D29 : Df K mg "union_of" (sU) f29 _ ["lots"] := ⟨F29, PySem.W.mg_of X G a29, F29.binds fun _ _ _ _ _ _ us hl => match us, hl with | [_], _ => rfl⟩
  have Z : Zs mg := ⟨PySem.W.mg_none_of X G z_isi, PySem.W.mg_none_of X G z_int, PySem.W.mg_none_of X G z_tup, PySem.W.mg_none_of X G z_lst, PySem.W.mg_none_of X G z_sorted, PySem.W.mg_none_of X G z_all, PySem.W.mg_none_of X G z_any, PySem.W.mg_none_of X G z_enum, PySem.W.mg_none_of X G z_rng, PySem.W.mg_none_of X G z_len, PySem.W.mg_none_of X G z_abs, PySem.W.mg_none_of X G z_min, PySem.W.mg_none_of X G z_zip, PySem.W.mg_none_of X G z_bool⟩
  let aa : Nat → Addr := fun i => [0, f1, f2, f3, f4, f5, f6, f7, f8, f9, f10, f11, f12, 0, f14, f15, f16, f17, f18, f19, f20, f21, f22, 0, f24, f25, f26, f27, 0, f29].getD i 0
  let fl : FuncData := PySem.W.fnOf "law" "law" (defArgs (top 28)) (defBody (top 28)) (defScope (top 28)) .none kV28 dc28 pm28 an28 cd28 ct28
  let dd : Nat → FuncData := fun i => [fl, PySem.W.fnOf "is_leaf" "is_leaf" (defArgs (top 1)) (defBody (top 1)) (defScope (top 1)) .none kV1 dc1 pm1 an1 cd1 ct1, PySem.W.fnOf "parts_of" "parts_of" (defArgs (top 2)) (defBody (top 2)) (defScope (top 2)) .none kV2 dc2 pm2 an2 cd2 ct2, PySem.W.fnOf "trees_of" "trees_of" (defArgs (top 3)) (defBody (top 3)) (defScope (top 3)) .none kV3 dc3 pm3 an3 cd3 ct3, PySem.W.fnOf "strong_lots" "strong_lots" (defArgs (top 4)) (defBody (top 4)) (defScope (top 4)) .none kV4 dc4 pm4 an4 cd4 ct4, PySem.W.fnOf "least_tree" "least_tree" (defArgs (top 5)) (defBody (top 5)) (defScope (top 5)) .none kV5 dc5 pm5 an5 cd5 ct5, PySem.W.fnOf "met_children" "met_children" (defArgs (top 6)) (defBody (top 6)) (defScope (top 6)) .none kV6 dc6 pm6 an6 cd6 ct6, PySem.W.fnOf "filled_children" "filled_children" (defArgs (top 7)) (defBody (top 7)) (defScope (top 7)) .none kV7 dc7 pm7 an7 cd7 ct7, PySem.W.fnOf "joined_parts" "joined_parts" (defArgs (top 8)) (defBody (top 8)) (defScope (top 8)) .none kV8 dc8 pm8 an8 cd8 ct8, PySem.W.fnOf "inner_hull" "inner_hull" (defArgs (top 9)) (defBody (top 9)) (defScope (top 9)) .none kV9 dc9 pm9 an9 cd9 ct9, PySem.W.fnOf "is_inner" "is_inner" (defArgs (top 10)) (defBody (top 10)) (defScope (top 10)) .none kV10 dc10 pm10 an10 cd10 ct10, PySem.W.fnOf "lot_place" "lot_place" (defArgs (top 11)) (defBody (top 11)) (defScope (top 11)) .none kV11 dc11 pm11 an11 cd11 ct11, PySem.W.fnOf "crossing_lot" "crossing_lot" (defArgs (top 12)) (defBody (top 12)) (defScope (top 12)) .none kV12 dc12 pm12 an12 cd12 ct12, fl, PySem.W.fnOf "_law_deal" "_law_deal" (defArgs (top 14)) (defBody (top 14)) (defScope (top 14)) .none kV14 dc14 pm14 an14 cd14 ct14, PySem.W.fnOf "_law_draw" "_law_draw" (defArgs (top 15)) (defBody (top 15)) (defScope (top 15)) .none kV15 dc15 pm15 an15 cd15 ct15, PySem.W.fnOf "_law_pick" "_law_pick" (defArgs (top 16)) (defBody (top 16)) (defScope (top 16)) .none kV16 dc16 pm16 an16 cd16 ct16, PySem.W.fnOf "_law_mixed" "_law_mixed" (defArgs (top 17)) (defBody (top 17)) (defScope (top 17)) .none kV17 dc17 pm17 an17 cd17 ct17, PySem.W.fnOf "_law_leaves" "_law_leaves" (defArgs (top 18)) (defBody (top 18)) (defScope (top 18)) .none kV18 dc18 pm18 an18 cd18 ct18, PySem.W.fnOf "_law_told" "_law_told" (defArgs (top 19)) (defBody (top 19)) (defScope (top 19)) .none kV19 dc19 pm19 an19 (.ref c19) ct19, PySem.W.fnOf "_law_shape" "_law_shape" (defArgs (top 20)) (defBody (top 20)) (defScope (top 20)) .none kV20 dc20 pm20 an20 cd20 ct20, PySem.W.fnOf "_law_groups" "_law_groups" (defArgs (top 21)) (defBody (top 21)) (defScope (top 21)) .none kV21 dc21 pm21 an21 cd21 ct21, PySem.W.fnOf "_law_union" "_law_union" (defArgs (top 22)) (defBody (top 22)) (defScope (top 22)) .none kV22 dc22 pm22 an22 cd22 ct22, fl, PySem.W.fnOf "_law_lots" "_law_lots" (defArgs (top 24)) (defBody (top 24)) (defScope (top 24)) .none kV24 dc24 pm24 an24 cd24 ct24, PySem.W.fnOf "_law_overlap" "_law_overlap" (defArgs (top 25)) (defBody (top 25)) (defScope (top 25)) .none kV25 dc25 pm25 an25 cd25 ct25, PySem.W.fnOf "_law_places" "_law_places" (defArgs (top 26)) (defBody (top 26)) (defScope (top 26)) .none kV26 dc26 pm26 an26 cd26 ct26, PySem.W.fnOf "_law_hull" "_law_hull" (defArgs (top 27)) (defBody (top 27)) (defScope (top 27)) .none kV27 dc27 pm27 an27 cd27 ct27, fl, PySem.W.fnOf "union_of" "union_of" (defArgs (sU)) (defBody (sU)) (defScope (sU)) .none kV29 dc29 pm29 an29 cd29 ct29].getD i fl
  have T : Ps K mg aa dd := ⟨Z, D29, D1, D2, D3, D4, D5, D6, D7, D8, D9, D10, D11, D12⟩
  have W : Lw K mg aa dd c19 := ⟨T, D14, D15, D16, D17, D18, D19, D20, D21, D22, D24, D25, D26, D27⟩
  obtain ⟨P2, hC, hP⟩ := hT f19 c19 _ _ (PySem.W.mg_of X G a19) l19 rfl rfl
  obtain ⟨o1, us, _, _, _, _, _, _, _, e1, _, e3, e4, _⟩ := id hC
  rw [X _ _ lC] at e1
  cases e1
  cases e3
  rw [vP] at e4
  cases e4
  refine ⟨fl, [(c19, PT)], sp28 K [(PT, nm19)], fun p hp => ?_, fun p hp => ?_, fun p hp => ?_, fun s u => .of_eq rfl, fun H a ns hl _ hH hS => ⟨a, ns, rfl, hS, hl, fun p hp => ?_, fun _ => rfl⟩, fun base _ _ hB => ?_⟩
  · obtain rfl : p = (c19, PT) := by simpa using hp
    exact hP
  · obtain rfl : p = (c19, PT) := by simpa using hp
    exact nP
  · obtain rfl : p = (c19, PT) := by simpa using hp
    exact hC
  · obtain rfl : p = (PT, nm19) := by simpa using hp
    exact .nil (hH (c19, PT) List.mem_cons_self)
  · exact ok28 F28 W (hB (c19, PT) List.mem_cons_self)
end K24
open PySem PySem.W PyProof.Rows in
set_option maxRecDepth 100000 in
set_option maxHeartbeats 0 in
theorem PySem.Challenge.cw_oncetested_k24_inner_lots_of_shapes_holds : PySem.Challenge.rw_oncetested_k24_inner_lots_of_shapes.Holds := by
  w_on; o_law; k_head; (case hw => w_witness2)
  k_fill
  refine K24.walk (l := PySem.Challenge.rw_oncetested_k24_inner_lots_of_shapes) rfl rfl ?hrec (fun w h Y => PySem.W.km_in_of Y) ?F
  case hrec => kernel_rfl
  case F =>
    intro w mg fa h KX G hmg hT
    refine' K24.all_mk KX G hmg hT ?xa1 ?xl1 ?xc10 ?xk1 ?xa2 ?xl2 ?xc20 ?xk2 ?xa3 ?xl3 ?xc30 ?xk3 ?xa4 ?xl4 ?xc40 ?xk4 ?xa5 ?xl5 ?xc50 ?xk5 ?xa6 ?xl6 ?xc60 ?xk6 ?xa7 ?xl7 ?xc70 ?xk7 ?xa8 ?xl8 ?xc80 ?xk8 ?xa9 ?xl9 ?xc90 ?xk9 ?xa10 ?xl10 ?xc100 ?xk10 ?xa11 ?xl11 ?xc110 ?xk11 ?xa12 ?xl12 ?xc120 ?xk12 ?xa14 ?xl14 ?xc140 ?xk14 ?xa15 ?xl15 ?xc150 ?xk15 ?xa16 ?xl16 ?xc160 ?xk16 ?xa17 ?xl17 ?xc170 ?xk17 ?xa18 ?xl18 ?xc180 ?xk18 ?xa19 ?xl19 ?xc190 ?xk19 ?xa20 ?xl20 ?xc200 ?xk20 ?xa21 ?xl21 ?xc210 ?xk21 ?xa22 ?xl22 ?xc220 ?xk22 ?xa24 ?xl24 ?xc240 ?xk24 ?xa25 ?xl25 ?xc250 ?xk25 ?xa26 ?xl26 ?xc260 ?xk26 ?xa27 ?xl27 ?xc270 ?xk27 ?xa28 ?xl28 ?xc280 ?xk28 ?xa29 ?xl29 ?xc290 ?xk29 ?xlC ?xvP ?xnP ?xz_isi ?xz_int ?xz_tup ?xz_lst ?xz_sorted ?xz_all ?xz_any ?xz_enum ?xz_rng ?xz_len ?xz_abs ?xz_min ?xz_zip ?xz_bool
    (case xa1 => k_is)
    (case xl1 => k_is)
    (case xc10 => k_is)
    (case xk1 => k_is)
    (case xa2 => k_is)
    (case xl2 => k_is)
    (case xc20 => k_is)
    (case xk2 => k_is)
    (case xa3 => k_is)
    (case xl3 => k_is)
    (case xc30 => k_is)
    (case xk3 => k_is)
    (case xa4 => k_is)
    (case xl4 => k_is)
    (case xc40 => k_is)
    (case xk4 => k_is)
    (case xa5 => k_is)
    (case xl5 => k_is)
    (case xc50 => k_is)
    (case xk5 => k_is)
    (case xa6 => k_is)
    (case xl6 => k_is)
    (case xc60 => k_is)
    (case xk6 => k_is)
    (case xa7 => k_is)
    (case xl7 => k_is)
    (case xc70 => k_is)
    (case xk7 => k_is)
    (case xa8 => k_is)
    (case xl8 => k_is)
    (case xc80 => k_is)
    (case xk8 => k_is)
    (case xa9 => k_is)
    (case xl9 => k_is)
    (case xc90 => k_is)
    (case xk9 => k_is)
    (case xa10 => k_is)
    (case xl10 => k_is)
    (case xc100 => k_is)
    (case xk10 => k_is)
    (case xa11 => k_is)
    (case xl11 => k_is)
    (case xc110 => k_is)
    (case xk11 => k_is)
    (case xa12 => k_is)
    (case xl12 => k_is)
    (case xc120 => k_is)
    (case xk12 => k_is)
    (case xa14 => k_is)
    (case xl14 => k_is)
    (case xc140 => k_is)
    (case xk14 => k_is)
    (case xa15 => k_is)
    (case xl15 => k_is)
    (case xc150 => k_is)
    (case xk15 => k_is)
    (case xa16 => k_is)
    (case xl16 => k_is)
    (case xc160 => k_is)
    (case xk16 => k_is)
    (case xa17 => k_is)
    (case xl17 => k_is)
    (case xc170 => k_is)
    (case xk17 => k_is)
    (case xa18 => k_is)
    (case xl18 => k_is)
    (case xc180 => k_is)
    (case xk18 => k_is)
    (case xa19 => k_is)
    (case xl19 => k_is)
    (case xc190 => k_is)
    (case xk19 => k_is)
    (case xa20 => k_is)
    (case xl20 => k_is)
    (case xc200 => k_is)
    (case xk20 => k_is)
    (case xa21 => k_is)
    (case xl21 => k_is)
    (case xc210 => k_is)
    (case xk21 => k_is)
    (case xa22 => k_is)
    (case xl22 => k_is)
    (case xc220 => k_is)
    (case xk22 => k_is)
    (case xa24 => k_is)
    (case xl24 => k_is)
    (case xc240 => k_is)
    (case xk24 => k_is)
    (case xa25 => k_is)
    (case xl25 => k_is)
    (case xc250 => k_is)
    (case xk25 => k_is)
    (case xa26 => k_is)
    (case xl26 => k_is)
    (case xc260 => k_is)
    (case xk26 => k_is)
    (case xa27 => k_is)
    (case xl27 => k_is)
    (case xc270 => k_is)
    (case xk27 => k_is)
    (case xa28 => k_is)
    (case xl28 => k_is)
    (case xc280 => k_is)
    (case xk28 => k_is)
    (case xa29 => k_is)
    (case xl29 => k_is)
    (case xc290 => k_is)
    (case xk29 => k_is)
    (case xlC => k_is)
    (case xvP => rfl)
    (case xnP => kernel_rfl)
    (case xz_isi => k_is)
    (case xz_int => k_is)
    (case xz_tup => k_is)
    (case xz_lst => k_is)
    (case xz_sorted => k_is)
    (case xz_all => k_is)
    (case xz_any => k_is)
    (case xz_enum => k_is)
    (case xz_rng => k_is)
    (case xz_len => k_is)
    (case xz_abs => k_is)
    (case xz_min => k_is)
    (case xz_zip => k_is)
    (case xz_bool => k_is)
