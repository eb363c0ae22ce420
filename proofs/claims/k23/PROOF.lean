import PyProof.Rows.All
import Wide.All
import OpenK.AllK
import Wide.FinOn
import HandS.ForMost
import HandS.SortInts
import HandS.Walk
import KE.GoesEnum
import HandS.SortRule
import HandS.NamedTupSort
import KE.KSortTupAny
import KE.SortKeyHeap
import PyProof.Rows.CallKwBuiltin
import HandS.IsInst
import HandS.Deep
import HandS.Style
import HandS.TupAny
import HandS.Conv
import HandS.NoneIn
import HandS.More
import HandS.ExcInit
import HandS.ExcField
import HandS.TupLe
import HandS.RaiseMore
import HandS.WordsExc
import HandS.TryOnly
import HandS.Lambda
import HandS.Zip
import KE.KDictZip
import PyProof.CollectWalk
import HandS.New
import KE.KRevSl
import KE.KNest
import HandS.Text
import HandS.EndTab
import PySem.Challenge.RW_oncetested_k23_shapes_and_what_is_none
set_option Elab.async false
set_option maxRecDepth 100000
/-! The mathematics of shapes: trees of parts, their inner lots, hulls and crossing lots. -/
set_option autoImplicit false
namespace K23
/-! ### ascending lists -/
section asc
variable {α : Type} (lt : α → α → Prop)
end asc
abbrev SS (l : List Int) : Prop := l.Pairwise (· < ·)
abbrev SN (l : List Nat) : Prop := l.Pairwise (· < ·)
theorem ss_ext : ∀ {a b : List Int}, SS a → SS b → (∀ x, x ∈ a ↔ x ∈ b) → a = b
  | [], [], _, _, _ => rfl
  | [], y :: b, _, _, h => absurd ((h y).mpr (List.mem_cons_self)) (by simp)
  | x :: a, [], _, _, h => absurd ((h x).mp (List.mem_cons_self)) (by simp)
  | x :: a, y :: b, ha, hb, h => by
    have ha' := List.pairwise_cons.mp ha
    have hb' := List.pairwise_cons.mp hb
    have e : x = y := by
      rcases List.mem_cons.mp ((h x).mp List.mem_cons_self) with e | e
      · exact e
      · rcases List.mem_cons.mp ((h y).mpr List.mem_cons_self) with e2 | e2
        · exact e2.symm
        · have := hb'.1 x e
          have := ha'.1 y e2
          omega
    subst e
    have := ss_ext ha'.2 hb'.2 fun z => by
      constructor
      · intro hz
        rcases List.mem_cons.mp ((h z).mp (List.mem_cons_of_mem _ hz)) with e | e
        · have := ha'.1 z hz
          omega
        · exact e
      · intro hz
        rcases List.mem_cons.mp ((h z).mpr (List.mem_cons_of_mem _ hz)) with e | e
        · have := hb'.1 z hz
          omega
        · exact e
    rw [this]
theorem sn_ext : ∀ {a b : List Nat}, SN a → SN b → (∀ x, x ∈ a ↔ x ∈ b) → a = b
  | [], [], _, _, _ => rfl
  | [], y :: b, _, _, h => absurd ((h y).mpr (List.mem_cons_self)) (by simp)
  | x :: a, [], _, _, h => absurd ((h x).mp (List.mem_cons_self)) (by simp)
  | x :: a, y :: b, ha, hb, h => by
    have ha' := List.pairwise_cons.mp ha
    have hb' := List.pairwise_cons.mp hb
    have e : x = y := by
      rcases List.mem_cons.mp ((h x).mp List.mem_cons_self) with e | e
      · exact e
      · rcases List.mem_cons.mp ((h y).mpr List.mem_cons_self) with e2 | e2
        · exact e2.symm
        · have := hb'.1 x e
          have := ha'.1 y e2
          omega
    subst e
    have := sn_ext ha'.2 hb'.2 fun z => by
      constructor
      · intro hz
        rcases List.mem_cons.mp ((h z).mp (List.mem_cons_of_mem _ hz)) with e | e
        · have := ha'.1 z hz
          omega
        · exact e
      · intro hz
        rcases List.mem_cons.mp ((h z).mpr (List.mem_cons_of_mem _ hz)) with e | e
        · have := hb'.1 z hz
          omega
        · exact e
    rw [this]
theorem nd_sub_len : ∀ {a b : List Int}, a.Nodup → (∀ x ∈ a, x ∈ b) → a.length ≤ b.length
  | [], b, _, _ => Nat.zero_le _
  | x :: a, b, ha, h => by
    have ha' := List.nodup_cons.mp ha
    have hx : x ∈ b := h x List.mem_cons_self
    have := nd_sub_len (a := a) (b := b.erase x) ha'.2 fun y hy => by
      have hne : y ≠ x := fun e => ha'.1 (e ▸ hy)
      exact (List.mem_erase_of_ne hne).mpr (h y (List.mem_cons_of_mem _ hy))
    rw [List.length_erase_of_mem hx] at this
    have : 0 < b.length := List.length_pos_of_mem hx
    simp only [List.length_cons]
    omega
theorem ss_nd {a : List Int} (h : SS a) : a.Nodup := h.imp fun h => by omega
theorem sn_nd {a : List Nat} (h : SN a) : a.Nodup := h.imp fun h => by omega
theorem ss_sub_eq {a b : List Int} (ha : SS a) (hb : SS b) (h : ∀ x ∈ a, x ∈ b) (hl : b.length ≤ a.length) : a = b := by
  refine ss_ext ha hb fun x => ⟨h x, fun hx => ?_⟩
  apply Classical.byContradiction
  intro hn
  have := nd_sub_len (a := x :: a) (b := b) (List.nodup_cons.mpr ⟨hn, ss_nd ha⟩) fun y hy => by
    rcases List.mem_cons.mp hy with e | e
    · rw [e]; exact hx
    · exact h y e
  simp only [List.length_cons] at this
  omega
/-! ### the ascending list of given numbers -/
def ins (x : Int) : List Int → List Int
  | [] => [x]
  | y :: l => if x ≤ y then x :: y :: l else y :: ins x l
def srt : List Int → List Int
  | [] => []
  | x :: l => ins x (srt l)
theorem ins_perm (x : Int) : ∀ l : List Int, (ins x l).Perm (x :: l)
  | [] => List.Perm.refl _
  | y :: l => by
    unfold ins
    split
    · exact List.Perm.refl _
    · exact ((ins_perm x l).cons y).trans (List.Perm.swap x y l)
theorem srt_perm : ∀ l : List Int, (srt l).Perm l
  | [] => List.Perm.refl _
  | x :: l => (ins_perm x (srt l)).trans ((srt_perm l).cons x)
theorem ins_le {x : Int} : ∀ {l : List Int}, l.Pairwise (· ≤ ·) → (ins x l).Pairwise (· ≤ ·)
  | [], _ => List.pairwise_singleton _ _
  | y :: l, h => by
    have h' := List.pairwise_cons.mp h
    unfold ins
    split
    · rename_i c
      refine List.pairwise_cons.mpr ⟨fun z hz => ?_, h⟩
      rcases List.mem_cons.mp hz with e | e
      · omega
      · have := h'.1 z e
        omega
    · rename_i c
      refine List.pairwise_cons.mpr ⟨fun z hz => ?_, ins_le h'.2⟩
      rcases List.mem_cons.mp ((ins_perm x l).mem_iff.mp hz) with e | e
      · omega
      · exact h'.1 z e
theorem srt_le : ∀ l : List Int, (srt l).Pairwise (· ≤ ·)
  | [] => List.Pairwise.nil
  | _ :: l => ins_le (srt_le l)
theorem mem_srt {x : Int} {l : List Int} : x ∈ srt l ↔ x ∈ l := (srt_perm l).mem_iff
theorem le_uniq : ∀ {a b : List Int}, a.Pairwise (· ≤ ·) → b.Pairwise (· ≤ ·) → a.Perm b → a = b
  | [], b, _, _, h => (List.Perm.eq_nil h.symm).symm
  | x :: a, [], _, _, h => absurd h.length_eq (by simp)
  | x :: a, y :: b, ha, hb, h => by
    have ha' := List.pairwise_cons.mp ha
    have hb' := List.pairwise_cons.mp hb
    have e : x = y := by
      rcases List.mem_cons.mp (h.mem_iff.mp (List.mem_cons_self (a := x) (l := a))) with e | e
      · exact e
      · rcases List.mem_cons.mp (h.mem_iff.mpr (List.mem_cons_self (a := y) (l := b))) with e2 | e2
        · exact e2.symm
        · have := hb'.1 x e
          have := ha'.1 y e2
          omega
    subst e
    rw [le_uniq ha'.2 hb'.2 h.cons_inv]
theorem srt_uniq {a l : List Int} (h : a.Perm l) (hs : a.Pairwise (· ≤ ·)) : a = srt l := le_uniq hs (srt_le l) (h.trans (srt_perm l).symm)
theorem srt_congr {l m : List Int} (h : l.Perm m) : srt l = srt m := srt_uniq ((srt_perm l).trans h) (srt_le l)
theorem srt_ss {l : List Int} (h : l.Nodup) : SS (srt l) := by
  have h1 := srt_le l
  have h2 : (srt l).Nodup := (srt_perm l).nodup_iff.mpr h
  exact (h1.and h2).imp fun ⟨a, b⟩ => by omega
theorem srt_of_ss {l : List Int} (h : SS l) : srt l = l := (srt_uniq (List.Perm.refl l) (h.imp fun h => by omega)).symm
/-! ### trees -/
inductive Kd | bare | line | free
deriving DecidableEq
inductive Tr
  | leaf (n : Int)
  | knot (k : Kd) (cs : List Tr)
theorem Tr.ind {P : Tr → Prop} (hl : ∀ n, P (.leaf n)) (hk : ∀ k cs, (∀ c ∈ cs, P c) → P (.knot k cs)) : ∀ t, P t := fun t =>
  Tr.rec (motive_1 := P) (motive_2 := fun cs => ∀ c ∈ cs, P c) hl (fun k cs h => hk k cs h) (fun c h => absurd h (by simp)) (fun c cs h1 h2 d hd => by
    rcases List.mem_cons.mp hd with e | e
    · rw [e]; exact h1
    · exact h2 d e) t
mutual
def lv : Tr → List Int
  | .leaf n => [n]
  | .knot _ cs => lvs cs
def lvs : List Tr → List Int
  | [] => []
  | c :: cs => lv c ++ lvs cs
end
theorem lvs_flat : ∀ cs : List Tr, lvs cs = cs.flatMap lv
  | [] => by simp [lvs]
  | c :: cs => by simp [lvs, lvs_flat cs]
theorem mem_lvs {x : Int} {cs : List Tr} : x ∈ lvs cs ↔ ∃ c ∈ cs, x ∈ lv c := by
  rw [lvs_flat, List.mem_flatMap]
mutual
def ok : Tr → Prop
  | .leaf _ => True
  | .knot _ cs => 2 ≤ cs.length ∧ oks cs
def oks : List Tr → Prop
  | [] => True
  | c :: cs => ok c ∧ oks cs
end
theorem oks_iff : ∀ {cs : List Tr}, oks cs ↔ ∀ c ∈ cs, ok c
  | [] => by simp [oks]
  | c :: cs => by simp [oks, oks_iff (cs := cs)]
theorem ok_knot {k : Kd} {cs : List Tr} (h : ok (.knot k cs)) : 2 ≤ cs.length ∧ ∀ c ∈ cs, ok c := by
  unfold ok at h
  exact ⟨h.1, oks_iff.mp h.2⟩
theorem lv_ne : ∀ t : Tr, ok t → lv t ≠ [] := Tr.ind (fun n _ => by simp [lv]) fun k cs ih h => by
  obtain ⟨h1, h2⟩ := ok_knot h
  match cs, h1 with
  | c :: cs, _ =>
    have := ih c List.mem_cons_self (h2 c List.mem_cons_self)
    simp [lv, lvs, this]
/-- disjoint children -/
theorem apart {cs : List Tr} (h : (lvs cs).Nodup) {i j : Nat} {c d : Tr} (hi : cs[i]? = some c) (hj : cs[j]? = some d) {x : Int} (hx : x ∈ lv c) (hy : x ∈ lv d) : i = j := by
  induction cs generalizing i j with
  | nil => simp at hi
  | cons a cs ih =>
    simp only [lvs] at h
    have h' := List.nodup_append.mp h
    match i, j with
    | 0, 0 => rfl
    | 0, j + 1 =>
      have e : a = c := Option.some.inj hi
      subst e
      have hd : d ∈ cs := List.mem_of_getElem? (by simpa using hj)
      exact absurd rfl (h'.2.2 x hx x (mem_lvs.mpr ⟨d, hd, hy⟩))
    | i + 1, 0 =>
      have e : a = d := Option.some.inj hj
      subst e
      have hd : c ∈ cs := List.mem_of_getElem? (by simpa using hi)
      exact absurd rfl (h'.2.2 x hy x (mem_lvs.mpr ⟨c, hd, hx⟩))
    | i + 1, j + 1 =>
      have := ih h'.2.1 (i := i) (j := j) (by simpa using hi) (by simpa using hj)
      omega
theorem nd_child {cs : List Tr} (h : (lvs cs).Nodup) {c : Tr} (hc : c ∈ cs) : (lv c).Nodup := by
  induction cs with
  | nil => simp at hc
  | cons a cs ih =>
    simp only [lvs] at h
    have h' := List.nodup_append.mp h
    rcases List.mem_cons.mp hc with e | e
    · rw [e]; exact h'.1
    · exact ih h'.2.1 e
abbrev sub (a b : List Int) : Prop := ∀ x ∈ a, x ∈ b
/-! ### the least tree -/
mutual
def least : Tr → List Int → Tr
  | .leaf n, _ => .leaf n
  | .knot k cs, lot => leasts cs lot (.knot k cs)
def leasts : List Tr → List Int → Tr → Tr
  | [], _, d => d
  | c :: cs, lot, d => if sub lot (lv c) then least c lot else leasts cs lot d
end
theorem least_knot (k : Kd) (cs : List Tr) (lot : List Int) : least (.knot k cs) lot = leasts cs lot (.knot k cs) := by rw [least]
theorem leasts_own {lot : List Int} {d : Tr} : ∀ {cs : List Tr}, (∀ c ∈ cs, ¬ sub lot (lv c)) → leasts cs lot d = d
  | [], _ => by rw [leasts]
  | c :: cs, h => by
    rw [leasts, if_neg (h c List.mem_cons_self)]
    exact leasts_own fun e he => h e (List.mem_cons_of_mem _ he)
theorem leasts_child {lot : List Int} {d : Tr} : ∀ {cs : List Tr}, (lvs cs).Nodup → lot ≠ [] → ∀ {c : Tr}, c ∈ cs → sub lot (lv c) → leasts cs lot d = least c lot
  | [], _, _, c, hc, _ => absurd hc (by simp)
  | a :: cs, hn, h0, c, hc, hs => by
    rw [leasts]
    rcases List.mem_cons.mp hc with e | e
    · subst e
      rw [if_pos hs]
    · simp only [lvs] at hn
      have h' := List.nodup_append.mp hn
      have no : ¬ sub lot (lv a) := fun h => by
        match lot, h0 with
        | x :: r, _ => exact absurd rfl (h'.2.2 x (h x List.mem_cons_self) x (mem_lvs.mpr ⟨c, e, hs x List.mem_cons_self⟩))
      rw [if_neg no]
      exact leasts_child h'.2.1 h0 e hs
/-! ### children that are met, filled, joined -/
def child (cs : List Tr) (i : Nat) : Tr := cs.getD i (.leaf 0)
theorem child_at {cs : List Tr} {i : Nat} (h : i < cs.length) : cs[i]? = some (child cs i) := by
  unfold child
  rw [List.getD_eq_getElem?_getD, List.getElem?_eq_getElem h]
  rfl
theorem child_of {cs : List Tr} {i : Nat} {c : Tr} (h : cs[i]? = some c) : child cs i = c := by
  unfold child
  rw [List.getD_eq_getElem?_getD, h]
  rfl
theorem child_mem {cs : List Tr} {i : Nat} (h : i < cs.length) : child cs i ∈ cs := List.mem_of_getElem? (child_at h)
theorem mem_child {cs : List Tr} {c : Tr} (h : c ∈ cs) : ∃ i, i < cs.length ∧ child cs i = c := by
  obtain ⟨i, hi⟩ := List.getElem?_of_mem h
  exact ⟨i, (List.getElem?_eq_some_iff.mp hi).1, child_of hi⟩
def meets (c : Tr) (lot : List Int) : Bool := (lv c).any fun x => decide (x ∈ lot)
theorem meets_iff {c : Tr} {lot : List Int} : meets c lot = true ↔ ∃ x ∈ lv c, x ∈ lot := by
  unfold meets
  rw [List.any_eq_true]
  simp
def met (cs : List Tr) (lot : List Int) : List Nat := (List.range cs.length).filter fun i => meets (child cs i) lot
theorem mem_met {cs : List Tr} {lot : List Int} {i : Nat} : i ∈ met cs lot ↔ i < cs.length ∧ ∃ x ∈ lv (child cs i), x ∈ lot := by
  unfold met
  rw [List.mem_filter, List.mem_range, meets_iff]
theorem sn_range (n : Nat) : SN (List.range n) := List.pairwise_lt_range
theorem sn_met (cs : List Tr) (lot : List Int) : SN (met cs lot) := (sn_range _).filter _
def stretch (a b : Nat) : List Nat := (List.range (b + 1 - a)).map (a + ·)
theorem mem_stretch {a b i : Nat} : i ∈ stretch a b ↔ a ≤ i ∧ i ≤ b := by
  unfold stretch
  rw [List.mem_map]
  constructor
  · rintro ⟨j, hj, rfl⟩
    have := List.mem_range.mp hj
    omega
  · rintro ⟨h1, h2⟩
    exact ⟨i - a, List.mem_range.mpr (by omega), by omega⟩
theorem sn_stretch (a b : Nat) : SN (stretch a b) := by
  unfold stretch
  rw [SN, List.pairwise_map]
  exact (sn_range _).imp fun h => by omega
def hd (g : List Nat) : Nat := g.headD 0
def lst (g : List Nat) : Nat := g.getLastD 0
def filled : Kd → Nat → List Nat → List Nat
  | .bare, n, _ => List.range n
  | .line, _, g => stretch (hd g) (lst g)
  | .free, _, g => g
def joined (cs : List Tr) (g : List Nat) : List Int := srt (g.flatMap fun i => lv (child cs i))
theorem mem_joined {cs : List Tr} {g : List Nat} {x : Int} : x ∈ joined cs g ↔ ∃ i ∈ g, x ∈ lv (child cs i) := by
  unfold joined
  rw [mem_srt, List.mem_flatMap]
theorem joined_nd {cs : List Tr} (hn : (lvs cs).Nodup) : ∀ {g : List Nat}, g.Nodup → (∀ i ∈ g, i < cs.length) → (g.flatMap fun i => lv (child cs i)).Nodup
  | [], _, _ => by simp
  | i :: g, h, hb => by
    have h' := List.nodup_cons.mp h
    rw [List.flatMap_cons]
    refine List.nodup_append.mpr ⟨nd_child hn (child_mem (hb i List.mem_cons_self)), joined_nd hn h'.2 fun j hj => hb j (List.mem_cons_of_mem _ hj), ?_⟩
    rintro x hx y hy rfl
    obtain ⟨j, hj, hxj⟩ := List.mem_flatMap.mp hy
    have e := apart hn (child_at (hb i List.mem_cons_self)) (child_at (hb j (List.mem_cons_of_mem _ hj))) hx hxj
    exact h'.1 (e ▸ hj)
theorem joined_ss {cs : List Tr} (hn : (lvs cs).Nodup) {g : List Nat} (h : SN g) (hb : ∀ i ∈ g, i < cs.length) : SS (joined cs g) := srt_ss (joined_nd hn (sn_nd h) hb)
def hull (t : Tr) (lot : List Int) : List Int := match least t lot with
  | .leaf n => [n]
  | .knot k cs => joined cs (filled k cs.length (met cs lot))
def place (t : Tr) (lot : List Int) : List Int × List Nat := match least t lot with
  | .leaf n => ([n], [])
  | .knot _ cs => (srt (lvs cs), met cs lot)
def others (n : Nat) (g : List Nat) : List Nat := (List.range n).filter fun i => decide (i ∉ g)
def cross1 (k : Kd) (cs : List Tr) (g : List Nat) : Option (List Int) :=
  if others cs.length g = [] then none
  else if k = .free then some (joined cs [hd g, hd (others cs.length g)])
  else if 0 < hd g then some (joined cs [hd g - 1, hd g])
  else some (joined cs [lst g, lst g + 1])
def cross (t : Tr) (lot : List Int) : Option (List Int) := match least t lot with
  | .leaf _ => none
  | .knot k cs => cross1 k cs (met cs lot)
/-! ### groups of children, inner lots with their places -/
def subs : Nat → List (List Nat)
  | 0 => [[]]
  | n + 1 => subs n ++ (subs n).map (· ++ [n])
def good (k : Kd) (g : List Nat) : Bool := match k with
  | .bare => true
  | .line => decide (1 < g.length) && decide (lst g = hd g + (g.length - 1))
  | .free => decide (1 < g.length)
def groups (k : Kd) (n : Nat) : List (List Nat) := match k with
  | .bare => [List.range n]
  | k => (subs n).filter (good k)
theorem mem_subs : ∀ {n : Nat} {g : List Nat}, g ∈ subs n ↔ SN g ∧ ∀ i ∈ g, i < n
  | 0, g => by
    simp only [subs, List.mem_singleton]
    constructor
    · rintro rfl
      exact ⟨List.Pairwise.nil, by simp⟩
    · rintro ⟨_, h⟩
      match g with
      | [] => rfl
      | i :: g => exact absurd (h i List.mem_cons_self) (by omega)
  | n + 1, g => by
    simp only [subs, List.mem_append, List.mem_map]
    constructor
    · rintro (h | ⟨f, h, rfl⟩)
      · obtain ⟨h1, h2⟩ := mem_subs.mp h
        exact ⟨h1, fun i hi => by have := h2 i hi; omega⟩
      · obtain ⟨h1, h2⟩ := mem_subs.mp h
        refine ⟨List.pairwise_append.mpr ⟨h1, List.pairwise_singleton _ _, fun a ha b hb => ?_⟩, fun i hi => ?_⟩
        · have := h2 a ha
          have := List.mem_singleton.mp hb
          omega
        · rcases List.mem_append.mp hi with e | e
          · have := h2 i e
            omega
          · have := List.mem_singleton.mp e
            omega
    · rintro ⟨h1, h2⟩
      by_cases hm : n ∈ g
      · refine .inr ⟨g.filter fun i => decide (i < n), mem_subs.mpr ⟨h1.filter _, fun i hi => by simpa using (List.mem_filter.mp hi).2⟩, ?_⟩
        refine sn_ext (List.pairwise_append.mpr ⟨h1.filter _, List.pairwise_singleton _ _, fun a ha b hb => ?_⟩) h1 fun i => ?_
        · have := (List.mem_filter.mp ha).2
          have := List.mem_singleton.mp hb
          simp at *
          omega
        · rw [List.mem_append, List.mem_filter, List.mem_singleton]
          constructor
          · rintro (⟨h, _⟩ | rfl)
            · exact h
            · exact hm
          · intro h
            have := h2 i h
            by_cases e : i = n
            · exact .inr e
            · exact .inl ⟨h, by simp; omega⟩
      · refine .inl (mem_subs.mpr ⟨h1, fun i hi => ?_⟩)
        have := h2 i hi
        have : i ≠ n := fun e => hm (e ▸ hi)
        omega
theorem subs_nd : ∀ n : Nat, (subs n).Nodup
  | 0 => by simp [subs]
  | n + 1 => by
    simp only [subs]
    refine List.nodup_append.mpr ⟨subs_nd n, ?_, ?_⟩
    · exact List.pairwise_map.mpr ((subs_nd n).imp fun h e => h (List.append_cancel_right e))
    · rintro a ha b hb rfl
      obtain ⟨f, _, e⟩ := List.mem_map.mp hb
      have := (mem_subs.mp ha).2 n (by rw [← e]; simp)
      omega
end K23
set_option autoImplicit false
namespace K23
/-! ### hd, lst of ascending lists -/
theorem hd_mem : ∀ {g : List Nat}, g ≠ [] → hd g ∈ g
  | [], h => absurd rfl h
  | i :: g, _ => by simp [hd]
theorem lst_cons {i j : Nat} {g : List Nat} : lst (i :: j :: g) = lst (j :: g) := by simp [lst]
theorem lst_one {i : Nat} : lst [i] = i := by simp [lst]
theorem lst_mem : ∀ {g : List Nat}, g ≠ [] → lst g ∈ g
  | [], h => absurd rfl h
  | [i], _ => by simp [lst]
  | i :: j :: g, _ => by
    rw [lst_cons]
    exact List.mem_cons_of_mem _ (lst_mem (by simp))
theorem hd_le : ∀ {g : List Nat}, SN g → ∀ i ∈ g, hd g ≤ i
  | [], _, i, h => absurd h (by simp)
  | a :: g, h, i, hi => by
    have h' := List.pairwise_cons.mp h
    show a ≤ i
    rcases List.mem_cons.mp hi with e | e
    · omega
    · have := h'.1 i e
      omega
theorem le_lst : ∀ {g : List Nat}, SN g → ∀ i ∈ g, i ≤ lst g
  | [], _, i, h => absurd h (by simp)
  | [a], _, i, hi => by
    have := List.mem_singleton.mp hi
    rw [lst_one]
    omega
  | a :: b :: g, h, i, hi => by
    have h' := List.pairwise_cons.mp h
    rw [lst_cons]
    rcases List.mem_cons.mp hi with e | e
    · have h1 := h'.1 b List.mem_cons_self
      have h2 := le_lst h'.2 b List.mem_cons_self
      omega
    · exact le_lst h'.2 i e
/-- an ascending list spans at least its length -/
theorem span : ∀ {g : List Nat}, SN g → g ≠ [] → hd g + (g.length - 1) ≤ lst g
  | [], _, h => absurd rfl h
  | [a], _, _ => by simp [lst, hd]
  | a :: b :: g, h, _ => by
    have h' := List.pairwise_cons.mp h
    have ih := span h'.2 (by simp)
    rw [lst_cons]
    have := h'.1 b List.mem_cons_self
    have e1 : hd (a :: b :: g) = a := rfl
    have e2 : hd (b :: g) = b := rfl
    simp only [List.length_cons] at *
    omega
/-- one that spans no more is a stretch -/
theorem full_span : ∀ {g : List Nat}, SN g → g ≠ [] → lst g = hd g + (g.length - 1) → ∀ i, hd g ≤ i → i ≤ lst g → i ∈ g
  | [], _, h, _, _, _, _ => absurd rfl h
  | [a], _, _, _, i, h1, h2 => by
    have e1 : hd [a] = a := rfl
    rw [lst_one] at h2
    have : i = a := by omega
    rw [this]; exact List.mem_cons_self
  | a :: b :: g, h, _, e, i, h1, h2 => by
    have h' := List.pairwise_cons.mp h
    have sp := span h'.2 (by simp)
    have hab := h'.1 b List.mem_cons_self
    have e1 : hd (a :: b :: g) = a := rfl
    have e2 : hd (b :: g) = b := rfl
    rw [lst_cons] at e h2
    simp only [List.length_cons] at *
    by_cases q : i = a
    · rw [q]; exact List.mem_cons_self
    · refine List.mem_cons_of_mem _ (full_span h'.2 (by simp) ?_ i ?_ h2)
      · simp only [List.length_cons]
        omega
      · omega
theorem two_of {g : List Nat} (h : SN g) (hl : 1 < g.length) : hd g < lst g := by
  have := span h (by intro e; rw [e] at hl; simp at hl)
  omega
theorem len_two {g : List Nat} {i j : Nat} (hi : i ∈ g) (hj : j ∈ g) (h : i ≠ j) : 1 < g.length := by
  match g with
  | [] => exact absurd hi (by simp)
  | [a] =>
    have := List.mem_singleton.mp hi
    have := List.mem_singleton.mp hj
    omega
  | a :: b :: g => simp
theorem len_stretch (a b : Nat) : (stretch a b).length = b + 1 - a := by simp [stretch]
theorem hd_stretch {a b : Nat} (h : a ≤ b) : hd (stretch a b) = a := by
  have h1 := hd_mem (g := stretch a b) (by intro e; have := len_stretch a b; rw [e] at this; simp at this; omega)
  have h2 := mem_stretch.mp h1
  have h3 := hd_le (sn_stretch a b) a (mem_stretch.mpr ⟨Nat.le_refl _, h⟩)
  omega
theorem lst_stretch {a b : Nat} (h : a ≤ b) : lst (stretch a b) = b := by
  have h1 := lst_mem (g := stretch a b) (by intro e; have := len_stretch a b; rw [e] at this; simp at this; omega)
  have h2 := mem_stretch.mp h1
  have h3 := le_lst (sn_stretch a b) b (mem_stretch.mpr ⟨h, Nat.le_refl _⟩)
  omega
/-! ### what a group is -/
structure Grp (k : Kd) (n : Nat) (g : List Nat) : Prop where
  sn : SN g
  lt : ∀ i ∈ g, i < n
  two : 1 < g.length
  fill : filled k n g = g
theorem grp_of {k : Kd} {n : Nat} {g : List Nat} (hn : 2 ≤ n) (h : g ∈ groups k n) : Grp k n g := by
  match k with
  | .bare =>
    have e : g = List.range n := by simpa [groups] using h
    subst e
    exact ⟨sn_range n, fun i hi => List.mem_range.mp hi, by simp; omega, rfl⟩
  | .free =>
    have h := List.mem_filter.mp (show g ∈ (subs n).filter (good .free) from h)
    obtain ⟨h1, h2⟩ := mem_subs.mp h.1
    exact ⟨h1, h2, by simpa [good] using h.2, rfl⟩
  | .line =>
    have h := List.mem_filter.mp (show g ∈ (subs n).filter (good .line) from h)
    obtain ⟨h1, h2⟩ := mem_subs.mp h.1
    have h3 : 1 < g.length ∧ lst g = hd g + (g.length - 1) := by simpa [good] using h.2
    have h0 : g ≠ [] := by intro e; rw [e] at h3; simp at h3
    refine ⟨h1, h2, h3.1, sn_ext (sn_stretch _ _) h1 fun i => ?_⟩
    rw [show filled Kd.line n g = stretch (hd g) (lst g) from rfl, mem_stretch]
    exact ⟨fun q => full_span h1 h0 h3.2 i q.1 q.2, fun q => ⟨hd_le h1 i q, le_lst h1 i q⟩⟩
theorem stretch_grp {n a b : Nat} (h : a < b) (hb : b < n) : stretch a b ∈ groups .line n := by
  refine List.mem_filter.mpr ⟨mem_subs.mpr ⟨sn_stretch _ _, fun i hi => ?_⟩, ?_⟩
  · have := mem_stretch.mp hi
    omega
  · have e1 := hd_stretch (Nat.le_of_lt h)
    have e2 := lst_stretch (Nat.le_of_lt h)
    have e3 := len_stretch a b
    simp only [good, e1, e2, e3, Bool.and_eq_true, decide_eq_true_eq]
    omega
theorem free_grp {n : Nat} {g : List Nat} (h : SN g) (hb : ∀ i ∈ g, i < n) (h2 : 1 < g.length) : g ∈ groups .free n :=
  List.mem_filter.mpr ⟨mem_subs.mpr ⟨h, hb⟩, by simp [good, h2]⟩
theorem filled_grp {k : Kd} {n : Nat} {g : List Nat} (h : SN g) (hb : ∀ i ∈ g, i < n) (h2 : 1 < g.length) : filled k n g ∈ groups k n := by
  match k with
  | .bare => simp [groups, filled]
  | .free => exact free_grp h hb h2
  | .line => exact stretch_grp (two_of h h2) (hb _ (lst_mem (by intro e; rw [e] at h2; simp at h2)))
theorem sub_filled {k : Kd} {n : Nat} {g : List Nat} (h : SN g) (hb : ∀ i ∈ g, i < n) {i : Nat} (hi : i ∈ g) : i ∈ filled k n g := by
  match k with
  | .bare => exact List.mem_range.mpr (hb i hi)
  | .free => exact hi
  | .line => exact mem_stretch.mpr ⟨hd_le h i hi, le_lst h i hi⟩
theorem filled_sub {k : Kd} {n : Nat} {g f : List Nat} (G : Grp k n g) (h : ∀ i ∈ f, i ∈ g) (h0 : f ≠ []) : ∀ i ∈ filled k n f, i ∈ g := by
  intro i hi
  rw [← G.fill]
  match k with
  | .bare => exact hi
  | .free => exact sub_filled G.sn G.lt (h i hi)
  | .line =>
    have h1 := hd_le G.sn _ (h _ (hd_mem h0))
    have h2 := le_lst G.sn _ (h _ (lst_mem h0))
    have := mem_stretch.mp (show i ∈ stretch (hd f) (lst f) from hi)
    exact mem_stretch.mpr ⟨by omega, by omega⟩
/-! ### places -/
mutual
def places : Tr → List (List Int × List Int × List Nat)
  | .leaf n => [([n], [n], [])]
  | .knot k cs => placess cs ++ (groups k cs.length).map fun g => (joined cs g, srt (lvs cs), g)
def placess : List Tr → List (List Int × List Int × List Nat)
  | [] => []
  | c :: cs => places c ++ placess cs
end
theorem mem_placess {z : List Int × List Int × List Nat} : ∀ {cs : List Tr}, z ∈ placess cs ↔ ∃ c ∈ cs, z ∈ places c
  | [] => by simp [placess]
  | c :: cs => by simp [placess, mem_placess (cs := cs)]
theorem mem_places {z : List Int × List Int × List Nat} {k : Kd} {cs : List Tr} : z ∈ places (.knot k cs) ↔ (∃ c ∈ cs, z ∈ places c) ∨ ∃ g ∈ groups k cs.length, (joined cs g, srt (lvs cs), g) = z := by
  rw [places, List.mem_append, mem_placess, List.mem_map]
def inn (t : Tr) : List (List Int) := (places t).map (·.1)
theorem mem_inn {L : List Int} {k : Kd} {cs : List Tr} : L ∈ inn (.knot k cs) ↔ (∃ c ∈ cs, L ∈ inn c) ∨ ∃ g ∈ groups k cs.length, joined cs g = L := by
  unfold inn
  rw [List.mem_map]
  constructor
  · rintro ⟨z, hz, rfl⟩
    rcases mem_places.mp hz with ⟨c, hc, h⟩ | ⟨g, hg, rfl⟩
    · exact .inl ⟨c, hc, List.mem_map.mpr ⟨z, h, rfl⟩⟩
    · exact .inr ⟨g, hg, rfl⟩
  · rintro (⟨c, hc, h⟩ | ⟨g, hg, rfl⟩)
    · obtain ⟨z, hz, rfl⟩ := List.mem_map.mp h
      exact ⟨z, mem_places.mpr (.inl ⟨c, hc, hz⟩), rfl⟩
    · exact ⟨_, mem_places.mpr (.inr ⟨g, hg, rfl⟩), rfl⟩
theorem inn_leaf (n : Int) : inn (.leaf n) = [[n]] := by simp [inn, places]
/-- what is told of a tree that is looked at -/
structure Wf (t : Tr) : Prop where
  ok : ok t
  nd : (lv t).Nodup
theorem Wf.child {k : Kd} {cs : List Tr} (w : Wf (.knot k cs)) {c : Tr} (hc : c ∈ cs) : Wf c := ⟨(ok_knot w.ok).2 c hc, nd_child (by have := w.nd; rwa [lv] at this) hc⟩
theorem Wf.nds {k : Kd} {cs : List Tr} (w : Wf (.knot k cs)) : (lvs cs).Nodup := by have := w.nd; rwa [lv] at this
theorem Wf.two {k : Kd} {cs : List Tr} (w : Wf (.knot k cs)) : 2 ≤ cs.length := (ok_knot w.ok).1
theorem Wf.ne {k : Kd} {cs : List Tr} (w : Wf (.knot k cs)) {i : Nat} (h : i < cs.length) : ∃ x, x ∈ lv (K23.child cs i) := by
  have := lv_ne _ (w.child (child_mem h)).ok
  match e : lv (K23.child cs i), this with
  | x :: r, _ => exact ⟨x, List.mem_cons_self⟩
theorem one {k : Kd} {cs : List Tr} (w : Wf (.knot k cs)) {i j : Nat} (hi : i < cs.length) (hj : j < cs.length) {x : Int} (h1 : x ∈ lv (child cs i)) (h2 : x ∈ lv (child cs j)) : i = j :=
  apart w.nds (child_at hi) (child_at hj) h1 h2
theorem lv_knot (k : Kd) (cs : List Tr) : lv (.knot k cs) = lvs cs := by rw [lv]
theorem mem_lv {k : Kd} {cs : List Tr} {x : Int} : x ∈ lv (.knot k cs) ↔ ∃ i, i < cs.length ∧ x ∈ lv (child cs i) := by
  rw [lv_knot, mem_lvs]
  constructor
  · rintro ⟨c, hc, h⟩
    obtain ⟨i, hi, rfl⟩ := mem_child hc
    exact ⟨i, hi, h⟩
  · rintro ⟨i, hi, h⟩
    exact ⟨_, child_mem hi, h⟩
theorem inn_lot : ∀ t : Tr, Wf t → ∀ L ∈ inn t, L ≠ [] ∧ sub L (lv t) ∧ SS L := Tr.ind (fun n _ L h => by
    rw [inn_leaf] at h
    rw [List.mem_singleton.mp h]
    exact ⟨by simp, fun x hx => by simpa [lv] using hx, List.pairwise_singleton _ _⟩) fun k cs ih w L h => by
  rcases mem_inn.mp h with ⟨c, hc, h⟩ | ⟨g, hg, rfl⟩
  · obtain ⟨h1, h2, h3⟩ := ih c hc (w.child hc) L h
    exact ⟨h1, fun x hx => by rw [lv_knot]; exact mem_lvs.mpr ⟨c, hc, h2 x hx⟩, h3⟩
  · have G := grp_of w.two hg
    have h0 : g ≠ [] := by intro e; have := G.two; rw [e] at this; simp at this
    obtain ⟨x, hx⟩ := w.ne (G.lt _ (hd_mem h0))
    refine ⟨fun e => ?_, fun y hy => ?_, joined_ss w.nds G.sn G.lt⟩
    · have : x ∈ joined cs g := mem_joined.mpr ⟨_, hd_mem h0, hx⟩
      rw [e] at this
      exact absurd this (by simp)
    · obtain ⟨i, hi, h⟩ := mem_joined.mp hy
      exact mem_lv.mpr ⟨i, G.lt i hi, h⟩
/-! ### the least tree of a lot -/
theorem least_in {k : Kd} {cs : List Tr} (w : Wf (.knot k cs)) {lot : List Int} (h0 : lot ≠ []) {c : Tr} (hc : c ∈ cs) (hs : sub lot (lv c)) : least (.knot k cs) lot = least c lot := by
  rw [least_knot]
  exact leasts_child w.nds h0 hc hs
theorem least_own {k : Kd} {cs : List Tr} {lot : List Int} (h : ∀ c ∈ cs, ¬ sub lot (lv c)) : least (.knot k cs) lot = .knot k cs := by
  rw [least_knot]
  exact leasts_own h
theorem hull_in {k : Kd} {cs : List Tr} (w : Wf (.knot k cs)) {lot : List Int} (h0 : lot ≠ []) {c : Tr} (hc : c ∈ cs) (hs : sub lot (lv c)) : hull (.knot k cs) lot = hull c lot := by
  unfold hull
  rw [least_in w h0 hc hs]
theorem place_in {k : Kd} {cs : List Tr} (w : Wf (.knot k cs)) {lot : List Int} (h0 : lot ≠ []) {c : Tr} (hc : c ∈ cs) (hs : sub lot (lv c)) : place (.knot k cs) lot = place c lot := by
  unfold place
  rw [least_in w h0 hc hs]
theorem cross_in {k : Kd} {cs : List Tr} (w : Wf (.knot k cs)) {lot : List Int} (h0 : lot ≠ []) {c : Tr} (hc : c ∈ cs) (hs : sub lot (lv c)) : cross (.knot k cs) lot = cross c lot := by
  unfold cross
  rw [least_in w h0 hc hs]
theorem hull_own {k : Kd} {cs : List Tr} {lot : List Int} (h : ∀ c ∈ cs, ¬ sub lot (lv c)) : hull (.knot k cs) lot = joined cs (filled k cs.length (met cs lot)) := by
  unfold hull
  rw [least_own h]
theorem place_own {k : Kd} {cs : List Tr} {lot : List Int} (h : ∀ c ∈ cs, ¬ sub lot (lv c)) : place (.knot k cs) lot = (srt (lvs cs), met cs lot) := by
  unfold place
  rw [least_own h]
theorem cross_own {k : Kd} {cs : List Tr} {lot : List Int} (h : ∀ c ∈ cs, ¬ sub lot (lv c)) : cross (.knot k cs) lot = cross1 k cs (met cs lot) := by
  unfold cross
  rw [least_own h]
/-- a group's own lot -/
theorem grp_no {k : Kd} {cs : List Tr} (w : Wf (.knot k cs)) {g : List Nat} (G : Grp k cs.length g) : ∀ c ∈ cs, ¬ sub (joined cs g) (lv c) := by
  intro c hc hs
  obtain ⟨m, hm, rfl⟩ := mem_child hc
  have h0 : g ≠ [] := by intro e; have := G.two; rw [e] at this; simp at this
  have h2 := two_of G.sn G.two
  have key : ∀ i ∈ g, i = m := fun i hi => by
    obtain ⟨x, hx⟩ := w.ne (G.lt i hi)
    exact one w (G.lt i hi) hm hx (hs x (mem_joined.mpr ⟨i, hi, hx⟩))
  have := key _ (hd_mem h0)
  have := key _ (lst_mem h0)
  omega
theorem met_joined {k : Kd} {cs : List Tr} (w : Wf (.knot k cs)) {g : List Nat} (hs : SN g) (hb : ∀ i ∈ g, i < cs.length) : met cs (joined cs g) = g := by
  refine sn_ext (sn_met _ _) hs fun i => ?_
  rw [mem_met]
  constructor
  · rintro ⟨hi, x, hx, hj⟩
    obtain ⟨j, hjg, hxj⟩ := mem_joined.mp hj
    rw [one w hi (hb j hjg) hx hxj]
    exact hjg
  · intro hi
    obtain ⟨x, hx⟩ := w.ne (hb i hi)
    exact ⟨hb i hi, x, hx, mem_joined.mpr ⟨i, hi, hx⟩⟩
theorem met_two {k : Kd} {cs : List Tr} {lot : List Int} (h0 : lot ≠ []) (hs : sub lot (lv (.knot k cs))) (h : ∀ c ∈ cs, ¬ sub lot (lv c)) : 1 < (met cs lot).length := by
  match lot, h0 with
  | x :: r, _ =>
    obtain ⟨i, hi, hx⟩ := mem_lv.mp (hs x List.mem_cons_self)
    have no := h _ (child_mem hi)
    have : ∃ y ∈ x :: r, y ∉ lv (child cs i) := by
      apply Classical.byContradiction
      intro q
      exact no fun y hy => Classical.byContradiction fun hn => q ⟨y, hy, hn⟩
    obtain ⟨y, hy, hyn⟩ := this
    obtain ⟨j, hj, hyj⟩ := mem_lv.mp (hs y hy)
    refine len_two (mem_met.mpr ⟨hi, x, hx, List.mem_cons_self⟩) (mem_met.mpr ⟨hj, y, hyj, hy⟩) fun e => hyn ?_
    rw [e]
    exact hyj
theorem met_lt {cs : List Tr} {lot : List Int} : ∀ i ∈ met cs lot, i < cs.length := fun _ h => (mem_met.mp h).1
/-! ### the theorems -/
theorem place_is : ∀ t : Tr, Wf t → ∀ z ∈ places t, place t z.1 = z.2 := Tr.ind (fun n _ z h => by
    have e : z = ([n], [n], []) := by simpa [places] using h
    rw [e]
    simp [place, least]) fun k cs ih w z h => by
  rcases mem_places.mp h with ⟨c, hc, h⟩ | ⟨g, hg, rfl⟩
  · have hz : z.1 ∈ inn c := List.mem_map.mpr ⟨z, h, rfl⟩
    obtain ⟨h1, h2, _⟩ := inn_lot c (w.child hc) _ hz
    rw [place_in w h1 hc h2]
    exact ih c hc (w.child hc) z h
  · have G := grp_of w.two hg
    show place _ (joined cs g) = _
    rw [place_own (grp_no w G), met_joined w G.sn G.lt]
theorem hull_mem : ∀ t : Tr, Wf t → ∀ lot : List Int, lot ≠ [] → sub lot (lv t) → hull t lot ∈ inn t ∧ sub lot (hull t lot) := Tr.ind (fun n _ lot h0 hs => by
    have e : hull (.leaf n) lot = [n] := by simp [hull, least]
    rw [e, inn_leaf]
    refine ⟨by simp, fun x hx => ?_⟩
    have := hs x hx
    simpa [lv] using this) fun k cs ih w lot h0 hs => by
  by_cases q : ∃ c ∈ cs, sub lot (lv c)
  · obtain ⟨c, hc, hsc⟩ := q
    rw [hull_in w h0 hc hsc]
    obtain ⟨h1, h2⟩ := ih c hc (w.child hc) lot h0 hsc
    exact ⟨mem_inn.mpr (.inl ⟨c, hc, h1⟩), h2⟩
  · have no : ∀ c ∈ cs, ¬ sub lot (lv c) := fun c hc h => q ⟨c, hc, h⟩
    rw [hull_own no]
    have h2 := met_two h0 hs no
    refine ⟨mem_inn.mpr (.inr ⟨_, filled_grp (sn_met _ _) met_lt h2, rfl⟩), fun x hx => ?_⟩
    obtain ⟨i, hi, hxi⟩ := mem_lv.mp (hs x hx)
    exact mem_joined.mpr ⟨i, sub_filled (sn_met _ _) met_lt (mem_met.mpr ⟨hi, x, hxi, hx⟩), hxi⟩
theorem hull_least : ∀ t : Tr, Wf t → ∀ lot : List Int, lot ≠ [] → ∀ L ∈ inn t, sub lot L → sub (hull t lot) L := Tr.ind (fun n _ lot h0 L hL hs => by
    have e : hull (.leaf n) lot = [n] := by simp [hull, least]
    rw [e]
    rw [inn_leaf] at hL
    rw [List.mem_singleton.mp hL]
    exact fun x hx => hx) fun k cs ih w lot h0 L hL hs => by
  have hLs := (inn_lot _ w L hL).2.1
  rcases mem_inn.mp hL with ⟨c, hc, h⟩ | ⟨g, hg, rfl⟩
  · have hLc := (inn_lot c (w.child hc) L h).2.1
    rw [hull_in w h0 hc fun x hx => hLc x (hs x hx)]
    exact ih c hc (w.child hc) lot h0 L h hs
  · have G := grp_of w.two hg
    by_cases q : ∃ c ∈ cs, sub lot (lv c)
    · obtain ⟨c, hc, hsc⟩ := q
      rw [hull_in w h0 hc hsc]
      have hh := (inn_lot c (w.child hc) _ (hull_mem c (w.child hc) lot h0 hsc).1).2.1
      obtain ⟨m, hm, rfl⟩ := mem_child hc
      match lot, h0 with
      | x :: r, _ =>
        obtain ⟨j, hj, hxj⟩ := mem_joined.mp (hs x List.mem_cons_self)
        have e := one w (G.lt j hj) hm hxj (hsc x List.mem_cons_self)
        exact fun y hy => mem_joined.mpr ⟨m, e ▸ hj, hh y hy⟩
    · have no : ∀ c ∈ cs, ¬ sub lot (lv c) := fun c hc h => q ⟨c, hc, h⟩
      rw [hull_own no]
      have h2 := met_two h0 (fun x hx => hLs x (hs x hx)) no
      have hmg : ∀ i ∈ met cs lot, i ∈ g := fun i hi => by
        obtain ⟨hi1, x, hx, hxl⟩ := mem_met.mp hi
        obtain ⟨j, hj, hxj⟩ := mem_joined.mp (hs x hxl)
        rw [one w hi1 (G.lt j hj) hx hxj]
        exact hj
      intro y hy
      obtain ⟨i, hi, hyi⟩ := mem_joined.mp hy
      exact mem_joined.mpr ⟨i, filled_sub G hmg (by intro e; rw [e] at h2; simp at h2) i hi, hyi⟩
theorem hull_fix {t : Tr} (w : Wf t) {L : List Int} (h : L ∈ inn t) : hull t L = L := by
  obtain ⟨h0, hs, h3⟩ := inn_lot t w L h
  obtain ⟨h1, h2⟩ := hull_mem t w L h0 hs
  exact ss_ext (inn_lot t w _ h1).2.2 h3 fun x => ⟨fun hx => hull_least t w L h0 L h (fun _ q => q) x hx, fun hx => h2 x hx⟩
theorem hull_iff {t : Tr} (w : Wf t) {lot : List Int} (h0 : lot ≠ []) (hs : sub lot (lv t)) : hull t lot = lot ↔ lot ∈ inn t :=
  ⟨fun e => e ▸ (hull_mem t w lot h0 hs).1, fun h => hull_fix w h⟩
/-- any shortest inner lot above a lot is its hull -/
theorem hull_short {t : Tr} (w : Wf t) {lot M : List Int} (h0 : lot ≠ []) (hs : sub lot (lv t)) (hM : M ∈ inn t) (hm : sub lot M) (hl : ∀ L ∈ inn t, sub lot L → M.length ≤ L.length) : hull t lot = M := by
  obtain ⟨h1, h2⟩ := hull_mem t w lot h0 hs
  exact ss_sub_eq (inn_lot t w _ h1).2.2 (inn_lot t w _ hM).2.2 (hull_least t w lot h0 M hM hm) (hl _ h1 h2)
end K23
set_option autoImplicit false
namespace K23
/-! ### strong lots, overlaps -/
mutual
def trees : Tr → List Tr
  | .leaf n => [.leaf n]
  | .knot k cs => .knot k cs :: treess cs
def treess : List Tr → List Tr
  | [] => []
  | c :: cs => trees c ++ treess cs
end
theorem mem_treess {z : Tr} : ∀ {cs : List Tr}, z ∈ treess cs ↔ ∃ c ∈ cs, z ∈ trees c
  | [] => by simp [treess]
  | c :: cs => by simp [treess, mem_treess (cs := cs)]
theorem mem_trees {z : Tr} {k : Kd} {cs : List Tr} : z ∈ trees (.knot k cs) ↔ z = .knot k cs ∨ ∃ c ∈ cs, z ∈ trees c := by
  rw [trees, List.mem_cons, mem_treess]
def parts (t : Tr) : List Int := srt (lv t)
def strong (t : Tr) : List (List Int) := (trees t).map parts
theorem mem_parts {t : Tr} {x : Int} : x ∈ parts t ↔ x ∈ lv t := mem_srt
theorem trees_self : ∀ t : Tr, t ∈ trees t
  | .leaf n => by simp [trees]
  | .knot k cs => by simp [trees]
theorem trees_sub : ∀ t : Tr, ∀ z ∈ trees t, sub (lv z) (lv t) := Tr.ind (fun n z h => by
    have e : z = .leaf n := by simpa [trees] using h
    rw [e]
    exact fun x hx => hx) fun k cs ih z h => by
  rcases mem_trees.mp h with rfl | ⟨c, hc, h⟩
  · exact fun x hx => hx
  · intro x hx
    rw [lv_knot]
    exact mem_lvs.mpr ⟨c, hc, ih c hc z h x hx⟩
theorem nest : ∀ t : Tr, Wf t → ∀ z ∈ trees t, ∀ L ∈ inn t, sub (lv z) L ∨ sub L (lv z) ∨ ∀ x ∈ lv z, x ∉ L := Tr.ind (fun n w z h L hL => by
    have e : z = .leaf n := by simpa [trees] using h
    rw [e]
    exact .inr (.inl (inn_lot _ w L hL).2.1)) fun k cs ih w z h L hL => by
  rcases mem_trees.mp h with rfl | ⟨c, hc, h⟩
  · exact .inr (.inl (inn_lot _ w L hL).2.1)
  · have hz := trees_sub c z h
    obtain ⟨i, hi, rfl⟩ := mem_child hc
    rcases mem_inn.mp hL with ⟨d, hd, hLd⟩ | ⟨g, hg, rfl⟩
    · obtain ⟨j, hj, rfl⟩ := mem_child hd
      by_cases e : i = j
      · subst e
        exact ih _ hc (w.child hc) z h L hLd
      · refine .inr (.inr fun x hx hxL => e ?_)
        exact one w hi hj (hz x hx) ((inn_lot _ (w.child hd) L hLd).2.1 x hxL)
    · have G := grp_of w.two hg
      by_cases e : i ∈ g
      · exact .inl fun x hx => mem_joined.mpr ⟨i, e, hz x hx⟩
      · refine .inr (.inr fun x hx hxL => e ?_)
        obtain ⟨j, hj, hxj⟩ := mem_joined.mp hxL
        rw [one w hi (G.lt j hj) (hz x hx) hxj]
        exact hj
def common (a b : List Int) : Nat := (a.filter fun x => decide (x ∈ b)).length
def ovl (a b : List Int) : Prop := 0 < common a b ∧ common a b < min a.length b.length
theorem ovl_no {a b : List Int} (ha : SS a) (hb : SS b) (h : sub a b ∨ sub b a ∨ ∀ x ∈ a, x ∉ b) : ¬ ovl a b := by
  rintro ⟨h1, h2⟩
  rcases h with h | h | h
  · have e : a.filter (fun x => decide (x ∈ b)) = a := List.filter_eq_self.mpr fun x hx => by simpa using h x hx
    unfold common at h2
    rw [e] at h2
    omega
  · have e : a.filter (fun x => decide (x ∈ b)) = b := ss_ext (ha.filter _) hb fun x => by
      rw [List.mem_filter]
      constructor
      · rintro ⟨_, q⟩
        simpa using q
      · intro q
        exact ⟨h x q, by simpa using q⟩
    unfold common at h2
    rw [e] at h2
    omega
  · have e : a.filter (fun x => decide (x ∈ b)) = [] := List.filter_eq_nil_iff.mpr fun x hx => by simpa using h x hx
    unfold common at h1
    rw [e] at h1
    simp at h1
theorem ovl_of {a b : List Int} (ha : SS a) {x y z : Int} (hx : x ∈ a) (hx' : x ∈ b) (hy : y ∈ a) (hy' : y ∉ b) (hz : z ∈ b) (hz' : z ∉ a) : ovl a b := by
  have nf : (a.filter fun x => decide (x ∈ b)).Nodup := ss_nd (ha.filter _)
  have mf : ∀ u, u ∈ a.filter (fun x => decide (x ∈ b)) ↔ u ∈ a ∧ u ∈ b := fun u => by simp [List.mem_filter]
  refine ⟨List.length_pos_of_mem ((mf x).mpr ⟨hx, hx'⟩), ?_⟩
  have h1 := nd_sub_len (a := y :: a.filter fun x => decide (x ∈ b)) (b := a) (List.nodup_cons.mpr ⟨fun q => hy' ((mf y).mp q).2, nf⟩) fun u hu => by
    rcases List.mem_cons.mp hu with e | e
    · rw [e]; exact hy
    · exact ((mf u).mp e).1
  have h2 := nd_sub_len (a := z :: a.filter fun x => decide (x ∈ b)) (b := b) (List.nodup_cons.mpr ⟨fun q => hz' ((mf z).mp q).1, nf⟩) fun u hu => by
    rcases List.mem_cons.mp hu with e | e
    · rw [e]; exact hz
    · exact ((mf u).mp e).2
  simp only [List.length_cons] at h1 h2
  unfold common
  omega
theorem strong_no {t : Tr} (w : Wf t) {S L : List Int} (hS : S ∈ strong t) (hL : L ∈ inn t) : ¬ ovl S L := by
  obtain ⟨z, hz, rfl⟩ := List.mem_map.mp hS
  have nz : (lv z).Nodup := by
    have : ∀ t : Tr, Wf t → ∀ z ∈ trees t, (lv z).Nodup := Tr.ind (fun n w z h => by
        have e : z = .leaf n := by simpa [trees] using h
        rw [e]; exact w.nd) fun k cs ih w z h => by
      rcases mem_trees.mp h with rfl | ⟨c, hc, h⟩
      · exact w.nd
      · exact ih c hc (w.child hc) z h
    exact this t w z hz
  refine ovl_no (srt_ss nz) (inn_lot t w L hL).2.2 ?_
  rcases nest t w z hz L hL with h | h | h
  · exact .inl fun x hx => h x (mem_srt.mp hx)
  · exact .inr (.inl fun x hx => mem_srt.mpr (h x hx))
  · exact .inr (.inr fun x hx => h x (mem_srt.mp hx))
/-! ### crossing lots -/
theorem mem_others {n i : Nat} {g : List Nat} : i ∈ others n g ↔ i < n ∧ i ∉ g := by
  unfold others
  rw [List.mem_filter, List.mem_range]
  simp
theorem others_nil {k : Kd} {n : Nat} {g : List Nat} (G : Grp k n g) : others n g = [] ↔ g = List.range n := by
  constructor
  · intro e
    refine sn_ext G.sn (sn_range n) fun i => ⟨fun h => List.mem_range.mpr (G.lt i h), fun h => ?_⟩
    apply Classical.byContradiction
    intro q
    have : i ∈ others n g := mem_others.mpr ⟨List.mem_range.mp h, q⟩
    rw [e] at this
    exact absurd this (by simp)
  · rintro rfl
    match e : others n (List.range n) with
    | [] => rfl
    | i :: r =>
      have : i ∈ others n (List.range n) := by rw [e]; exact List.mem_cons_self
      obtain ⟨h1, h2⟩ := mem_others.mp this
      exact absurd (List.mem_range.mpr h1) h2
theorem pair_ovl {k : Kd} {cs : List Tr} (w : Wf (.knot k cs)) {g : List Nat} (G : Grp k cs.length g) {a b : Nat} (ha : a ∈ g) (hb : b < cs.length) (hn : b ∉ g) {C : List Int} (hC : ∀ x, x ∈ C ↔ x ∈ lv (child cs a) ∨ x ∈ lv (child cs b)) : ovl (joined cs g) C := by
  obtain ⟨x, hx⟩ := w.ne (G.lt a ha)
  obtain ⟨z, hz⟩ := w.ne hb
  have h0 : g ≠ [] := by intro e; rw [e] at ha; exact absurd ha (by simp)
  have h2 := two_of G.sn G.two
  obtain ⟨c, hc, hca⟩ : ∃ c ∈ g, c ≠ a := by
    by_cases q : hd g = a
    · exact ⟨lst g, lst_mem h0, by omega⟩
    · exact ⟨hd g, hd_mem h0, q⟩
  obtain ⟨y, hy⟩ := w.ne (G.lt c hc)
  refine ovl_of (joined_ss w.nds G.sn G.lt) (x := x) (y := y) (z := z) (mem_joined.mpr ⟨a, ha, hx⟩) ((hC x).mpr (.inl hx)) (mem_joined.mpr ⟨c, hc, hy⟩) (fun q => ?_) ((hC z).mpr (.inr hz)) fun q => ?_
  · rcases (hC y).mp q with q | q
    · exact hca (one w (G.lt c hc) (G.lt a ha) hy q)
    · exact hn (one w (G.lt c hc) hb hy q ▸ hc)
  · obtain ⟨j, hj, hzj⟩ := mem_joined.mp q
    exact hn (one w (G.lt j hj) hb hzj hz ▸ hj)
theorem mem_pair {cs : List Tr} {a b : Nat} {x : Int} : x ∈ joined cs [a, b] ↔ x ∈ lv (child cs a) ∨ x ∈ lv (child cs b) := by
  rw [mem_joined]
  simp
theorem joined_swap (cs : List Tr) (a b : Nat) : joined cs [a, b] = joined cs [b, a] := by
  unfold joined
  refine srt_congr ?_
  simp only [List.flatMap_cons, List.flatMap_nil, List.append_nil]
  exact List.perm_append_comm
theorem pair_stretch {a : Nat} : stretch a (a + 1) = [a, a + 1] := by
  have : a + 1 + 1 - a = 2 := by omega
  unfold stretch
  rw [this]
  rfl
theorem cross1_is {k : Kd} {cs : List Tr} (w : Wf (.knot k cs)) {g : List Nat} (hg : g ∈ groups k cs.length) :
    (g = List.range cs.length ∧ cross1 k cs g = none) ∨ (g ≠ List.range cs.length ∧ ∃ C, cross1 k cs g = some C ∧ (∃ f ∈ groups k cs.length, joined cs f = C) ∧ ovl (joined cs g) C) := by
  have G := grp_of w.two hg
  have h0 : g ≠ [] := by intro e; have := G.two; rw [e] at this; simp at this
  by_cases e : g = List.range cs.length
  · refine .inl ⟨e, ?_⟩
    unfold cross1
    rw [if_pos ((others_nil G).mpr e)]
  · refine .inr ⟨e, ?_⟩
    have ho : others cs.length g ≠ [] := fun q => e ((others_nil G).mp q)
    unfold cross1
    rw [if_neg ho]
    obtain ⟨hb1, hb2⟩ := mem_others.mp (hd_mem ho)
    match k, w, hg, G with
    | .bare, w, hg, G => exact absurd (by simpa [groups] using hg) e
    | .free, w, hg, G =>
      rw [if_pos rfl]
      have ha := hd_mem h0
      refine ⟨_, rfl, ?_, pair_ovl w G ha hb1 hb2 fun x => mem_pair⟩
      rcases Nat.lt_or_gt_of_ne (fun q => hb2 (q ▸ ha) : hd g ≠ hd (others cs.length g)) with q | q
      · exact ⟨_, free_grp (List.pairwise_cons.mpr ⟨by simpa using q, List.pairwise_singleton _ _⟩) (by
          intro i hi
          have hi' : i = hd g ∨ i = hd (others cs.length g) := by simpa using hi
          rcases hi' with rfl | rfl
          · exact G.lt _ ha
          · exact hb1) (by simp), rfl⟩
      · exact ⟨_, free_grp (List.pairwise_cons.mpr ⟨by simpa using q, List.pairwise_singleton _ _⟩) (by
          intro i hi
          have hi' : i = hd (others cs.length g) ∨ i = hd g := by simpa using hi
          rcases hi' with rfl | rfl
          · exact hb1
          · exact G.lt _ ha) (by simp), joined_swap _ _ _⟩
    | .line, w, hg, G =>
      rw [if_neg (by decide)]
      by_cases q : 0 < hd g
      · rw [if_pos q]
        have ha := hd_mem h0
        have hl := G.lt _ ha
        refine ⟨_, rfl, ⟨stretch (hd g - 1) (hd g), stretch_grp (by omega) hl, ?_⟩, ?_⟩
        · have e1 : hd g = (hd g - 1) + 1 := by omega
          rw [show stretch (hd g - 1) (hd g) = [hd g - 1, hd g] from by
            have := pair_stretch (a := hd g - 1)
            rwa [← e1] at this]
        · exact pair_ovl w G ha (b := hd g - 1) (by omega) (fun h => by have := hd_le G.sn _ h; omega) fun x => by rw [mem_pair]; exact Or.comm
      · rw [if_neg q]
        have ha := lst_mem h0
        have hl := G.lt _ ha
        have hfull : lst g + 1 < cs.length := by
          have hx : ¬ hd (others cs.length g) ≤ lst g := fun h => hb2 (by
            have hm : hd (others cs.length g) ∈ filled .line cs.length g := mem_stretch.mpr ⟨by omega, h⟩
            rw [G.fill] at hm
            exact hm)
          omega
        refine ⟨_, rfl, ⟨stretch (lst g) (lst g + 1), stretch_grp (by omega) hfull, by rw [pair_stretch]⟩, ?_⟩
        exact pair_ovl w G ha (b := lst g + 1) hfull (fun h => by have := le_lst G.sn _ h; omega) fun x => mem_pair
theorem joined_all {k : Kd} {cs : List Tr} (w : Wf (.knot k cs)) : joined cs (List.range cs.length) = parts (.knot k cs) := by
  refine ss_ext (joined_ss w.nds (sn_range _) fun i hi => List.mem_range.mp hi) (srt_ss w.nd) fun x => ?_
  rw [mem_joined, mem_parts, mem_lv]
  constructor
  · rintro ⟨i, hi, h⟩
    exact ⟨i, List.mem_range.mp hi, h⟩
  · rintro ⟨i, hi, h⟩
    exact ⟨i, List.mem_range.mpr hi, h⟩
theorem cross_is : ∀ t : Tr, Wf t → ∀ L ∈ inn t, (cross t L = none ∧ L ∈ strong t) ∨ ∃ C, cross t L = some C ∧ C ∈ inn t ∧ ovl L C := Tr.ind (fun n w L hL => by
    rw [inn_leaf] at hL
    rw [List.mem_singleton.mp hL]
    exact .inl ⟨by simp [cross, least], by simp [strong, trees, parts, lv, srt, ins]⟩) fun k cs ih w L hL => by
  rcases mem_inn.mp hL with ⟨c, hc, h⟩ | ⟨g, hg, rfl⟩
  · obtain ⟨h0, hs, _⟩ := inn_lot c (w.child hc) L h
    rw [cross_in w h0 hc hs]
    rcases ih c hc (w.child hc) L h with ⟨h1, h2⟩ | ⟨C, h1, h2, h3⟩
    · obtain ⟨z, hz, e⟩ := List.mem_map.mp h2
      exact .inl ⟨h1, List.mem_map.mpr ⟨z, mem_trees.mpr (.inr ⟨c, hc, hz⟩), e⟩⟩
    · exact .inr ⟨C, h1, mem_inn.mpr (.inl ⟨c, hc, h2⟩), h3⟩
  · have G := grp_of w.two hg
    rw [cross_own (grp_no w G), met_joined w G.sn G.lt]
    rcases cross1_is w hg with ⟨rfl, h2⟩ | ⟨_, C, h2, h3, h4⟩
    · exact .inl ⟨h2, List.mem_map.mpr ⟨_, trees_self _, (joined_all w).symm⟩⟩
    · exact .inr ⟨C, h2, mem_inn.mpr (.inr h3), h4⟩
/-! ### how many strong lots -/
theorem one_of {α : Type} [DecidableEq α] {a : α} : ∀ {l : List α}, l.Nodup → a ∈ l → (l.filter fun x => decide (x = a)).length = 1
  | [], _, h => absurd h (by simp)
  | x :: l, hn, h => by
    have hn' := List.nodup_cons.mp hn
    by_cases e : x = a
    · subst e
      rw [List.filter_cons_of_pos (by simp), List.length_cons]
      have : l.filter (fun y => decide (y = x)) = [] := List.filter_eq_nil_iff.mpr fun y hy => by
        have : y ≠ x := fun e => hn'.1 (e ▸ hy)
        simpa using this
      rw [this]
      rfl
    · rw [List.filter_cons_of_neg (by simpa using e)]
      refine one_of hn'.2 ?_
      rcases List.mem_cons.mp h with q | q
      · exact absurd q.symm e
      · exact q
theorem groups_nd (k : Kd) (n : Nat) : (groups k n).Nodup := by
  match k with
  | .bare => simp [groups]
  | .line => exact (subs_nd n).filter _
  | .free => exact (subs_nd n).filter _
theorem range_grp (k : Kd) {n : Nat} (h : 2 ≤ n) : List.range n ∈ groups k n := by
  match k with
  | .bare => simp [groups]
  | .free => exact free_grp (sn_range n) (fun i hi => List.mem_range.mp hi) (by simp; omega)
  | .line =>
    have e : List.range n = stretch 0 (n - 1) := sn_ext (sn_range n) (sn_stretch _ _) fun i => by
      rw [List.mem_range, mem_stretch]
      omega
    rw [e]
    exact stretch_grp (by omega) (by omega)
def free? (t : Tr) (L : List Int) : Bool := (cross t L).isNone
theorem count_child {k : Kd} {cs : List Tr} (w : Wf (.knot k cs)) (ih : ∀ c ∈ cs, ((inn c).filter (free? c)).length = (trees c).length) : ∀ ds : List Tr, (∀ d ∈ ds, d ∈ cs) →
    (((placess ds).map (·.1)).filter (free? (.knot k cs))).length = (treess ds).length
  | [], _ => by simp [placess, treess]
  | d :: ds, h => by
    have hd := h d List.mem_cons_self
    have e1 := count_child w ih ds fun e he => h e (List.mem_cons_of_mem _ he)
    have e2 : ((places d).map (·.1)).filter (free? (.knot k cs)) = (inn d).filter (free? d) := List.filter_congr fun L hL => by
      obtain ⟨h0, hs, _⟩ := inn_lot d (w.child hd) L hL
      unfold free?
      rw [cross_in w h0 hd hs]
    rw [placess, treess, List.map_append, List.filter_append, List.length_append, List.length_append, e1, e2, ih d hd]
theorem count_is : ∀ t : Tr, Wf t → ((inn t).filter (free? t)).length = (trees t).length := Tr.ind (fun n w => by
    have e : free? (.leaf n) [n] = true := by simp [free?, cross, least]
    rw [inn_leaf, List.filter_cons_of_pos e]
    simp [trees]) fun k cs ih w => by
  have e1 := count_child w (fun c hc => ih c hc (w.child hc)) cs fun d hd => hd
  have e2 : ((groups k cs.length).map fun g => joined cs g).filter (free? (.knot k cs)) = ((groups k cs.length).filter fun g => decide (g = List.range cs.length)).map fun g => joined cs g := by
    rw [List.filter_map]
    congr 1
    refine List.filter_congr fun g hg => ?_
    have G := grp_of w.two hg
    show free? _ (joined cs g) = _
    unfold free?
    rw [cross_own (grp_no w G), met_joined w G.sn G.lt]
    rcases cross1_is w hg with ⟨h1, h2⟩ | ⟨h1, C, h2, _⟩
    · rw [h2, decide_eq_true h1]; rfl
    · rw [h2, decide_eq_false h1]; rfl
  have e3 : inn (.knot k cs) = (placess cs).map (·.1) ++ (groups k cs.length).map fun g => joined cs g := by
    unfold inn
    rw [places, List.map_append, List.map_map]
    rfl
  rw [e3, List.filter_append, List.length_append, e1, e2, List.length_map, one_of (groups_nd _ _) (range_grp _ w.two), trees]
  rfl
end K23
namespace K23
open PySem PySem.Spec PyProof.Rows L2
open AutoSeq1 (wpAny_loadPart')
set_option maxHeartbeats 1000000 in
theorem ext_tup (l b : Addr) (us ws : Array Value) (n m : Nat) (dd : Option Addr) (sl : Array (Option Value)) (h0 : Builtin.List.listTooLong (us.size + ws.size) = false) (h1 : us.size ≤ sizeLine) (h2 : us.size + ws.size ≤ sizeLine + 1) :
    Meets (Builtin.«list.extend» ⟨[.ref l, .ref b], []⟩) (fun _ R s => s.heap.get? l = some { cls := .type "list", dict := none, data := .seq us n, slots := #[] } ∧
      s.heap.get? b = some { cls := .type "tuple", dict := dd, data := .seq ws m, slots := sl } ∧
      R (.ok (.ret Value.none)) { s with heap := s.heap.update l (Obj.mapSeq fun x => x ++ ws), toks := s.toks }) :=
  .of_wp fun prog w A R s h => by
    obtain ⟨hp, g, d, tk, os⟩ := s
    obtain ⟨hl, hb, h⟩ := h
    have f1 := AutoSeq1.sub_tuple_tuple
    have f2 := AutoSeq1.sub_list_list
    have f3 := AutoSeq1.sub_tuple_list
    have f4 := AutoSeq1.sub_list_tuple
    have z : (us ++ ws).size ≤ sizeLine + 1 := by
      rw [Array.size_append]
      exact h2
    have q : ¬ (!us.isEmpty && Builtin.List.listTooLong (us.size + ws.size)) = true := by
      rw [h0, Bool.and_false]
      exact Bool.false_ne_true
    wp_walk using (wpAny_updateSeq hl rfl (hz := h1) (_hz' := z)), wpAny_loadPart' hl, wpAny_loadPart' hb
    exact ⟨_, rfl, h⟩
section
variable {X : Cx}
/-- l.extend(t) for a tuple t -/
def rExtT (K : PySem.W.Frag) : V → List V → Hp → VK → Prop := fun x vs H Q => ∃ l b xs zs, x = .ref l ∧ vs = [.ref b] ∧ H l = some (.lst xs) ∧ SqT K H b zs ∧ xs.length + zs.length ≤ sizeLine ∧ Q .non (upd H l (.lst (xs ++ zs)))
theorem mt_extT : MtM X "list.extend" (rExtT X.K) := by
  intro pins s σ H x vs v us Q I rx rv h
  obtain ⟨l, b, xs, zs, rfl, rfl, hH, hB, hz, q⟩ := h
  cases rx
  obtain ⟨u, rfl, ru⟩ := rv.one
  cases ru
  obtain ⟨z, its, n, r, hl, e⟩ := I.lstM hH
  obtain ⟨ws, r2, ⟨⟨c, dd, dt, sl⟩, e2, hc, m, hd⟩, z2⟩ := I.tuple hB
  simp only at hc hd
  subst hc hd
  have l2 := r2.length
  have hsz : its.toArray.size + ws.toArray.size ≤ sizeLine := by
    rw [List.size_toArray, List.size_toArray]
    omega
  refine call_meets F.slot_list_extend ⟨_, e, rfl⟩ F.entry_list_extend (F.args_list_extend_2 _ _)
    (ext_tup l b its.toArray ws.toArray n m dd sl (notLongL hsz) (by rw [List.size_toArray]; omega) (by omega)) ⟨e, e2, ?_⟩
  refine ⟨.non, _, I.lset (its' := its ++ ws) hH e (by simp) (r.append r2) ?_, rfl, q⟩
  rw [List.length_append]
  omega
end
end K23
/-! enumerate(t) for a tuple t, as what a for walks -/
namespace K23
open PySem PySem.Spec PyProof.Rows L2
open AutoSeq1 (wpAny_loadPart')
set_option maxHeartbeats 1000000 in
theorem enum_newT (t : Addr) (us : Array Value) (n : Nat) (dd : Option Addr) (sl : Array (Option Value)) :
    Meets (Builtin.«enumerate.__new__» ⟨[.type "enumerate", .ref t], []⟩) (fun _ R s => s.heap.get? t = some { cls := .type "tuple", dict := dd, data := .seq us n, slots := sl } ∧
      R (.ok (.ret (.ref (s.heap.push { cls := .type "tuple_iterator", data := .fields #[.ref t, .int 0 0] }).objs.size)))
        { s with heap := (s.heap.push { cls := .type "tuple_iterator", data := .fields #[.ref t, .int 0 0] }).push { cls := .type "enumerate", data := .fields #[.none, .bool false, .ref s.heap.objs.size, rawInt 0, .none, .none] } }) :=
  .of_wp fun prog w A R s h => by
    obtain ⟨hp, g, d, tk, os⟩ := s
    obtain ⟨ht, h⟩ := h
    have f1 := sub_enumerate
    have hT : Heap.IsTuple (Shared.heap ⟨hp, g, d, tk, os⟩) t us := ⟨_, ht, rfl, n, rfl⟩
    wp_walk using wpAny_loadPart' ht
    refine wpAny_stack_any fun st => wpAny_pure ?_
    split
    · rename_i c _ _ _ _ _
      cases (c == Value.type "enumerate") <;> (wp_walk using wpAny_loadPart' ht, wpAny_pyIter_tuple hT) <;> exact ⟨_, rfl, h⟩
    · wp_walk using wpAny_loadPart' ht, wpAny_pyIter_tuple hT
      exact ⟨_, rfl, h⟩
section
variable {prog : Program} {w : World} {A : Around} {E : Value → Shared → Prop} {s : Shared}
theorem call_enumT {t : Addr} {us : Array Value} {Q : Value → Shared → Prop} (hT : IsTup s.heap t us)
    (h : ∀ h', IsEnum h' (s.heap.objs.size + 1) s.heap.objs.size 0 .none → h'.IsTupleIter s.heap.objs.size t 0 → (∀ b o, s.heap.get? b = some o → h'.get? b = some o) → Q (.ref (s.heap.objs.size + 1)) { s with heap := h' }) :
    wpAny (model prog w) A (call (.type "enumerate") [.ref t]) Q E s := by
  obtain ⟨⟨c, dd, dt, sl⟩, ht, hc, n, hd⟩ := hT
  simp only at hc hd
  subst hc hd
  have z : (s.heap.push { cls := .type "tuple_iterator", data := .fields #[.ref t, .int 0 0] }).objs.size = s.heap.objs.size + 1 := Heap.size_push ..
  refine callType_new F.called_enumerate (by decide) (F.typeCall_enumerate_1 _) (F.newCall_enumerate_1 _) (fun obj => F.args_object_init_2 obj _) F.entry_enumerate_new (enum_newT t us n dd sl) ⟨ht, ?_⟩
  show _ ∧ _
  rw [z]
  have e1 : IsEnum ((s.heap.push { cls := .type "tuple_iterator", data := .fields #[.ref t, .int 0 0] }).push
      { cls := .type "enumerate", data := .fields #[.none, .bool false, .ref s.heap.objs.size, rawInt 0, .none, .none] }) (s.heap.objs.size + 1) s.heap.objs.size 0 .none := by
    have q := Heap.get?_push_size (s.heap.push { cls := .type "tuple_iterator", data := .fields #[.ref t, .int 0 0] })
      (o := { cls := .type "enumerate", data := .fields #[.none, .bool false, .ref s.heap.objs.size, rawInt 0, .none, .none] }) rfl
    rw [z] at q
    exact q
  exact ⟨⟨_, e1, rfl⟩, h _ e1 ⟨_, Heap.get?_push_of_some _ (Heap.get?_push_size _ rfl), rfl, rfl⟩ fun b o q => Heap.get?_push_of_some _ (Heap.get?_push_of_some _ q)⟩
end
/-- the tuple at a, each item in a new pair -/
def IteT (K : PySem.W.Frag) (a : Addr) : It :=
  ⟨fun i H => ∃ (xs : List V) (x : V), SqT K H a xs ∧ xs[i]? = some x,
    fun i H v H' => ∃ T x, v = .ref T ∧ H T = none ∧ H' = upd H T (.tup [.int (i : Nat), x]) ∧ ∀ xs, SqT K H a xs → xs[i]? = some x,
    fun i H => ∃ xs : List V, SqT K H a xs ∧ xs.length = i⟩
theorem turn_enumT {P : Program} {w : World} {K : PySem.W.Frag} {elts : List Expr} {kk : Nat} {tpos : Pos} (a e it : Addr) :
    Turn P w K (.Tuple elts kk tpos) (IteT K a) [e, it] e (fun i h => (∃ old, IsEnum h e it ((i : Nat) : Int) old) ∧ h.IsTupleIter it a i ∧ e ≠ it ∧ a ≠ it ∧ e ≠ a) where
  mem := by simp
  obj := fun i h st b hb => by
    obtain ⟨⟨old, he⟩, ⟨o, ho, hc, hd⟩, _⟩ := st
    have q : b = e ∨ b = it := by simpa using hb
    rcases q with rfl | rfl
    · exact ⟨_, he, fun v z => nomatch z⟩
    · exact ⟨o, ho, fun v z => by rw [hd] at z; cases z⟩
  keep := fun i h h' st k => by
    obtain ⟨⟨old, he⟩, hi, hne⟩ := st
    exact ⟨⟨old, k e (by simp) _ he⟩, hi.at fun o q => k it (by simp) o q, hne⟩
  item := by
    intro X hP hw hK hc i pins s σ H E I hf st hg
    subst hP hw hK
    obtain ⟨⟨old, he⟩, hit, hne, hat, hea⟩ := st
    obtain ⟨xs, x, hq, hx⟩ := hg
    obtain ⟨its, rv, p, hz⟩ := I.tuple hq
    obtain ⟨u, hu, ru⟩ := rv.get hx
    have hel : e < s.heap.objs.size := Heap.lt_size he
    have hil : it < s.heap.objs.size := by
      obtain ⟨_, q, _⟩ := hit
      exact Heap.lt_size q
    have hlt : i < its.toArray.size := by
      have := (List.getElem?_eq_some_iff.mp hu).1
      simpa using this
    have D : Draws X.prog X.w X.A.in1 it [it, a] its.toArray.size (fun i v => its.toArray[i]? = some v) (fun i h => h.IsTupleIter it a i ∧ h.IsTuple a its.toArray) :=
      Draws.tuple (show X.A.in1.handled = none from I.ok.hd hc) it a hat its.toArray
    refine wpAny_pyNext_enum_itemC D he ⟨hit, p⟩ hlt hne (by simp; exact ⟨hne, hea⟩) fun x' h' tk hP ho hst hT hsz hk => ?_
    have ex : x' = u := by
      have h1 : its.toArray[i]? = some x' := hP
      have h2 : its.toArray[i]? = some u := by simpa using hu
      rw [h1] at h2
      exact Option.some.inj h2
    subst ex
    refine ⟨_, rfl, wpAny_letOwnedTupleGo_enum (s := { s with heap := h', toks := tk + 1 }) ho fun h'' he' sb => ?_⟩
    have hT2 : h''.get? s.heap.objs.size = some { cls := .type "tuple", data := .seq #[.int i tk, x'] } := (sb.2 _ (Nat.ne_of_gt hel)).trans hT
    have new : ObjOk X.prog X.w (upd H s.heap.objs.size (.tup [.int (i : Nat), x])) h'' s.heap.objs.size (.tup [.int (i : Nat), x]) :=
      ⟨by show 2 ≤ sizeLine; decide, [.int i tk, x'], .cons ⟨_, rfl⟩ (.cons ru .nil), ⟨_, hT2, rfl, _, rfl⟩⟩
    have I1 : Inv X pins σ (upd H s.heap.objs.size (.tup [.int (i : Nat), x])) { s with heap := h'', toks := tk + 1 } := by
      refine I.turnedNew (ch := [e, it]) (fun b ob hb q => ?_) hf (Nat.le_refl _) new
      have n1 : b ≠ e := fun z => hb (by simp [z])
      have n2 : b ≠ it := fun z => hb (by simp [z])
      exact (sb.2 b n1).trans (hk b ob n1 n2 q)
    refine ⟨.ref s.heap.objs.size, _, I1, rfl, ⟨_, x, rfl, I.hok.fresh (Nat.le_refl _), rfl, fun ys hy => by rw [I.tuple_inj hy hq]; exact hx⟩, ⟨⟨x', ?_⟩, hst.1.at fun o q => (sb.2 it (Ne.symm hne)).trans q, hne, hat, hea⟩, fun b hb => ?_⟩
    · have e1 : ((i + 1 : Nat) : Int) = (i : Int) + 1 := by omega
      rw [e1]
      exact he'
    · have hb' : b < s.heap.objs.size := by
        have q : b = e ∨ b = it := by simpa using hb
        rcases q with rfl | rfl
        · exact hel
        · exact hil
      rw [upd_ne (Nat.ne_of_lt hb')]
      exact (hf b hb).1
  done := by
    intro X hP hw hK hc i pins s σ H E I hf st hg
    subst hP hw hK
    obtain ⟨⟨old, he⟩, hit, hne, hat, hea⟩ := st
    obtain ⟨xs, hq, hx⟩ := hg
    obtain ⟨its, rv, p, hz⟩ := I.tuple hq
    obtain ⟨f0, f1, f2, f3, f4, f5⟩ := hf it (by simp)
    have hl := rv.length
    have D : Draws X.prog X.w X.A.in1 it [it, a] its.toArray.size (fun i v => its.toArray[i]? = some v) (fun i h => h.IsTupleIter it a i ∧ h.IsTuple a its.toArray) :=
      Draws.tuple (show X.A.in1.handled = none from I.ok.hd hc) it a hat its.toArray
    have hi : i = its.toArray.size := by
      rw [List.size_toArray]
      omega
    subst hi
    exact wpAny_pyNext_enum_endD D he ⟨hit, p⟩ fun h' eb => ⟨rfl, I.turned (t' := s.toks) (fun b o hb q => eb b o hb q) f0 f1 f3 f4 f5⟩
  self := fun A i s Q E st h => by
    obtain ⟨⟨_, he⟩, _⟩ := st
    exact wpAny_pyIter_enum he h
def iEnumT (K : PySem.W.Frag) (ta : TA) : TI := fun σ H R => ta σ H fun vs H1 => ∃ a xs, vs = [.ref a] ∧ SqT K H1 a xs ∧ R (IteT K a) H1
theorem pi_enumT {X : Cx} {e : Expr} {ta : TA} {p pos tpos : Pos} {elts : List Expr} {kk : Nat} (hg : Gl X "enumerate") (hm : X.mg "enumerate" = none) (ha : PA X [e] ta) (hs : starEach [e] X.env = [(false, eval e X.env)] := by rfl) :
    PI X (.Tuple elts kk tpos) (.Call (.Name "enumerate" p) [e] [] pos) (iEnumT X.K ta) := by
  refine ⟨fun pins s σ H R I h => ?_⟩
  refine Call_ (ld_blt I hg hm boot_enumerate (PyProof.Rows.callWith_type1 (thn (ha.run pos pins s σ H _ I h) fun us s1 ⟨vs, H1, I1, r1, q1⟩ => ?_) hs rfl))
  obtain ⟨a, xs, rfl, hq, q⟩ := q1
  obtain ⟨u, rfl, ru⟩ := r1.one
  cases ru
  obtain ⟨its, rv, p', hz⟩ := I1.tuple hq
  have hal : a < s1.heap.objs.size := by
    obtain ⟨o, ho, _⟩ := id p'
    exact Heap.lt_size ho
  refine call_enumT p' fun h' he hit hk => wpAny_pyIter_enum he ?_
  have I2 : Inv X pins σ H1 { s1 with heap := h' } := I1.kept (t' := s1.toks) hk
  refine ⟨s1.heap.objs.size + 1, [s1.heap.objs.size + 1, s1.heap.objs.size], _, _, H1, rfl, I2, turn_enumT a (s1.heap.objs.size + 1) s1.heap.objs.size, ⟨⟨.none, he⟩, hit, Nat.succ_ne_self _, Nat.ne_of_lt hal, ?_⟩, fun b hb => ?_, q⟩
  · exact Nat.ne_of_gt (Nat.lt_succ_of_lt hal)
  · have hle : s1.heap.objs.size ≤ b := by
      have z : b = s1.heap.objs.size + 1 ∨ b = s1.heap.objs.size := by simpa using hb
      rcases z with rfl | rfl
      · exact Nat.le_succ _
      · exact Nat.le_refl _
    exact I1.fpOk hle (I1.hok.fresh hle)
theorem walk_enumT {K : PySem.W.Frag} {a : Addr} {xs : List V} : Walk (IteT K a) xs.length (fun H => SqT K H a xs) (YPair (fun i => some (.int (i : Nat))) (fun i => xs[i]?)) := by
  refine ⟨fun i _ hi q => ⟨xs, xs[i], q, by simp [hi]⟩, fun _ q => ⟨xs, q, rfl⟩, fun i H v H' _ q y => ?_⟩
  obtain ⟨T, x, h1, h2, h3, h4⟩ := y
  exact ⟨T, .int (i : Nat), x, h1, h2, h3, rfl, h4 xs q⟩
end K23
/-! sorted(l) for a list of tuples of ints of any lengths -/
namespace K23
open PySem PySem.Spec PyProof.Rows L2
/-- the value is a tuple of these ints -/
def IsTI (h : Heap) (v : Value) (ns : List Int) : Prop := ∃ t its, v = .ref t ∧ IsTup h t its ∧ IntsAre its.toList ns
section
variable {prog : Program} {w : World} {A : Around} {E : Value → Shared → Prop} {s : Shared}
theorem lex_go {fin : Bool} {Q : Bool → Shared → Prop} : ∀ (xs ys : List Int) (i : Nat) (vs ws : List Value), IntsAre vs xs → IntsAre ws ys → fin = decide (xs.length < ys.length) → Q (HT.lexLt xs ys) s →
    PySem.W.KatLex prog w A true fin Q (vs.zip ws) i s
  | [], [], i, _, _, .nil, .nil, hf, h => by
    subst hf
    exact PySem.W.kat_nil h
  | [], y :: ys, i, _, _, .nil, .cons _ _ _, hf, h => by
    subst hf
    refine PySem.W.kat_nil (?_ : Q _ s)
    have e : decide (([] : List Int).length < (y :: ys).length) = true := decide_eq_true (Nat.succ_pos _)
    rw [e]
    exact h
  | x :: xs, [], i, _, _, .cons _ _ _, .nil, hf, h => by
    subst hf
    refine PySem.W.kat_nil (?_ : Q _ s)
    have e : decide ((x :: xs).length < ([] : List Int).length) = false := decide_eq_false (Nat.not_lt_zero _)
    rw [e]
    exact h
  | x :: xs, y :: ys, i, _, _, .cons _ t ha, .cons _ u hb, hf, h => by
    rw [HT.lexLt_cons] at h
    refine PySem.W.kat_cons (SeqAt.EqAt.int_int x t y u prog w _ _ ?_)
    refine PySem.W.kat_go (fun e => ?_) (fun e => ?_)
    · have q : x = y := by simpa using e
      rw [if_pos q] at h
      exact PySem.W.kat_yes (lex_go xs ys (i + 1) _ _ ha hb (by rw [hf]; simp) h)
    · have q : ¬ x = y := by simpa using e
      rw [if_neg q] at h
      exact PySem.W.kat_no (oneLt_any_int h)
theorem lt_tups {v u : Value} {ns ms : List Int} {Q : Bool → Shared → Prop} (hv : IsTI s.heap v ns) (hu : IsTI s.heap u ms) (h : Q (HT.lexLt ns ms) s) : wpAny (model prog w) A (keyLt' (tuples' true) v u) Q E s := by
  obtain ⟨a, xs, rfl, ⟨o, ho, hc, n, hd⟩, ia⟩ := hv
  obtain ⟨b, ys, rfl, ⟨o', ho', hc', n', hd'⟩, ib⟩ := hu
  refine PySem.W.kat_lt ho hd ho' hd' (lex_go ns ms 0 _ _ ia ib ?_ h)
  have l1 := ia.length
  have l2 := ib.length
  rw [Array.length_toList] at l1 l2
  rw [l1, l2]
theorem lt_one {v u : Value} {ns ms : List Int} {Q : Bool → Shared → Prop} (hr : A.units < cLine) (hv : IsTI s.heap v ns) (hu : IsTI s.heap u ms) (h : Q (HT.lexLt ns ms) s) : wpAny (model prog w) A (keyLt' oneType' v u) Q E s := by
  obtain ⟨a, xs, rfl, ⟨⟨c, dd, dt, sl⟩, ho, hc, n, hd⟩, ia⟩ := hv
  obtain ⟨b, ys, rfl, ⟨⟨c', dd', dt', sl'⟩, ho', hc', n', hd'⟩, ib⟩ := hu
  simp only at hc hd hc' hd'
  subst hc hd hc' hd'
  rw [keyLt'_oneType, oneLt'_eq]
  simp only [if_true]
  refine wpAny_bind (wpAny_cRoomFor hr ?_)
  refine wpAny_bind (wpAny_callSpecialIfBound?_slot (T := "tuple") ⟨_, ho, rfl⟩ F.slot_tuple_lt (call_meets F.slot_tuple_lt ⟨_, ho, rfl⟩ F.entry_tuple_lt (F.args_tuple_lt_2 _ _)
    (HT.tuple_lt_ints a b xs ys n n' dd dd' sl sl' ns ms ia ib) ⟨ho, ho', ?_⟩))
  exact wpAny_truthy_bool h
theorem paired_left {α β : Type} {F : α → β → Prop} : ∀ {l : List α} {m : List β}, Paired F l m → ∀ a ∈ l, ∃ b, F a b
  | _, _, .nil, a, h => absurd h (by simp)
  | _, _, .cons (b := b) h t, a, ha => by
    rcases List.mem_cons.mp ha with e | e
    · exact ⟨b, e ▸ h⟩
    · exact paired_left t a e
/-- the first items of tuples -/
theorem firsts {M : Model} : ∀ (vs : List Value) (nss : List (List Int)) {Q : List (Option Value) → Shared → Prop}, Paired (IsTI s.heap) vs nss →
    (∀ fs : List (Option Value), fs.length = nss.length → (∀ i : Nat, (fs[i]?.bind id).isSome = (nss[i]?.bind List.head?).isSome) → Q fs s) → wpAny M A (vs.mapM firstOfTuple') Q E s
  | [], [], Q, .nil, h => by
    rw [List.mapM_nil]
    exact wpAny_pure (h [] rfl fun i => rfl)
  | v :: vs, ns :: nss, Q, .cons hv t, h => by
    obtain ⟨a, xs, rfl, ⟨o, ho, hc, n, hd⟩, ia⟩ := hv
    rw [List.mapM_cons]
    refine wpAny_bind ?_
    rw [PySem.W.kas_first_eq]
    refine wpAny_bind (PySem.W.Looks.here (show PySem.W.Looks M s.heap (typeOf (.ref a)) o.cls from (PySem.W.Looks.ld ho).andThen .now) ?_)
    rw [hc, if_neg (by first | decide | simp)]
    refine wpAny_bind (listItems_at ho hd (wpAny_pure ?_))
    refine wpAny_bind (firsts vs nss t fun fs hl hh => wpAny_pure (h _ (by simp [hl]) fun i => ?_))
    match i with
    | 0 =>
      have : xs[0]?.isSome = ns.head?.isSome := by
        rw [← Array.getElem?_toList]
        generalize xs.toList = l at ia
        cases ia with
        | nil => rfl
        | cons k u r => rfl
      simpa using this
    | i + 1 => simpa using hh i
theorem kind_one {M : Model} {v : Value} {vs : List Value} {nss : List (List Int)} {Q : SortKind → Shared → Prop} (hp : Paired (IsTI s.heap) (v :: vs) ([] :: nss)) (h : Q oneType' s) : wpAny M A (keyKind' (v :: vs).toArray) Q E s := by
  rw [keyKind'_eq, List.mapM_toArray, map_eq_pure_bind]
  refine wpAny_bind (wpAny_bind (firsts _ _ hp fun fs hl hh => wpAny_pure ?_))
  have h0 := hh 0
  match fs, hl with
  | f :: fs, _ =>
    have e0 : f = none := by
      cases f with
      | none => rfl
      | some y => simp at h0
    subst e0
    rw [if_neg (by simp), if_neg (by simp)]
    rw [oneTypeOnly'_eq, List.mapM_toArray, map_eq_pure_bind]
    refine wpAny_bind (wpAny_bind (wpAny_bind (PySem.W.kas_mapM (r := Value.type "tuple") _ (fun u hu Q' hq => ?_) (wpAny_pure ?_))))
    · obtain ⟨ns, t, its, rfl, ⟨o, ho, hc, _⟩, _⟩ := paired_left hp u hu
      have q := PySem.W.Looks.here (M := M) (A := A) (E := E) (Q := Q') (show PySem.W.Looks M s.heap (typeOf (.ref t)) o.cls from (PySem.W.Looks.ld ho).andThen .now)
      rw [hc] at q
      exact q hq
    · have ha : ((List.map (fun _ => Value.type "tuple") (v :: vs)).toArray.all fun x => x == Value.type "tuple") = true := by
        simp only [List.all_toArray, List.all_map, List.all_eq_true]
        intro _ _
        rfl
      have hz : (List.map (fun _ => Value.type "tuple") (v :: vs)).toArray[0]? = some (Value.type "tuple") := by simp
      rw [hz]
      simp only [ha, if_true]
      exact wpAny_pure (wpAny_pure h)
/-- two tuples, or a list whose first one is empty, or all with items -/
theorem ti_keeps {h h' : Heap} {v : Value} {ns : List Int} (hv : IsTI h v ns) (k : ∀ b o, h.get? b = some o → o.cls = .type "tuple" → h'.get? b = some o) : IsTI h' v ns := by
  obtain ⟨t, its, e, ⟨o, ho, hc, d⟩, i⟩ := hv
  exact ⟨t, its, e, ⟨o, k t o ho hc, hc, d⟩, i⟩
theorem paired_map {α β : Type} {F : α → β → Prop} (f : α → β) : ∀ {l : List α}, (∀ a ∈ l, F a (f a)) → Paired F l (l.map f)
  | [], _ => .nil
  | a :: l, h => .cons (h a List.mem_cons_self) (paired_map f fun b hb => h b (List.mem_cons_of_mem _ hb))
theorem katTups_of {h : Heap} : ∀ {vs : List Value} {k : Value → List Int}, (∀ v ∈ vs, IsTI h v (k v)) → (∀ v ∈ vs, k v ≠ []) → ∃ fs, PySem.W.KatTups h vs fs ∧ fs.length = vs.length ∧ ∀ f ∈ fs, ∃ n t, f = Value.int n t
  | [], _, _, _ => ⟨[], PySem.W.KatTups.nil, rfl, fun f hf => absurd hf (by simp)⟩
  | v :: vs, k, hv, hn => by
    obtain ⟨fs, h1, h2, h3⟩ := katTups_of (vs := vs) (k := k) (fun u hu => hv u (List.mem_cons_of_mem _ hu)) fun u hu => hn u (List.mem_cons_of_mem _ hu)
    have n0 := hn v List.mem_cons_self
    obtain ⟨t, its, e, ⟨o, ho, hc, n, hd⟩, i⟩ := hv v List.mem_cons_self
    subst e
    have : ∃ f, its[0]? = some f ∧ ∃ n t, f = Value.int n t := by
      rw [← Array.getElem?_toList]
      generalize its.toList = l at i
      generalize k (Value.ref t) = ns at i n0
      cases i with
      | nil => exact absurd rfl n0
      | cons m u r => exact ⟨_, rfl, m, u, rfl⟩
    obtain ⟨f, hf, hi⟩ := this
    refine ⟨f :: fs, PySem.W.KatTups.cons ho hc hd hf h1, by simp [h2], fun g hg => ?_⟩
    rcases List.mem_cons.mp hg with rfl | hg
    · exact hi
    · exact h3 g hg
theorem ti_sortable {a : Addr} {vs : List Value} {k : Value → List Int} (h2 : 2 ≤ vs.length) (hr : A.units < cLine) (hv : ∀ v ∈ vs, IsTI s.heap v (k v)) (hk : (∀ v ∈ vs, k v ≠ []) ∨ ∃ v r, vs = v :: r ∧ k v = [])
    (ha : ∀ o, s.heap.get? a = some o → o.cls ≠ .type "tuple") : SrtO.SortableO prog w A s a vs fun v u => HT.lexLt (k v) (k u) := by
  intro h' keep
  have hv' : ∀ v ∈ vs, IsTI h' v (k v) := fun v hm => ti_keeps (hv v hm) fun b o e c => keep b o (fun z => by subst z; exact ha o e c) e
  rcases hk with hk | ⟨v, r, e, hk⟩
  · obtain ⟨fs, h3, h4, h5⟩ := katTups_of hv' hk
    refine ⟨tuples' true, fun Q E hq => ?_, fun p q hp hq => lt_tups (s := { s with heap := h' }) (Q := fun r s' => s' = { s with heap := h' } ∧ r = HT.lexLt (k p.1) (k q.1)) (hv' _ hp) (hv' _ hq) ⟨rfl, rfl⟩⟩
    refine PySem.W.kat_kind (T := .type "int") h3 (by omega) (fun f hm => ?_) (by rfl) ?_
    · obtain ⟨n, t, rfl⟩ := h5 f hm
      exact PySem.W.Looks.now
    · have z : (Value.type "int" != Value.type "tuple") = true := by first | decide +kernel | rfl | decide
      rw [z]
      exact hq
  · subst e
    refine ⟨oneType', fun Q E hq => ?_, fun p q hp hq => lt_one (s := { s with heap := h' }) (Q := fun r s' => s' = { s with heap := h' } ∧ r = HT.lexLt (k p.1) (k q.1)) hr (hv' _ hp) (hv' _ hq) ⟨rfl, rfl⟩⟩
    have q := paired_map k hv'
    rw [List.map_cons, hk] at q
    exact kind_one (s := { s with heap := h' }) q hq
end
/-- sorted(xs), xs a list of tuples of ints (k says which), all with items or the first without -/
def rSortTI (K : PySem.W.Frag) : List V → Hp → VK → Prop := fun vs H Q => ∃ (a : Addr) (xs : List V) (k : V → List Int), vs = [V.ref a] ∧ SqL K H a xs ∧ (∀ x ∈ xs, ∃ t, x = V.ref t ∧ SqT K H t ((k x).map V.int)) ∧
  ((∀ x ∈ xs, k x ≠ []) ∨ ∃ x r, xs = x :: r ∧ k x = []) ∧ ∀ ys p, ys.Perm xs → ys.Pairwise (fun x y => HT.lexLt (k y) (k x) = false) → H p = none → Q (.ref p) (upd H p (.lst ys))
theorem cr_sortTI {X : Cx} (hr : X.A.in1.in1.units < cLine) : CallR X (.builtin "sorted") (rSortTI X.K) := by
  intro pins s σ H vs us Q I r h
  obtain ⟨a, xs, k, rfl, hs, hx, hn, q⟩ := h
  obtain ⟨its, rv, hl, hz⟩ := I.list hs
  obtain ⟨u, rfl, ru⟩ := vals1 r
  obtain rfl : u = Value.ref a := ru
  obtain ⟨e1, e2⟩ := refs_back rv fun x m => by
    obtain ⟨t, e, _⟩ := hx x m
    exact ⟨t, e⟩
  have hti : ∀ v ∈ its, IsTI s.heap v (k (backV v)) := fun v hv => by
    obtain ⟨t, rfl⟩ := e2 v hv
    have hm : V.ref t ∈ xs := by
      rw [e1]
      exact List.mem_map.mpr ⟨_, hv, rfl⟩
    obtain ⟨t', e, ht⟩ := hx _ hm
    cases e
    obtain ⟨ws, r2, p, _⟩ := I.tuple ht
    exact ⟨t, ws.toArray, rfl, p, by have z := L2.intsAre_of r2; show IntsAre ws.toArray.toList (k (V.ref t)); simpa using z⟩
  have hne : (∀ v ∈ its, k (backV v) ≠ []) ∨ ∃ v r, its = v :: r ∧ k (backV v) = [] := by
    rcases hn with hn | ⟨x, r, e, hk⟩
    · exact .inl fun v hv => hn _ (by rw [e1]; exact List.mem_map.mpr ⟨_, hv, rfl⟩)
    · cases its with
      | nil => rw [e1] at e; simp at e
      | cons v r2 =>
        rw [e1, List.map_cons] at e
        have e3 := (List.cons.inj e).1
        exact .inr ⟨v, r2, rfl, by rw [e3]; exact hk⟩
  refine SrtO.sorted_ord (NtL.swo_lexL fun v => k (backV v)) hl.isList (by rw [← rv.length]; exact hz) (fun h2 h₁ a' ha kk => ?_) fun out hso hst => ?_
  · refine ti_sortable (s := { s with heap := h₁ }) h2 hr (fun v hv => ti_keeps (hti v hv) fun b o e _ => (kk b o e).2) hne fun o e => ?_
    have e' : some o = some (seqObj "list" its.toArray 0) := e.symm.trans ha
    cases e'
    intro c
    exact absurd (Value.type.inj c) (by decide)
  · have h3 : ∀ u ∈ out, ∃ a, u = Value.ref a := fun u hu => e2 u (hst.perm.mem_iff.mp hu)
    obtain ⟨n, hn'⟩ := PyProof.Rows.sortedAll_at s.heap its out.toArray
    have hb : (out.map backV).Perm xs := by
      rw [e1]
      exact hst.perm.map _
    refine ⟨.ref _, upd H (s.heap.objs.size + 1) (.lst (out.map backV)), I.laid (t' := s.toks) (fun _ _ e => PyProof.Rows.sortedAll_old e) (Nat.le_succ _) ⟨?_, out, n, vals_back h3, hn'⟩, rfl, q _ _ hb ?_ (I.hok.fresh (Nat.le_succ _))⟩
    · rw [hb.length_eq]
      exact hz
    · rw [List.pairwise_map]
      exact hso
end K23
/-! sorted(l, key=len) -/
namespace K23
open PySem PySem.Spec PyProof.Rows L2
theorem each_vals : ∀ {xs : List V} {us : List Value}, Vals xs us → PySem.W.EachIs (fun (v : Value) (x : V) => RelV x v) us xs
  | _, _, .nil => .nil
  | _, _, .cons r t => .cons r (each_vals t)
theorem vals_each : ∀ {us : List Value} {xs : List V}, PySem.W.EachIs (fun (v : Value) (x : V) => RelV x v) us xs → Vals xs us
  | _, _, .nil => .nil
  | _, _, .cons r t => .cons r (vals_each t)
/-- sorted(xs, key=len): some arrangement by the lengths k -/
def tSortLen (K : PySem.W.Frag) (t : TA) : TE := fun σ H Q => t σ H fun vs H1 => ∃ (a : Addr) (xs : List V) (k : V → Nat), vs = [V.ref a] ∧ SqL K H1 a xs ∧ (∀ x ∈ xs, ∃ b ns, x = V.ref b ∧ SqT K H1 b ns ∧ ns.length = k x) ∧
  ∀ ys p, ys.Perm xs → ys.Pairwise (fun x y => k x ≤ k y) → H1 p = none → Q (.ref p) (upd H1 p (.lst ys))
theorem key_fields (a : Addr) : Builtin.«list.sort» ⟨[.ref a], [(Str.ofString "key", .builtin "len")]⟩ = ksk_tree a (.builtin "len") false := ksk_t4 "len" a
theorem pe_sortLen {X : Cx} {e : Expr} {t : TA} {p lp kpos pos : Pos} (hg : Gl X "sorted") (hm : X.mg "sorted" = none) (hgl : Gl X "len") (hml : X.mg "len" = none) (hr : X.A.units + 66 < cLine) (ha : PA X [e] t)
    (he : backTo pos (starEach [e] X.env) = (false, eval e X.env) :: backTo pos (starEach [] X.env) := by rfl) (hpl : (backTo pos (starEach [e] X.env)).any (·.1) = false := by rfl) :
    PE X (.Call (.Name "sorted" p) [e] [⟨some "key", .Name "len" lp, kpos⟩] pos) (tSortLen X.K t) := by
  refine ⟨fun pins s σ H Q I h => ?_⟩
  refine wpAny_Call_Name_kw (ld_blt I hg hm boot_sorted ?_)
  refine PyProof.Rows.callWith_kw (thn (ha.run pos pins s σ H _ I h) fun us s1 ⟨vs, H1, I1, r1, q1⟩ => ?_) he hpl rfl rfl
  refine wpAny_evalAll_cons (wpAny_bind (ld_blt I1 hgl hml PySem.boot_len (wpAny_bind (wpAny_standAt (wpAny_pure (wpAny_evalAll_nil ?_))))))
  obtain ⟨a, xs, k, rfl, hs, hx, q⟩ := q1
  obtain ⟨u, rfl, ru⟩ := vals1 r1
  obtain rfl : u = Value.ref a := ru
  obtain ⟨its, rv, hl, hz⟩ := I1.list hs
  show wpAny (model X.prog X.w) X.A (call (.builtin "sorted") [.ref a] [(Str.ofString "key", .builtin "len")]) (EP X pins σ Q) X.xe s1
  have hl63 := line63
  refine PySem.W.sorted_key_data (b := false) (fun x : V => PyData.int (k x)) hl.isList (each_vals rv) (PySem.W.AllAlike.of fun _ _ => by simp [PySem.W.alike]) (PySem.W.Sortable.others fun _ => ⟨by simp, by simp⟩) hz
    (fun x _ => by simp only [PyData.depth]; show X.A.units + 2 + 0 < cLine; omega) (ksk_s1 _ _) (fun _ => ksk_l1 _ _) key_fields (fun v x hR hx' h' tk keep => ?_) fun out c h' tk keep fr at_ hlen each => ?_
  · obtain ⟨b, ns, rfl, hb, hk⟩ := hx x hx'
    obtain rfl : v = Value.ref b := hR
    obtain ⟨ws, r2, pb, z2⟩ := I1.tuple hb
    have pb' : IsTup h' b ws.toArray := by
      obtain ⟨o, ho, r⟩ := pb
      exact ⟨o, keep b o ho, r⟩
    have l2 := r2.length
    refine len_tuple (s := { s1 with heap := h', toks := tk }) pb' (by simp only [List.size_toArray] <;> omega) ?_
    refine ⟨h', _, rfl, fun _ _ e => e, ?_⟩
    have e : ((ws.toArray.size : Nat) : Int) = ((k (V.ref b) : Nat) : Int) := by
      rw [List.size_toArray, ← l2, hk]
    rw [e]
    exact Reads.int _ _
  · have r2 := vals_each each
    have pm : (xs.mergeSort (PySem.W.dataLe false fun x : V => PyData.int (k x))).Perm xs := List.mergeSort_perm _ _
    refine ⟨.ref _, upd H1 (s1.heap.objs.size + 1) (.lst _), I1.laid (t' := tk) keep (Nat.le_succ _) ⟨?_, out, c, r2, at_⟩, rfl, q _ _ pm ?_ (I1.hok.fresh (Nat.le_succ _))⟩
    · rw [pm.length_eq]
      exact hz
    · rw [PySem.W.dataLe_int (fun x : V => ((k x : Nat) : Int))]
      refine (List.pairwise_mergeSort (le := fun a b : V => decide (((k a : Nat) : Int) ≤ ((k b : Nat) : Int))) (fun a b c h1 h2 => ?_) (fun a b => ?_) xs).imp fun h => ?_
      · simp at *
        omega
      · simp
        omega
      · simpa using h
end K23
namespace K23
open PySem PySem.Spec PyProof.Rows L2
def ixTop (i : Nat) : Nat := [0, 8, 10, 14, 15, 4, 9, 11, 12, 13, 16, 2, 7, 1, 18, 19, 20, 21, 22, 23, 24, 25, 26, 27, 28, 29, 30, 31].getD i 0
abbrev sU : Stmt := PySem.Challenge.pw_oncetested_k23_shapes_and_what_is_none.main.body.getD 5 (.Pass ⟨0, 0, 0, 0⟩)
def top (i : Nat) : Stmt := PySem.Challenge.pw_oncetested_k23_shapes_and_what_is_none.main.body.getD (ixTop i) (.Pass ⟨0, 0, 0, 0⟩)
/-! ### data in the heap: ints, texts, tuples of them -/
mutual
inductive Dt (H : Hp) : V → PyData → Prop
  | int (i : Int) : Dt H (.int i) (.int i)
  | str (x : Str) : Dt H (.str x) (.str x)
  | non : Dt H .non .none
  | tup {a : Addr} {xs : List V} {ds : List PyData} : H a = some (.tup xs) → Dts H xs ds → Dt H (.ref a) (.tuple ds)
inductive Dts (H : Hp) : List V → List PyData → Prop
  | nil : Dts H [] []
  | cons {v : V} {vs : List V} {d : PyData} {ds : List PyData} : Dt H v d → Dts H vs ds → Dts H (v :: vs) (d :: ds)
end
mutual
theorem Dt.dp {K : PySem.W.Frag} {H : Hp} : ∀ {v : V} {d : PyData}, Dt H v d → Dp K H v d
  | _, _, .int i => .int i
  | _, _, .str x => .str x
  | _, _, .non => .non
  | _, _, .tup h t => .tup (SqT.of h) t.dp
theorem Dts.dp {K : PySem.W.Frag} {H : Hp} : ∀ {vs : List V} {ds : List PyData}, Dts H vs ds → DpAll K H vs ds
  | _, _, .nil => .nil
  | _, _, .cons h t => .cons h.dp t.dp
end
/-- all but lists and tables is as it was -/
def Kp (H H' : Hp) : Prop := ∀ b o, H b = some o → (∀ xs, o ≠ .lst xs) → (∀ ps, o ≠ .tbl ps) → H' b = some o
theorem kpS {H H' : Hp} (s : Same H H') : Kp H H' := fun b o e _ _ => s b o e
theorem Kp.refl (H : Hp) : Kp H H := fun _ _ e _ _ => e
theorem Kp.trans {H H1 H2 : Hp} (a : Kp H H1) (b : Kp H1 H2) : Kp H H2 := fun c o e n m => b c o (a c o e n m) n m
theorem Kp.tup {H H' : Hp} (k : Kp H H') {a : Addr} {xs : List V} (h : H a = some (.tup xs)) : H' a = some (.tup xs) := k a _ h (fun _ z => by cases z) (fun _ z => by cases z)
mutual
theorem Dt.kp {H H' : Hp} (k : Kp H H') : ∀ {v : V} {d : PyData}, Dt H v d → Dt H' v d
  | _, _, .int i => .int i
  | _, _, .str x => .str x
  | _, _, .non => .non
  | _, _, .tup h t => .tup (k.tup h) (t.kp k)
theorem Dts.kp {H H' : Hp} (k : Kp H H') : ∀ {vs : List V} {ds : List PyData}, Dts H vs ds → Dts H' vs ds
  | _, _, .nil => .nil
  | _, _, .cons h t => .cons (h.kp k) (t.kp k)
end
theorem Dt.sm {H H' : Hp} {v : V} {d : PyData} (h : Dt H v d) (s : Same H H') : Dt H' v d := h.kp (kpS s)
theorem Dts.sm {H H' : Hp} {vs : List V} {ds : List PyData} (h : Dts H vs ds) (s : Same H H') : Dts H' vs ds := h.kp (kpS s)
theorem Dts.length {H : Hp} : ∀ {vs : List V} {ds : List PyData}, Dts H vs ds → vs.length = ds.length
  | _, _, .nil => rfl
  | _, _, .cons _ t => congrArg Nat.succ t.length
theorem Dts.get {H : Hp} : ∀ {vs : List V} {ds : List PyData}, Dts H vs ds → ∀ {i : Nat} {v : V}, vs[i]? = some v → ∃ d, ds[i]? = some d ∧ Dt H v d
  | _, _, .nil, i, v, h => by simp at h
  | _, _, .cons (d := d) h t, 0, v, e => ⟨d, rfl, by have e' := Option.some.inj e; subst e'; exact h⟩
  | _, _, .cons h t, i + 1, v, e => t.get (i := i) (by simpa using e)
theorem Dts.app {H : Hp} : ∀ {vs ws : List V} {ds es : List PyData}, Dts H vs ds → Dts H ws es → Dts H (vs ++ ws) (ds ++ es)
  | _, _, _, _, .nil, h => h
  | _, _, _, _, .cons a t, h => .cons a (t.app h)
theorem Dts.one {H : Hp} {v : V} {d : PyData} (h : Dt H v d) : Dts H [v] [d] := .cons h .nil
theorem Dt.int_of {H : Hp} {v : V} {n : Int} (h : Dt H v (.int n)) : v = .int n := by cases h; rfl
theorem Dt.tup_of {H : Hp} {v : V} {ds : List PyData} (h : Dt H v (.tuple ds)) : ∃ a xs, v = .ref a ∧ H a = some (.tup xs) ∧ Dts H xs ds := by
  cases h with
  | tup h t => exact ⟨_, _, rfl, h, t⟩
/-! ### trees as data -/
def kname : Kd → Str
  | .bare => "bare"
  | .line => "line"
  | .free => "free"
mutual
def enc : Tr → PyData
  | .leaf n => .int n
  | .knot k cs => .tuple [.str (kname k), .tuple (encs cs)]
def encs : List Tr → List PyData
  | [] => []
  | c :: cs => enc c :: encs cs
end
theorem encs_map : ∀ cs : List Tr, encs cs = cs.map enc
  | [] => by simp [encs]
  | c :: cs => by simp [encs, encs_map cs]
theorem dt_leaf {H : Hp} {v : V} {n : Int} (h : Dt H v (enc (.leaf n))) : v = .int n := by
  rw [enc] at h
  exact h.int_of
theorem dt_knot {H : Hp} {v : V} {k : Kd} {cs : List Tr} (h : Dt H v (enc (.knot k cs))) : ∃ a b vs, v = .ref a ∧ H a = some (.tup [.str (kname k), .ref b]) ∧ H b = some (.tup vs) ∧ Dts H vs (cs.map enc) := by
  rw [enc, encs_map] at h
  obtain ⟨a, xs, rfl, ha, t⟩ := h.tup_of
  cases t with
  | cons h1 t =>
    cases t with
    | cons h2 t =>
      cases t
      cases h1
      obtain ⟨b, vs, rfl, hb, t2⟩ := h2.tup_of
      exact ⟨a, b, vs, rfl, ha, hb, t2⟩
theorem dt_mk {H : Hp} {a b : Addr} {k : Kd} {cs : List Tr} {vs : List V} (ha : H a = some (.tup [.str (kname k), .ref b])) (hb : H b = some (.tup vs)) (t : Dts H vs (cs.map enc)) : Dt H (.ref a) (enc (.knot k cs)) := by
  rw [enc, encs_map]
  exact .tup ha (.cons (.str _) (.cons (.tup hb t) .nil))
def isLf : Tr → Bool
  | .leaf _ => true
  | .knot _ _ => false
/-! ### lots as data -/
def lotV (L : List Int) : List V := L.map V.int
def lotD (L : List Int) : PyData := .tuple (L.map PyData.int)
theorem dts_ints {H : Hp} : ∀ L : List Int, Dts H (L.map V.int) (L.map PyData.int)
  | [] => .nil
  | n :: L => .cons (.int n) (dts_ints L)
theorem dts_int_of {H : Hp} : ∀ {L : List Int} {vs : List V}, Dts H vs (L.map PyData.int) → vs = L.map V.int
  | [], _, .nil => rfl
  | n :: L, _, .cons h t => by rw [h.int_of, dts_int_of t]; rfl
theorem dt_lot {H : Hp} {v : V} {L : List Int} (h : Dt H v (lotD L)) : ∃ a, v = .ref a ∧ H a = some (.tup (L.map V.int)) := by
  obtain ⟨a, xs, rfl, ha, t⟩ := h.tup_of
  rw [dts_int_of t] at ha
  exact ⟨a, rfl, ha⟩
theorem dt_lot_mk {H : Hp} {a : Addr} {L : List Int} (h : H a = some (.tup (L.map V.int))) : Dt H (.ref a) (lotD L) := .tup h (dts_ints L)
/-! ### heaps -/
theorem same_upd {H : Hp} {p : Addr} {o : HO} (h : H p = none) : Same H (upd H p o) := fun b x e => by
  rw [upd_ne (ne_of_none e h)]
  exact e
/-- the list at l, made on the way, may change -/
theorem same_upd2 {H H1 : Hp} {l : Addr} {o : HO} (s : Same H H1) (h : H l = none) : Same H (upd H1 l o) := fun b x e => by
  rw [upd_ne (ne_of_none e h)]
  exact s b x e
theorem none_of_same {H H1 : Hp} {l : Addr} (s : Same H H1) (h : H1 l = none) : H l = none := s.free h
/-! ### what stands in the module -/
structure Zs (mg : Str → Option Value) : Prop where
  isi : mg "isinstance" = none
  int : mg "int" = none
  tup : mg "tuple" = none
  lst : mg "list" = none
  sorted : mg "sorted" = none
  all : mg "all" = none
  any : mg "any" = none
  enum : mg "enumerate" = none
  rng : mg "range" = none
  len : mg "len" = none
  abs : mg "abs" = none
  min : mg "min" = none
  zip : mg "zip" = none
  bool : mg "bool" = none
  str : mg "str" = none
  repr : mg "repr" = none
/-- a def of the module -/
structure Df (K : PySem.W.Frag) (mg : Str → Option Value) (x : Str) (st : Stmt) (f : Addr) (fd : FuncData) (ps : List Str) : Prop where
  F : Fun K x x st f fd
  g : mg x = some (.ref f)
  b : Binds K fd ps []

end K23
namespace K23
open PySem PySem.Spec PyProof.Rows L2
/-- turns of any kind -/
theorem turns_it {J : It} {n : Nat} {G : Hp → Prop} {Y : Nat → Hp → V → Hp → Prop} (w : Walk J n G Y) {R : V → Hp → (Hp → Prop) → Prop} {Qd : Hp → Prop} {H0 : Hp} (Pv : Nat → Hp → Prop) (h0 : Pv 0 H0) (hG : ∀ i H, i ≤ n → Pv i H → G H)
    (hs : ∀ i x H H', i < n → Pv i H → Y i H x H' → R x H' (Pv (i + 1))) (hd : ∀ H, Pv n H → Qd H) :
    ∃ W : Nat → Nat → Hp → Prop, (∃ m, W 0 m H0) ∧ ∀ i m H, W i m H → (J.stop i H ∧ Qd H) ∨ (J.go i H ∧ ∃ Nx : Hp → Prop, (∀ H', Nx H' → ∃ m', m' < m ∧ W (i + 1) m' H') ∧ ∀ x H', J.yld i H x H' → R x H' Nx) := by
  refine ⟨fun i m H => m = n - i ∧ i ≤ n ∧ Pv i H, ⟨n, by simp, Nat.zero_le _, h0⟩, ?_⟩
  rintro i m H ⟨rfl, hi, p⟩
  have q := hG i H hi p
  by_cases hlt : i < n
  · exact .inr ⟨w.goes i H hlt q, Pv (i + 1), fun H' p' => ⟨n - (i + 1), by omega, rfl, hlt, p'⟩, fun x H' y => hs i x H H' hlt p (w.yields i H x H' hlt q y)⟩
  · have e : i = n := by omega
    subst e
    exact .inl ⟨w.stops H q, hd H p⟩
theorem lots_at {H : Hp} {zs : List V} {Ls : List (List Int)} (h : Dts H zs (Ls.map lotD)) {i : Nat} {v : V} (e : zs[i]? = some v) : ∃ L a, Ls[i]? = some L ∧ v = .ref a ∧ H a = some (.tup (L.map V.int)) := by
  obtain ⟨d, hd, hdt⟩ := h.get e
  rw [List.getElem?_map] at hd
  cases hL : Ls[i]? with
  | none => rw [hL] at hd; simp at hd
  | some L =>
    rw [hL] at hd
    obtain rfl : lotD L = d := Option.some.inj hd
    obtain ⟨a, rfl, ha⟩ := dt_lot hdt
    exact ⟨L, a, rfl, rfl, ha⟩
section
variable {P : Program} {w : World} {K : PySem.W.Frag} {mg : Str → Option Value} {base : Heap}
theorem scU : FnScope ["lots", "lot", "part"] ["lots"] (defScope sU) := ⟨rfl, rfl, rfl, by decide +kernel, rfl, by decide +kernel, by decide +kernel⟩
def spU (K : PySem.W.Frag) : Sp := fun vs H Q _ => ∃ (a : Addr) (zs : List V) (Ls : List (List Int)), vs = [.ref a] ∧ SqL K H a zs ∧ Dts H zs (Ls.map lotD) ∧ Ls.flatten.length ≤ 100000 ∧ ∀ H' p, Same H H' → H p = none → H' p = some (.tup ((srt Ls.flatten).map V.int)) → Q (.ref p) H'
theorem line_lt {n : Nat} (h : n ≤ 100000) : n < sizeLine := Nat.lt_of_le_of_lt h (by decide)
theorem okU {f : Addr} {fd : FuncData} (D : Df K mg "union_of" sU f fd ["lots"]) (Z : Zs mg) : FnOk P w K mg base CX0 1 f fd ["lots"] (spU K) := by
  refine D.F.ok scU (fun vs H Q E h => ?_) (fun cdv A outer s H vs Q E hr h => ?_)
  · obtain ⟨a, zs, Ls, rfl, _⟩ := h
    rfl
  obtain ⟨a, zs, Ls, rfl, ha, hz, hl, q⟩ := h
  refine ⟨_, pss_one (ps_ret (pe_callTy call_tuple_of rfl Z.tup (by decide +kernel) (pa_cons (pe_callB cr_sortedI rfl Z.sorted boot_sorted (pa_cons
    (pe_lc2 (own := [("lot", 1), ("part", 2)]) (vs1 := [2]) (g := gName 1) (g1 := gName 2) (wi1 := iTup K (tVar 1)) (tt := tYes) (tt1 := tYes) rfl scU.nd (pi_list (pv 0)) (blkOk_by (N := ["lots", "lot", "part"]) (sc := defScope sU) (by decide +kernel)) (by decide)
      (fun _ _ _ _ _ => pg_name (i := 1) scU.nd rfl (.inl rfl)) (fun _ _ _ _ _ => pts_nil) (fun _ _ _ _ _ => pi_tup (pv 1)) (fun _ _ _ _ _ => pg_name (i := 2) scU.nd rfl (.inl rfl)) (fun _ _ _ _ _ => pts_nil) (fun _ _ _ _ _ => pv 2)) pa_nil)) pa_nil))), ?_⟩
  have hzl := hz.length
  rw [List.length_map] at hzl
  refine ⟨_, rfl, a, rfl, ⟨_, ha⟩, fun dd hdd => ?_⟩
  refine turns_it (walk_list (K := K) (xs := zs)) (fun i H' => Same H H' ∧ H' dd = some (.lst (((Ls.take i).flatten).map V.int))) ⟨same_upd hdd, by rw [upd_same]; simp⟩ (fun i H' _ ⟨s2, _⟩ => s2.seq ha) ?_ ?_
  · rintro i x H1 H2 hi ⟨sm, hd⟩ ⟨rfl, hxi⟩
    obtain ⟨L, b, hL, rfl, hb⟩ := lots_at (hz.sm sm) hxi
    refine ⟨rfl, ?_⟩
    refine iteT (B := True) ?_
    refine ⟨_, rfl, b, rfl, ⟨_, SqT.of hb⟩, ?_⟩
    have ll : ((Ls.take (i + 1)).flatten).length ≤ 100000 := by
      have e := congrArg (fun l => l.flatten.length) (List.take_append_drop (i + 1) Ls)
      simp only [List.flatten_append, List.length_append] at e
      omega
    have e1 : (Ls.take (i + 1)).flatten = (Ls.take i).flatten ++ L := by
      rw [List.take_add_one, hL, List.flatten_append]
      simp
    rw [e1, List.length_append] at ll
    refine turns_it (walk_tup (K := K) (xs := L.map V.int)) (fun j H' => Same H H' ∧ H' b = some (.tup (L.map V.int)) ∧ H' dd = some (.lst (((Ls.take i).flatten ++ L.take j).map V.int))) ⟨sm, hb, by rw [hd]; simp⟩ (fun j H' _ ⟨_, s2, _⟩ => SqT.of s2) ?_ ?_
    · rintro j u H3 H4 hj ⟨s3, hb3, hd3⟩ ⟨rfl, hu⟩
      obtain ⟨m, hm, rfl⟩ : ∃ m, L[j]? = some m ∧ u = .int m := by
        rw [List.getElem?_map] at hu
        cases e : L[j]? with
        | none => rw [e] at hu; simp at hu
        | some m => rw [e] at hu; exact ⟨m, rfl, (Option.some.inj hu).symm⟩
      refine ⟨rfl, ?_⟩
      refine iteT (B := True) ?_
      have hdb : b ≠ dd := fun z => by rw [z, hd3] at hb3; cases hb3
      refine ⟨_, rfl, _, hd3, ?_, same_upd2 s3 hdd, ?_, ?_⟩
      · rw [List.length_map, List.length_append]
        have : (L.take j).length ≤ L.length := by rw [List.length_take]; omega
        exact line_lt (by omega)
      · rw [upd_ne hdb]
        exact hb3
      · rw [upd_same, List.take_add_one, hm]
        simp
    · rintro H3 ⟨s3, hb3, hd3⟩
      rw [List.length_map, List.take_length] at hd3
      rw [e1]
      exact ⟨s3, hd3⟩
  · rintro H1 ⟨sm, hd⟩
    rw [hzl, List.take_length] at hd
    refine ⟨dd, Ls.flatten, rfl, SqL.of hd, fun ns' p pm so hp0 => ?_⟩
    refine ⟨p, _, rfl, .inl ⟨SqL.of upd_same, fun p2 hp2 => ?_⟩⟩
    have hd0 := hdd
    have s2 : Same H (upd H1 p (.lst (ns'.map V.int))) := same_upd2 sm (sm.free hp0)
    refine q _ p2 (same_upd2 s2 (s2.free hp2)) (s2.free hp2) ?_
    rw [upd_same, srt_uniq pm so]
end
end K23
namespace K23
open PySem PySem.Spec PyProof.Rows L2
theorem sm_tup {K : PySem.W.Frag} {H H' : Hp} {a : Addr} {xs : List V} (s : Same H H') (h : SqT K H a xs) : SqT K H' a xs := by
  rcases h with (h | ⟨o, h⟩) | h
  · exact .inl (.inl (s _ _ h))
  · exact .inl (.inr ⟨o, s _ _ h⟩)
  · exact .inr h
def Sq (K : PySem.W.Frag) (H : Hp) (a : Addr) (xs : List V) : Prop := SqL K H a xs ∨ SqT K H a xs
theorem Sq.sm {K : PySem.W.Frag} {H H' : Hp} {a : Addr} {xs : List V} (h : Sq K H a xs) (s : Same H H') : Sq K H' a xs := h.elim (fun h => .inl (s.seq h)) fun h => .inr (sm_tup s h)
/-- a list or a tuple, walked: whatever walk it is -/
def iSeq (K : PySem.W.Frag) (tl : TE) : TI := fun σ H R => tl σ H fun x H1 => ∃ a xs, x = .ref a ∧ Sq K H1 a xs ∧ ∀ (J : It) (G : Hp → Prop), Walk J xs.length G (YAt xs) → (∀ H', Same H1 H' → G H') → R J H1
theorem pi_seq {X : Cx} {tg l : Expr} {tl : TE} (hl : PE X l tl) : PI X tg l (iSeq X.K tl) := by
  refine ⟨fun pins s σ H R I h => ?_⟩
  refine thn (hl.run pins s σ H _ I h) fun v s1 ⟨x, H1, I1, r1, q1⟩ => ?_
  obtain ⟨a, xs, rfl, hq, q⟩ := q1
  cases r1
  rcases hq with hq | hq
  · obtain ⟨its, rv, p, hz⟩ := I1.list hq
    exact wpAny_pyIter_list p.isList (pi_one (tk := s1.toks) I1 _ (turn_list a _) ⟨_, Heap.get?_push_size _ rfl, rfl, rfl⟩ (q _ _ walk_list fun H' s => s.seq hq))
  · obtain ⟨its, rv, p, hz⟩ := I1.tuple hq
    exact wpAny_pyIter_tuple (show s1.heap.IsTuple a its.toArray from p) (pi_one (tk := s1.toks) I1 _ (turn_tuple a _) ⟨_, Heap.get?_push_size _ rfl, rfl, rfl⟩ (q _ _ walk_tup fun H' s => sm_tup s hq))
/-- x in a list or tuple of ints -/
theorem in_ints (n : Int) : ∀ L : List Int, inV (.int n) (L.map V.int) = decide (n ∈ L)
  | [] => rfl
  | m :: L => by
    have ih := in_ints n L
    unfold inV at ih ⊢
    rw [List.map_cons, List.any_cons, ih]
    by_cases e : m = n
    · subst e
      simp [eqV]
    · have : eqV (.int m) (.int n) = false := by simp [eqV, e]
      rw [this, Bool.false_or]
      simp [Ne.symm e]
theorem flat_ints : ∀ L : List Int, (L.map V.int).all flatV = true
  | [] => rfl
  | m :: L => by
    rw [List.map_cons, List.all_cons, flat_ints L]
    rfl
end K23
namespace K23
open PySem PySem.Spec PyProof.Rows L2
section
variable {P : Program} {w : World} {K : PySem.W.Frag} {mg : Str → Option Value} {base : Heap}
abbrev s1 : Stmt := top 1
theorem sc1 : FnScope ["tree"] ["tree"] (defScope s1) := ⟨rfl, rfl, rfl, by decide +kernel, rfl, by decide +kernel, by decide +kernel⟩
def sp1 : Sp := fun vs H Q _ => ∃ v t, vs = [v] ∧ Dt H v (enc t) ∧ Q (.bl (isLf t)) H
theorem ok1 {f : Addr} {fd : FuncData} (F : Fun K "is_leaf" "is_leaf" s1 f fd) (Z : Zs mg) : FnOk P w K mg base CX0 1 f fd ["tree"] sp1 := by
  refine F.ok sc1 (fun vs H Q E h => ?_) (fun cdv A outer s H vs Q E hr h => ?_)
  · obtain ⟨v, t, rfl, _⟩ := h
    rfl
  obtain ⟨v, t, rfl, hd, q⟩ := h
  refine ⟨_, pss_one (ps_ret (pe_callB call_isi rfl Z.isi (by decide +kernel) (pa_cons (pv 0) (pa_cons (pe_bltn (v := .ty "int") rfl Z.int (by decide +kernel) rfl) pa_nil)))), ?_⟩
  cases t with
  | leaf n =>
    obtain rfl := dt_leaf hd
    exact ⟨_, rfl, _, _, _, _, true, rfl, .ty _, .base (.int n), kit_ty (by decide +kernel), q⟩
  | knot k cs =>
    obtain ⟨a, b, xs, rfl, ha, hb, _⟩ := dt_knot hd
    exact ⟨_, rfl, _, _, _, _, false, rfl, .ty _, .base (.tup ha), kit_ty (by decide +kernel), q⟩
/-! parts_of -/
abbrev s2 : Stmt := top 2
theorem sc2 : FnScope ["shape", "child"] ["shape"] (defScope s2) := ⟨rfl, rfl, rfl, by decide +kernel, rfl, by decide +kernel, by decide +kernel⟩
def sp2 (n : Nat) : Sp := fun vs H Q _ => ∃ v t, vs = [v] ∧ Dt H v (enc t) ∧ ok t ∧ (lv t).length ≤ n ∧ n ≤ 100 ∧ ∀ H' p, Same H H' → H p = none → H' p = some (.tup ((parts t).map V.int)) → Q (.ref p) H'
theorem len_child {cs : List Tr} {c : Tr} (hc : c ∈ cs) : (lv c).length ≤ (lvs cs).length := by
  induction cs with
  | nil => exact absurd hc (by simp)
  | cons d cs ih =>
    simp only [lvs, List.length_append]
    rcases List.mem_cons.mp hc with e | e
    · rw [e]; omega
    · have := ih e
      omega
theorem len_less {k : Kd} {cs : List Tr} (o : ok (.knot k cs)) {c : Tr} (hc : c ∈ cs) : (lv c).length < (lv (.knot k cs)).length := by
  obtain ⟨h2, ho⟩ := ok_knot o
  have pos : ∀ d ∈ cs, 1 ≤ (lv d).length := fun d hd => by
    have := lv_ne d (ho d hd)
    exact List.length_pos_iff.mpr this
  rw [lv_knot]
  match cs, h2 with
  | a :: b :: cs, _ =>
    simp only [lvs, List.length_append]
    have pa := pos a List.mem_cons_self
    have pb := pos b (List.mem_cons_of_mem _ List.mem_cons_self)
    rcases List.mem_cons.mp hc with e | e
    · rw [e]; omega
    · have := len_child e
      simp only [lvs, List.length_append] at this
      omega
theorem lvs_take {cs : List Tr} {i : Nat} {c : Tr} (h : cs[i]? = some c) : lvs (cs.take (i + 1)) = lvs (cs.take i) ++ lv c := by
  rw [lvs_flat, lvs_flat, List.take_add_one, h]
  simp
theorem lvs_take_len {cs : List Tr} (i : Nat) : (lvs (cs.take i)).length ≤ (lvs cs).length := by
  induction cs generalizing i with
  | nil => simp [lvs]
  | cons d cs ih =>
    cases i with
    | zero => simp [lvs]
    | succ i =>
      have := ih i
      simp only [List.take_succ_cons, lvs, List.length_append]
      omega
theorem cs_len : ∀ {cs : List Tr}, (∀ c ∈ cs, ok c) → cs.length ≤ (lvs cs).length
  | [], _ => Nat.zero_le _
  | c :: cs, h => by
    have h1 := cs_len (cs := cs) fun d hd => h d (List.mem_cons_of_mem _ hd)
    have h2 := lv_ne c (h c List.mem_cons_self)
    have h3 : 1 ≤ (lv c).length := List.length_pos_iff.mpr h2
    simp only [lvs, List.length_append, List.length_cons]
    omega
theorem line_big {n : Nat} (h : n ≤ 1000000) : n ≤ sizeLine := Nat.le_trans h (by decide)
theorem flat_perm : ∀ cs : List Tr, ((cs.map parts).flatten).Perm (lvs cs)
  | [] => by simp [lvs]
  | c :: cs => by
    simp only [List.map_cons, List.flatten_cons, lvs]
    exact (srt_perm (lv c)).append (flat_perm cs)
theorem kp_mask {H : Hp} {dd : Addr} {zs ys : List V} (h : H dd = some (.lst zs)) : Kp H (upd H dd (.lst ys)) := fun b o e n1 n2 => by
  have : b ≠ dd := fun z => by
    rw [z, h] at e
    exact n1 _ (Option.some.inj e).symm
  rw [upd_ne this]
  exact e
theorem ok2_step {n : Nat} {f f1 fu : Addr} {fd fd1 fdu : FuncData} (D : Df K mg "parts_of" s2 f fd ["shape"]) (D1 : Df K mg "is_leaf" s1 f1 fd1 ["tree"]) (DU : Df K mg "union_of" sU fu fdu ["lots"]) (Z : Zs mg)
    (G : FnOk P w K mg base CX0 (n + 1) f fd ["shape"] (sp2 n)) : FnOk P w K mg base CX0 (n + 2) f fd ["shape"] (sp2 (n + 1)) := by
  have G1 : FnOk P w K mg base CX0 1 f1 fd1 ["tree"] sp1 := ok1 D1.F Z
  have GU : FnOk P w K mg base CX0 1 fu fdu ["lots"] (spU K) := okU DU Z
  refine D.F.ok sc2 (fun vs H Q E h => ?_) (fun cdv A outer s H vs Q E hr h => ?_)
  · obtain ⟨v, t, rfl, _⟩ := h
    rfl
  obtain ⟨v, t, rfl, hd, ho, hl, hn, q⟩ := h
  have hr1 : Room 1 _ := hr.mono (by omega)
  refine ⟨_, pss_cons (ps_if (pt_truth (pe_call G1 hr1 rfl D1.g D1.F.kp D1.b .nil pass0 (pa_cons (pv 0) pa_nil)) (fun _ => rfl)) (pss_one (ps_ret (pe_tup (pa_cons (pv 0) pa_nil)))) pss_nil)
    (pss_one (ps_ret (pe_call GU hr1 rfl DU.g DU.F.kp DU.b .nil pass0 (pa_cons
      (pe_lc (own := [("child", 1)]) (g := gName 1) (tt := tYes) rfl sc2.nd (pi_tup (pe_ix ix_tup (pv 0) pe_int (fun _ _ => rfl))) (blkOk_by (N := ["shape", "child"]) (sc := defScope s2) (by decide +kernel))
        (fun _ _ _ _ _ => pg_name (i := 1) sc2.nd rfl (.inl rfl)) (fun _ _ _ _ _ => pts_nil) (fun _ _ _ _ _ => pe_call G hr rfl D.g D.F.kp D.b .nil pass0 (pa_cons (pv 1) pa_nil))) pa_nil)))), ?_⟩
  cases t with
  | leaf m =>
    obtain rfl := dt_leaf hd
    refine ⟨_, rfl, _, _, rfl, hd, true, rfl, ?_⟩
    refine iteT ⟨_, rfl, (by show 1 ≤ sizeLine; decide), fun p hp => ?_⟩
    exact q _ p (same_upd hp) hp upd_same
  | knot k cs =>
    obtain ⟨a, b, xs, rfl, ha, hb, hx⟩ := dt_knot hd
    obtain ⟨_, hoc⟩ := ok_knot ho
    refine ⟨_, rfl, _, _, rfl, hd, false, rfl, ?_⟩
    refine iteF ?_
    have hlx := hx.length
    rw [List.length_map] at hlx
    have hcl := cs_len hoc
    rw [lv_knot] at hl
    refine ⟨_, rfl, a, _, 1, .ref b, rfl, rfl, SqT.of ha, rfl, b, rfl, ⟨_, SqT.of hb⟩, fun dd hdd => ?_⟩
    refine lc_it (walk_tup (K := K) (xs := xs)) (fun i H' => Same H H' ∧ ∃ zs, H' dd = some (.lst zs) ∧ Dts H' zs (((cs.take i).map parts).map lotD)) ⟨same_upd hdd, [], upd_same, by simpa using Dts.nil⟩
      (fun i H' _ ⟨s2, _⟩ => SqT.of (s2 _ _ hb)) ?_ ?_
    · rintro i x H2 H3 hi ⟨sm2, zs, hz, hzs⟩ ⟨rfl, hxi⟩
      obtain ⟨d, hdi, hdt⟩ := hx.get hxi
      rw [List.getElem?_map] at hdi
      cases hci : cs[i]? with
      | none => rw [hci] at hdi; simp at hdi
      | some c =>
        rw [hci] at hdi
        obtain rfl : enc c = d := Option.some.inj hdi
        have hc : c ∈ cs := List.mem_of_getElem? hci
        have hlc := len_less ho hc
        rw [lv_knot] at hlc
        refine ⟨rfl, ?_⟩
        refine iteT (B := True) ?_
        refine ⟨x, rfl, x, c, rfl, hdt.sm sm2, hoc c hc, by omega, by omega, fun H4 p4 sm4 h40 h4 => ?_⟩
        refine ⟨zs, sm4 _ _ hz, ?_, same_upd2 (sm2.trans sm4) hdd, zs ++ [.ref p4], upd_same, ?_⟩
        · have := hzs.length
          rw [List.length_map, List.length_map, List.length_take] at this
          exact line_lt (by omega)
        · rw [List.take_add_one, hci]
          simp only [List.map_append]
          exact ((hzs.sm sm4).app (.one (dt_lot_mk h4))).kp (kp_mask (sm4 _ _ hz))
    · rintro H2 ⟨sm2, zs, hz, hzs⟩
      rw [hlx, List.take_length] at hzs
      have fl := (flat_perm cs).length_eq
      refine ⟨dd, zs, cs.map parts, rfl, SqL.of hz, hzs, by omega, fun H4 p4 sm4 h40 h4 => ?_⟩
      refine q _ p4 (sm2.trans sm4) (sm2.free h40) ?_
      rw [h4, srt_congr (flat_perm cs)]
      rfl
theorem none2 {f : Addr} {fd : FuncData} : FnOk P w K mg base CX0 1 f fd ["shape"] (sp2 0) := by
  have no : ∀ vs H Q E, ¬ sp2 0 vs H Q E := fun vs H Q E h => by
    obtain ⟨v, t, _, _, ho, hl, _⟩ := h
    have := lv_ne t ho
    exact this (List.eq_nil_of_length_eq_zero (by omega))
  exact ⟨fun vs H Q E h => absurd h (no vs H Q E), fun A outer s H args us vs Q E _ _ _ _ h => absurd h (no vs H Q E)⟩
theorem ok2 {f f1 fu : Addr} {fd fd1 fdu : FuncData} (D : Df K mg "parts_of" s2 f fd ["shape"]) (D1 : Df K mg "is_leaf" s1 f1 fd1 ["tree"]) (DU : Df K mg "union_of" sU fu fdu ["lots"]) (Z : Zs mg) : ∀ n, FnOk P w K mg base CX0 (n + 1) f fd ["shape"] (sp2 n)
  | 0 => none2
  | n + 1 => ok2_step D D1 DU Z (ok2 D D1 DU Z n)
end
end K23
namespace K23
open PySem PySem.Spec PyProof.Rows L2
/-! how many trees -/
theorem trees_len : ∀ t : Tr, ok t → (trees t).length + 1 ≤ 2 * (lv t).length := Tr.ind (fun n _ => by simp [trees, lv]) fun k cs ih o => by
  obtain ⟨h2, ho⟩ := ok_knot o
  have key : ∀ ds : List Tr, (∀ d ∈ ds, d ∈ cs) → (treess ds).length + ds.length ≤ 2 * (lvs ds).length := by
    intro ds
    induction ds with
    | nil => intro _; simp [treess, lvs]
    | cons d ds ih2 =>
      intro h
      have h1 := ih d (h d List.mem_cons_self) (ho d (h d List.mem_cons_self))
      have h3 := ih2 fun e he => h e (List.mem_cons_of_mem _ he)
      simp only [treess, lvs, List.length_append, List.length_cons]
      omega
  have := key cs fun d hd => hd
  rw [lv_knot, trees, List.length_cons]
  omega
theorem treess_take {cs : List Tr} {i : Nat} {c : Tr} (h : cs[i]? = some c) : treess (cs.take (i + 1)) = treess (cs.take i) ++ trees c := by
  have e : ∀ ds : List Tr, treess ds = ds.flatMap trees := by
    intro ds
    induction ds with
    | nil => simp [treess]
    | cons d ds ih => simp [treess, ih]
  rw [e, e, List.take_add_one, h]
  simp
theorem treess_take_len {cs : List Tr} (i : Nat) : (treess (cs.take i)).length ≤ (treess cs).length := by
  induction cs generalizing i with
  | nil => simp [treess]
  | cons d cs ih =>
    cases i with
    | zero => simp [treess]
    | succ i =>
      have := ih i
      simp only [List.take_succ_cons, treess, List.length_append]
      omega
theorem treess_mem_len {cs : List Tr} {c : Tr} (hc : c ∈ cs) : (trees c).length ≤ (treess cs).length := by
  induction cs with
  | nil => exact absurd hc (by simp)
  | cons d cs ih =>
    simp only [treess, List.length_append]
    rcases List.mem_cons.mp hc with e | e
    · rw [e]; omega
    · have := ih e
      omega
/-- the child that stands at a place -/
theorem child_dt {H : Hp} {cs : List Tr} {xs : List V} (hx : Dts H xs (cs.map enc)) {i : Nat} {x : V} (h : xs[i]? = some x) : ∃ c, cs[i]? = some c ∧ c ∈ cs ∧ Dt H x (enc c) := by
  obtain ⟨d, hd, hdt⟩ := hx.get h
  rw [List.getElem?_map] at hd
  cases hc : cs[i]? with
  | none => rw [hc] at hd; simp at hd
  | some c =>
    rw [hc] at hd
    obtain rfl : enc c = d := Option.some.inj hd
    exact ⟨c, rfl, List.mem_of_getElem? hc, hdt⟩
section
variable {P : Program} {w : World} {K : PySem.W.Frag} {mg : Str → Option Value} {base : Heap}
abbrev s3 : Stmt := top 3
theorem sc3 : FnScope ["shape", "trees", "child"] ["shape"] (defScope s3) := ⟨rfl, rfl, rfl, by decide +kernel, rfl, by decide +kernel, by decide +kernel⟩
def sp3 (n : Nat) : Sp := fun vs H Q _ => ∃ v t, vs = [v] ∧ Dt H v (enc t) ∧ ok t ∧ (lv t).length ≤ n ∧ n ≤ 100 ∧ ∀ H' p zs, Same H H' → H p = none → H' p = some (.lst zs) → Dts H' zs ((trees t).map enc) → Q (.ref p) H'
theorem ok3_step {n : Nat} {f f1 : Addr} {fd fd1 : FuncData} (D : Df K mg "trees_of" s3 f fd ["shape"]) (D1 : Df K mg "is_leaf" s1 f1 fd1 ["tree"]) (Z : Zs mg)
    (G : FnOk P w K mg base CX0 (n + 1) f fd ["shape"] (sp3 n)) : FnOk P w K mg base CX0 (n + 2) f fd ["shape"] (sp3 (n + 1)) := by
  have G1 : FnOk P w K mg base CX0 1 f1 fd1 ["tree"] sp1 := ok1 D1.F Z
  refine D.F.ok sc3 (fun vs H Q E h => ?_) (fun cdv A outer s H vs Q E hr h => ?_)
  · obtain ⟨v, t, rfl, _⟩ := h
    rfl
  obtain ⟨v, t, rfl, hd, ho, hl, hn, q⟩ := h
  have hr1 : Room 1 _ := hr.mono (by omega)
  refine ⟨_, pss_cons (ps_set (i := 1) sc3.nd rfl (.inl rfl) (pe_lst (pa_cons (pv 0) pa_nil)))
    (pss_cons (ps_if (pt_not (pt_truth (pe_call G1 hr1 rfl D1.g D1.F.kp D1.b .nil pass0 (pa_cons (pv 0) pa_nil)) (fun _ => rfl)))
      (pss_one (ps_for PassesOwn.never rfl (pi_tup (pe_ix ix_tup (pv 0) pe_int (fun _ _ => rfl))) (pg_name (i := 2) sc3.nd rfl (.inl rfl))
        (pss_one (ps_expr (pe_bm PySem.F.plainAttrs_list PySem.F.slot_list_extend PySem.F.type_list_extend mt_extend (pv 1) (pa_cons (pe_call G hr rfl D.g D.F.kp D.b .nil pass0 (pa_cons (pv 2) pa_nil)) pa_nil)))))) pss_nil)
    (pss_one (ps_ret (pv 1)))), ?_⟩
  refine ⟨_, rfl, (by show 1 ≤ sizeLine; decide), fun l hl' => ?_⟩
  have s0 : Same H (upd H l (.lst [v])) := same_upd hl'
  cases t with
  | leaf m =>
    refine ⟨_, rfl, _, _, rfl, hd.sm s0, true, rfl, ?_⟩
    refine iteF ?_
    refine ⟨_, rfl, ?_⟩
    refine q _ l _ s0 hl' upd_same ?_
    rw [trees]
    exact .one (hd.sm s0)
  | knot k cs =>
    obtain ⟨a, b, xs, rfl, ha, hb, hx⟩ := dt_knot hd
    obtain ⟨_, hoc⟩ := ok_knot ho
    refine ⟨_, rfl, _, _, rfl, hd.sm s0, false, rfl, ?_⟩
    refine iteT ?_
    refine ⟨_, rfl, a, _, 1, .ref b, rfl, rfl, SqT.of (s0 _ _ ha), rfl, b, rfl, ⟨_, SqT.of (s0 _ _ hb)⟩, ?_⟩
    have hlx := hx.length
    refine for_it (walk_tup (K := K) (xs := xs)) (fun i σ H' => ∃ y, σ = [some (.ref a), some (.ref l), y] ∧ Same H H' ∧ ∃ zs, H' l = some (.lst zs) ∧ Dts H' zs ((Tr.knot k cs :: treess (cs.take i)).map enc))
      ⟨none, rfl, s0, _, upd_same, by simpa [treess] using Dts.one (hd.sm s0)⟩ (fun i σ H' _ ⟨_, _, sm, _⟩ => SqT.of (sm _ _ hb)) ?_ ?_
    · rintro i x σ H1 H2 hi ⟨y, rfl, sm, zs, hz, hp⟩ ⟨rfl, hxi⟩
      obtain ⟨c, hci, hc, hdt⟩ := child_dt hx hxi
      have hlc := len_less ho hc
      refine ⟨_, rfl, .inl ⟨rfl, _, SqL.of hz⟩, x, rfl, x, c, rfl, hdt.sm sm, hoc c hc, by omega, by omega, fun H3 p ws sm3 hp0 hpp hws => ?_⟩
      refine ⟨l, p, _, _, rfl, rfl, sm3 _ _ hz, hpp, ?_, ?_⟩
      · have l1 := hp.length
        have l2 := hws.length
        rw [List.length_map, List.length_cons] at l1
        rw [List.length_map] at l2
        rw [l1, l2]
        have h1 := treess_take_len (cs := cs) i
        have h2 := treess_mem_len hc
        have h3 := trees_len _ ho
        rw [trees, List.length_cons] at h3
        exact line_big (by omega)
      · refine ⟨some x, rfl, same_upd2 (sm.trans sm3) hl', zs ++ ws, upd_same, ?_⟩
        rw [treess_take hci, ← List.cons_append, List.map_append]
        have k1 : Kp H3 (upd H3 l (.lst (zs ++ ws))) := fun b o e n1 n2 => by
          have : b ≠ l := fun z => by
            rw [z, sm3 _ _ hz] at e
            exact n1 _ (Option.some.inj e).symm
          rw [upd_ne this]
          exact e
        exact ((hp.sm sm3).app hws).kp k1
    · rintro σ H1 ⟨y, rfl, sm, zs, hz, hp⟩
      refine ⟨_, rfl, ?_⟩
      refine q _ l zs sm hl' hz ?_
      rw [trees]
      have := hp
      rwa [hlx, List.length_map, List.take_length] at this
theorem none3 {f : Addr} {fd : FuncData} : FnOk P w K mg base CX0 1 f fd ["shape"] (sp3 0) := by
  have no : ∀ vs H Q E, ¬ sp3 0 vs H Q E := fun vs H Q E h => by
    obtain ⟨v, t, _, _, ho, hl, _⟩ := h
    have := lv_ne t ho
    exact this (List.eq_nil_of_length_eq_zero (by omega))
  exact ⟨fun vs H Q E h => absurd h (no vs H Q E), fun A outer s H args us vs Q E _ _ _ _ h => absurd h (no vs H Q E)⟩
theorem ok3 {f f1 : Addr} {fd fd1 : FuncData} (D : Df K mg "trees_of" s3 f fd ["shape"]) (D1 : Df K mg "is_leaf" s1 f1 fd1 ["tree"]) (Z : Zs mg) : ∀ n, FnOk P w K mg base CX0 (n + 1) f fd ["shape"] (sp3 n)
  | 0 => none3
  | n + 1 => ok3_step D D1 Z (ok3 D D1 Z n)
end
/-! lots read off the heap -/
def toI : V → Int
  | .int n => n
  | _ => 0
def tI (H : Hp) : V → List Int
  | .ref a => match H a with
    | some (.tup xs) => xs.map toI
    | _ => []
  | _ => []
theorem toI_map : ∀ L : List Int, (L.map V.int).map toI = L
  | [] => rfl
  | n :: L => congrArg (List.cons n) (toI_map L)
theorem tI_of {H : Hp} {v : V} {L : List Int} (h : Dt H v (lotD L)) : tI H v = L := by
  obtain ⟨a, rfl, ha⟩ := dt_lot h
  show (match H a with | some (.tup xs) => xs.map toI | _ => []) = L
  rw [ha]
  exact toI_map L
theorem dts_lots {H : Hp} : ∀ {xs : List V} {Ls : List (List Int)}, Dts H xs (Ls.map lotD) → Ls = xs.map (tI H) ∧ ∀ x ∈ xs, Dt H x (lotD (tI H x))
  | _, [], .nil => ⟨rfl, fun x h => absurd h (by simp)⟩
  | _, L :: Ls, .cons h t => by
    obtain ⟨h1, h2⟩ := dts_lots t
    have e := tI_of h
    refine ⟨by rw [List.map_cons, e, ← h1], fun x hx => ?_⟩
    rcases List.mem_cons.mp hx with rfl | hx
    · rw [e]; exact h
    · exact h2 x hx
theorem lots_dts {H : Hp} : ∀ {xs : List V}, (∀ x ∈ xs, Dt H x (lotD (tI H x))) → Dts H xs ((xs.map (tI H)).map lotD)
  | [], _ => .nil
  | x :: xs, h => .cons (h x List.mem_cons_self) (lots_dts fun y hy => h y (List.mem_cons_of_mem _ hy))
theorem dts_perm {H : Hp} {xs ys : List V} {Ls : List (List Int)} (h : Dts H xs (Ls.map lotD)) (p : ys.Perm xs) : (ys.map (tI H)).Perm Ls ∧ Dts H ys ((ys.map (tI H)).map lotD) := by
  obtain ⟨h1, h2⟩ := dts_lots h
  rw [h1]
  exact ⟨p.map _, lots_dts fun y hy => h2 y (p.mem_iff.mp hy)⟩
section
variable {P : Program} {w : World} {K : PySem.W.Frag} {mg : Str → Option Value} {base : Heap}
theorem lt2 {k : Nat} {A : Around} (hr : Room k A) : A.in1.in1.units < cLine := by
  have := hr.un
  show A.units + 1 + 1 < cLine
  omega
theorem lt65 {k : Nat} {A : Around} (hr : Room k A) : A.units + 65 < cLine := by
  have := hr.un
  omega
theorem lt66 {k : Nat} {A : Around} (hr : Room k A) : A.units + 66 < cLine := by
  have := hr.un
  omega
/-! strong_lots -/
abbrev s4 : Stmt := top 4
theorem sc4 : FnScope ["shape", "tree"] ["shape"] (defScope s4) := ⟨rfl, rfl, rfl, by decide +kernel, rfl, by decide +kernel, by decide +kernel⟩
def sp4 (n : Nat) : Sp := fun vs H Q _ => ∃ v t, vs = [v] ∧ Dt H v (enc t) ∧ ok t ∧ (lv t).length ≤ n ∧ n ≤ 100 ∧ ∀ (H' : Hp) (p : Addr) (zs : List V) (Ls : List (List Int)), Same H H' → H p = none → H' p = some (.tup zs) → Dts H' zs (Ls.map lotD) → Ls.Perm (strong t) → (Ls.Pairwise fun a b => HT.lexLt b a = false) → Q (.ref p) H'
theorem trees_ok : ∀ t : Tr, ok t → ∀ z ∈ trees t, ok z := Tr.ind (fun n o z h => by
    have e : z = .leaf n := by simpa [trees] using h
    rw [e]; exact o) fun k cs ih o z h => by
  rcases mem_trees.mp h with rfl | ⟨c, hc, h⟩
  · exact o
  · exact ih c hc ((ok_knot o).2 c hc) z h
theorem trees_short : ∀ t : Tr, ∀ z ∈ trees t, (lv z).length ≤ (lv t).length := Tr.ind (fun n z h => by
    have e : z = .leaf n := by simpa [trees] using h
    rw [e]; exact Nat.le_refl _) fun k cs ih z h => by
  rcases mem_trees.mp h with rfl | ⟨c, hc, h⟩
  · exact Nat.le_refl _
  · have := ih c hc z h
    have := len_child hc
    rw [lv_knot]
    omega
theorem ok4 {n : Nat} {f f1 f2 f3 fu : Addr} {fd fd1 fd2 fd3 fdu : FuncData} (D : Df K mg "strong_lots" s4 f fd ["shape"]) (D1 : Df K mg "is_leaf" s1 f1 fd1 ["tree"]) (DU : Df K mg "union_of" sU fu fdu ["lots"]) (D2 : Df K mg "parts_of" s2 f2 fd2 ["shape"]) (D3 : Df K mg "trees_of" s3 f3 fd3 ["shape"]) (Z : Zs mg) :
    FnOk P w K mg base CX0 (n + 2) f fd ["shape"] (sp4 n) := by
  have G2 : FnOk P w K mg base CX0 (n + 1) f2 fd2 ["shape"] (sp2 n) := ok2 D2 D1 DU Z n
  have G3 : FnOk P w K mg base CX0 (n + 1) f3 fd3 ["shape"] (sp3 n) := ok3 D3 D1 Z n
  refine D.F.ok sc4 (fun vs H Q E h => ?_) (fun cdv A outer s H vs Q E hr h => ?_)
  · obtain ⟨v, t, rfl, _⟩ := h
    rfl
  obtain ⟨v, t, rfl, hd, ho, hl, hn, q⟩ := h
  have hu := hr.units
  have hu2 := hr.un
  refine ⟨_, pss_one (ps_ret (pe_callTy call_tuple_of rfl Z.tup (by decide +kernel) (pa_cons (pe_callB (cr_sortTI (lt2 hr)) rfl Z.sorted boot_sorted (pa_cons
    (pe_lc (own := [("tree", 1)]) (g := gName 1) (tt := tYes) rfl sc4.nd (pi_list (pe_call G3 hr rfl D3.g D3.F.kp D3.b .nil pass0 (pa_cons (pv 0) pa_nil))) (blkOk_by (N := ["shape", "tree"]) (sc := defScope s4) (by decide +kernel))
      (fun _ _ _ _ _ => pg_name (i := 1) sc4.nd rfl (.inl rfl)) (fun _ _ _ _ _ => pts_nil) (fun _ _ _ _ _ => pe_call G2 hr rfl D2.g D2.F.kp D2.b .nil pass0 (pa_cons (pv 1) pa_nil))) pa_nil)) pa_nil))), ?_⟩
  refine ⟨_, rfl, v, t, rfl, hd, ho, hl, hn, fun H1 p xs sm hp0 hpp hxs => ?_⟩
  refine ⟨p, rfl, ⟨_, SqL.of hpp⟩, fun dd hdd => ?_⟩
  have hlx := hxs.length
  rw [List.length_map] at hlx
  have tl := trees_len t ho
  refine lc_it (walk_list (K := K) (xs := xs)) (fun i H' => Same H1 H' ∧ ∃ zs, H' dd = some (.lst zs) ∧ Dts H' zs ((((trees t).take i).map parts).map lotD)) ⟨same_upd hdd, [], upd_same, by simpa using Dts.nil⟩
    (fun i H' _ ⟨s2, _⟩ => SqL.of (s2 _ _ hpp)) ?_ ?_
  · rintro i x H2 H3 hi ⟨sm2, zs, hz, hzs⟩ ⟨rfl, hxi⟩
    obtain ⟨z, hzi, hzm, hzd⟩ := child_dt hxs hxi
    refine ⟨rfl, ?_⟩
    refine iteT (B := True) ?_
    refine ⟨x, rfl, x, z, rfl, hzd.sm sm2, trees_ok t ho z hzm, by have := trees_short t z hzm; omega, hn, fun H4 p4 sm4 h40 h4 => ?_⟩
    refine ⟨zs, sm4 _ _ hz, ?_, ?_⟩
    · have := hzs.length
      rw [List.length_map, List.length_map, List.length_take] at this
      exact Nat.lt_of_le_of_lt (Nat.le_trans (Nat.le_of_eq this) (Nat.min_le_right _ _)) (small1000 (by omega))
    · have nd : dd ≠ p4 := fun e => by
        rw [e] at hz
        rw [hz] at h40
        cases h40
      have hd0 : H1 dd = none := hdd
      refine ⟨same_upd2 (sm2.trans sm4) hd0, zs ++ [.ref p4], upd_same, ?_⟩
      have k1 : Kp H4 (upd H4 dd (.lst (zs ++ [.ref p4]))) := fun b o e n1 n2 => by
        have : b ≠ dd := fun z => by
          rw [z, sm4 _ _ hz] at e
          exact n1 _ (Option.some.inj e).symm
        rw [upd_ne this]
        exact e
      rw [List.take_add_one, hzi]
      simp only [List.map_append]
      exact ((hzs.sm sm4).app (.one (dt_lot_mk h4))).kp k1
  · rintro H2 ⟨sm2, zs, hz, hzs⟩
    rw [hlx, List.take_length] at hzs
    obtain ⟨e1, e2⟩ := dts_lots hzs
    refine ⟨dd, zs, tI H2, rfl, SqL.of hz, fun x hx => ?_, .inl fun x hx => ?_, fun ys p2 pm so hp2 => ?_⟩
    · obtain ⟨a, ea, ha⟩ := dt_lot (e2 x hx)
      exact ⟨a, ea, SqT.of ha⟩
    · have : tI H2 x ∈ (trees t).map parts := by
        rw [e1]
        exact List.mem_map.mpr ⟨x, hx, rfl⟩
      obtain ⟨z, hz2, e⟩ := List.mem_map.mp this
      rw [← e]
      intro z0
      have := lv_ne z (trees_ok t ho z hz2)
      have l0 := (srt_perm (lv z)).length_eq
      rw [show srt (lv z) = parts z from rfl, z0] at l0
      exact this (List.eq_nil_of_length_eq_zero (by simpa using l0.symm))
    · obtain ⟨pp, dd2⟩ := dts_perm hzs pm
      refine ⟨p2, _, rfl, .inl ⟨SqL.of upd_same, fun p3 hp3 => ?_⟩⟩
      have sA : Same H H2 := sm.trans sm2
      have sB : Same H (upd H2 p2 (.lst ys)) := same_upd2 sA (sA.free hp2)
      have sC : Same H2 (upd H2 p2 (.lst ys)) := same_upd hp2
      have sD : Same (upd H2 p2 (.lst ys)) (upd (upd H2 p2 (.lst ys)) p3 (.tup ys)) := same_upd hp3
      exact q _ p3 ys _ (sB.trans sD) (sB.free hp3) upd_same (dd2.sm (sC.trans sD)) pp (List.pairwise_map.mpr so)
end
end K23
namespace K23
open PySem PySem.Spec PyProof.Rows L2
theorem kp_list {H H1 : Hp} {l : Addr} {zs ys : List V} (h : H l = some (.lst zs)) : Kp H (upd H l (.lst ys)) := fun b o e n1 n2 => by
  have : b ≠ l := fun z => by
    rw [z, h] at e
    exact n1 _ (Option.some.inj e).symm
  rw [upd_ne this]
  exact e
theorem take_snoc {α : Type} {l : List α} {i : Nat} {x : α} (h : l[i]? = some x) : l.take (i + 1) = l.take i ++ [x] := by
  rw [List.take_add_one, h]
  rfl
theorem int_at {L : List Int} {i : Nat} {x : V} (h : (L.map V.int)[i]? = some x) : ∃ n, L[i]? = some n ∧ x = .int n := by
  rw [List.getElem?_map] at h
  cases e : L[i]? with
  | none => rw [e] at h; simp at h
  | some n =>
    rw [e] at h
    exact ⟨n, rfl, (Option.some.inj h).symm⟩
def ixs (g : List Nat) : List Int := g.map fun (i : Nat) => (i : Int)
theorem parts_len (t : Tr) : (parts t).length = (lv t).length := (srt_perm (lv t)).length_eq
theorem itT {c A B : Prop} [Decidable c] (h : c) (a : A) : if c then A else B := by
  rw [if_pos h]
  exact a
theorem itF {c A B : Prop} [Decidable c] (h : ¬ c) (b : B) : if c then A else B := by
  rw [if_neg h]
  exact b
theorem ixs_get {g : List Nat} {i j : Nat} (h : g[i]? = some j) : ((ixs g).map V.int)[i]? = some (.int (j : Nat)) := by
  rw [ixs, List.map_map, List.getElem?_map, h]
  rfl
theorem rg_range (n : Nat) : rgV 0 (n : Int) = (ixs (List.range n)).map V.int := by
  unfold rgV ixs
  rw [List.map_map, show ((n : Int) - 0).toNat = n by omega]
  exact List.map_congr_left fun i _ => by simp
theorem str_ne {a b : Str} (h : a ≠ b) : ¬ decide (V.str a = V.str b) = true := by
  intro q
  have := of_decide_eq_true q
  injection this with e
  exact h e
theorem str_eq {a b : Str} (h : a = b) : decide (V.str a = V.str b) = true := decide_eq_true (by rw [h])
theorem bare_ne : kname .line ≠ "bare" ∧ kname .free ≠ "bare" ∧ kname .free ≠ "line" ∧ kname .bare ≠ "free" ∧ kname .line ≠ "free" := by decide +kernel
theorem eqv_ints : ∀ a b : List Int, PyData.eqvAll (a.map PyData.int) (b.map PyData.int) = decide (a = b)
  | [], [] => by simp [PyData.eqvAll]
  | [], y :: b => by simp [PyData.eqvAll]
  | x :: a, [] => by simp [PyData.eqvAll]
  | x :: a, y :: b => by
    have ih := eqv_ints a b
    simp only [List.map_cons, PyData.eqvAll, PyData.eqv, ih]
    by_cases h : x = y <;> by_cases h2 : a = b <;> simp [h, h2]
theorem eqv_lot (a b : List Int) : PyData.eqv (lotD a) (lotD b) = decide (a = b) := by
  unfold lotD
  rw [PyData.eqv, eqv_ints]
theorem lay_ints : ∀ a : List Int, PyData.canLayAll0 (a.map PyData.int) = true
  | [] => by simp [PyData.canLayAll0]
  | x :: a => by simp [PyData.canLayAll0, PyData.canLay0, lay_ints a]
theorem dep_ints : ∀ a : List Int, PyData.depthAll (a.map PyData.int) = 0
  | [] => by simp [PyData.depthAll]
  | x :: a => by simp [PyData.depthAll, PyData.depth, dep_ints a]
theorem shaped_lot (a : List Int) : SeqAt.shaped (lotD a) = true := by
  show ((lotD a).canLay0 && decide ((lotD a).depth ≤ 64)) = true
  unfold lotD
  rw [Bool.and_eq_true]
  refine ⟨by rw [PyData.canLay0]; exact lay_ints a, decide_eq_true ?_⟩
  rw [PyData.depth, dep_ints]
  decide
theorem dp_ints {K : PySem.W.Frag} {H : Hp} : ∀ L : List Int, DpAll K H (L.map V.int) (L.map PyData.int)
  | [] => .nil
  | n :: L => .cons (.int n) (dp_ints L)
theorem filter_snoc {α : Type} (p : α → Bool) {l : List α} {i : Nat} {x : α} (h : l[i]? = some x) : (l.take (i + 1)).filter p = (l.take i).filter p ++ (if p x = true then [x] else []) := by
  rw [take_snoc h, List.filter_append]
  congr 1
  by_cases q : p x = true
  · simp [q]
  · simp [q]
def mask (l : Addr) (H : Hp) : Hp := fun b => if b = l then none else H b
theorem mask_upd {l : Addr} {H : Hp} {o : HO} : mask l (upd H l o) = mask l H := by
  funext b
  unfold mask
  by_cases h : b = l
  · rw [if_pos h, if_pos h]
  · rw [if_neg h, if_neg h, upd_ne h]
theorem mask_same {l : Addr} {H H' : Hp} (s : Same H H') : Same (mask l H) (mask l H') := fun b o e => by
  unfold mask at e ⊢
  by_cases h : b = l
  · rw [if_pos h] at e; cases e
  · rw [if_neg h] at e ⊢; exact s _ _ e
theorem mask_sub {l : Addr} {H : Hp} : Same (mask l H) H := fun b o e => by
  unfold mask at e
  by_cases h : b = l
  · rw [if_pos h] at e; cases e
  · rw [if_neg h] at e; exact e
theorem same_mask {l : Addr} {H H' : Hp} (s : Same H H') (h : H l = none) : Same H (mask l H') := fun b o e => by
  unfold mask
  rw [if_neg (ne_of_none e h)]
  exact s _ _ e
theorem mask_at {l b : Addr} {H : Hp} {o : HO} (h : H b = some o) (n : b ≠ l) : mask l H b = some o := by
  unfold mask
  rw [if_neg n]
  exact h
theorem flatten_take {α : Type} {Ls : List (List α)} {i : Nat} {L : List α} (h : Ls[i]? = some L) : (Ls.take (i + 1)).flatten = (Ls.take i).flatten ++ L := by
  rw [take_snoc h, List.flatten_append]
  simp
theorem flatten_take_len {α : Type} : ∀ (Ls : List (List α)) (i : Nat), (Ls.take i).flatten.length ≤ Ls.flatten.length
  | [], i => by simp
  | L :: Ls, 0 => by simp
  | L :: Ls, i + 1 => by
    have := flatten_take_len Ls i
    simp only [List.take_succ_cons, List.flatten_cons, List.length_append]
    omega
theorem flatten_mem_len {α : Type} : ∀ {Ls : List (List α)} {L : List α}, L ∈ Ls → L.length ≤ Ls.flatten.length
  | M :: Ls, L, h => by
    simp only [List.flatten_cons, List.length_append]
    rcases List.mem_cons.mp h with rfl | h
    · omega
    · have := flatten_mem_len h
      omega
/-- len of a list or a tuple, K told -/
abbrev rLen (K : PySem.W.Frag) : List V → Hp → VK → Prop := fun xs H Q => ∃ p ys, xs = [V.ref p] ∧ (SqL K H p ys ∨ SqT K H p ys) ∧ Q (V.int (ys.length : Nat)) H
end K23
namespace K23
open PySem PySem.Spec PyProof.Rows L2
/-! ### built trees, trees that stand right -/
def few : Kd → Nat
  | .bare => 2
  | .line => 3
  | .free => 3
theorem few_two (k : Kd) : 2 ≤ few k := by cases k <;> decide
mutual
def gd : Tr → Prop
  | .leaf n => 0 ≤ n
  | .knot k cs => few k ≤ cs.length ∧ gds cs
def gds : List Tr → Prop
  | [] => True
  | c :: cs => gd c ∧ gds cs
end
theorem gds_iff : ∀ {cs : List Tr}, gds cs ↔ ∀ c ∈ cs, gd c
  | [] => by simp [gds]
  | c :: cs => by simp [gds, gds_iff (cs := cs)]
theorem gd_leaf {n : Int} : gd (.leaf n) ↔ 0 ≤ n := by rw [gd]
theorem gd_knot {k : Kd} {cs : List Tr} : gd (.knot k cs) ↔ few k ≤ cs.length ∧ ∀ c ∈ cs, gd c := by rw [gd, gds_iff]
theorem gd.ok : ∀ t : Tr, gd t → K23.ok t := Tr.ind (fun n _ => by simp [K23.ok]) fun k cs ih h => by
  obtain ⟨h1, h2⟩ := gd_knot.mp h
  rw [K23.ok]
  exact ⟨Nat.le_trans (few_two k) h1, oks_iff.mpr fun c hc => ih c hc (h2 c hc)⟩
/-- the least part -/
def fst (t : Tr) : Int := (parts t).headD 0
def ord : Kd → List Int → Bool
  | .line, fs => decide (fs.headD 0 < fs.getLastD 0)
  | .bare, fs => decide (fs = srt fs)
  | .free, fs => decide (fs = srt fs)
mutual
def sr : Tr → Bool
  | .leaf _ => true
  | .knot k cs => ord k (cs.map fst) && srs cs
def srs : List Tr → Bool
  | [] => true
  | c :: cs => sr c && srs cs
end
theorem srs_all : ∀ {cs : List Tr}, srs cs = cs.all sr
  | [] => by simp [srs]
  | c :: cs => by simp [srs, srs_all (cs := cs)]
theorem sr_knot (k : Kd) (cs : List Tr) : sr (.knot k cs) = (ord k (cs.map fst) && cs.all sr) := by rw [sr, srs_all]
theorem headD_least : ∀ {l : List Int}, l.Pairwise (· ≤ ·) → l ≠ [] → l.headD 0 ∈ l ∧ ∀ y ∈ l, l.headD 0 ≤ y
  | [], _, h => absurd rfl h
  | x :: l, h, _ => by
    have h' := List.pairwise_cons.mp h
    refine ⟨by simp, fun y hy => ?_⟩
    rcases List.mem_cons.mp hy with rfl | hy
    · simp
    · exact h'.1 y hy
theorem fst_least (t : Tr) (h : lv t ≠ []) : fst t ∈ lv t ∧ ∀ y ∈ lv t, fst t ≤ y := by
  have hne : parts t ≠ [] := fun e => h (by
    have := (srt_perm (lv t)).length_eq
    rw [show srt (lv t) = parts t from rfl, e] at this
    exact List.eq_nil_of_length_eq_zero this.symm)
  obtain ⟨h1, h2⟩ := headD_least (srt_le (lv t)) hne
  exact ⟨mem_srt.mp h1, fun y hy => h2 y (mem_srt.mpr hy)⟩
theorem fst_is {t : Tr} {m : Int} (h1 : m ∈ lv t) (h2 : ∀ y ∈ lv t, m ≤ y) : fst t = m := by
  obtain ⟨h3, h4⟩ := fst_least t (List.ne_nil_of_mem h1)
  have := h2 _ h3
  have := h4 _ h1
  omega
/-- the least parts of children stand apart -/
theorem fst_inj {cs : List Tr} (ho : ∀ c ∈ cs, ok c) (hn : (lvs cs).Nodup) : (cs.map fst).Nodup := by
  induction cs with
  | nil => simp
  | cons c cs ih =>
    simp only [lvs] at hn
    have hn' := List.nodup_append.mp hn
    rw [List.map_cons, List.nodup_cons]
    refine ⟨fun h => ?_, ih (fun d hd => ho d (List.mem_cons_of_mem _ hd)) hn'.2.1⟩
    obtain ⟨d, hd, e⟩ := List.mem_map.mp h
    have h1 := (fst_least c (lv_ne c (ho c List.mem_cons_self))).1
    have h2 := (fst_least d (lv_ne d (ho d (List.mem_cons_of_mem _ hd)))).1
    rw [e] at h2
    exact hn'.2.2 _ h1 _ (mem_lvs.mpr ⟨d, hd, h2⟩) rfl
theorem ord_rev {k : Kd} {fs : List Int} (h2 : 2 ≤ fs.length) (hn : fs.Nodup) (h : ord k fs = true) : ord k fs.reverse = false := by
  have key : (fs = srt fs) → decide (fs.reverse = srt fs.reverse) = false := fun e => by
    rw [decide_eq_false_iff_not]
    intro e2
    rw [srt_congr (List.reverse_perm fs), ← e] at e2
    match fs, h2 with
    | a :: b :: r, _ =>
      have hs : (a :: b :: r).Pairwise (· ≤ ·) := by rw [e]; exact srt_le _
      have hs2 : (a :: b :: r).reverse.Pairwise (· ≤ ·) := by rw [e2]; exact hs
      rw [List.pairwise_reverse] at hs2
      have h3 := (List.pairwise_cons.mp hs).1 b (by simp)
      have h4 := (List.pairwise_cons.mp hs2).1 b (by simp)
      have : a ≠ b := fun z => (List.nodup_cons.mp hn).1 (by rw [z]; simp)
      omega
  cases k with
  | bare => exact key (of_decide_eq_true h)
  | free => exact key (of_decide_eq_true h)
  | line =>
    have h := of_decide_eq_true (show decide (fs.headD 0 < fs.getLastD 0) = true from h)
    show decide (fs.reverse.headD 0 < fs.reverse.getLastD 0) = false
    rw [decide_eq_false_iff_not]
    have e1 : fs.reverse.headD 0 = fs.getLastD 0 := by
      rw [List.headD_eq_head?_getD, List.head?_reverse, List.getLastD_eq_getLast?]
    have e2 : fs.reverse.getLastD 0 = fs.headD 0 := by
      rw [List.getLastD_eq_getLast?, List.getLast?_reverse, List.headD_eq_head?_getD]
    omega
theorem lvs_rev (cs : List Tr) : (lvs cs.reverse).Perm (lvs cs) := by
  rw [lvs_flat, lvs_flat]
  exact (List.reverse_perm cs).flatMap_right lv
theorem set_lvs {cs : List Tr} {i : Nat} {c d : Tr} (h : cs[i]? = some c) (p : (lv d).Perm (lv c)) : (lvs (cs.set i d)).Perm (lvs cs) := by
  induction cs generalizing i with
  | nil => simp at h
  | cons a cs ih =>
    match i with
    | 0 =>
      obtain rfl : a = c := by simpa using h
      simp only [List.set_cons_zero, lvs]
      exact p.append_right _
    | i + 1 =>
      simp only [List.set_cons_succ, lvs]
      exact (ih (i := i) (by simpa using h)).append_left _
theorem mem_set {α : Type} {cs : List α} {i : Nat} {d x : α} (h : x ∈ cs.set i d) : x = d ∨ x ∈ cs := by
  rcases List.mem_or_eq_of_mem_set h with h | h
  · exact .inr h
  · exact .inl h
theorem set_mem {α : Type} {cs : List α} {i : Nat} {c d : α} (h : cs[i]? = some c) : d ∈ cs.set i d := by
  have := (List.getElem?_eq_some_iff.mp h).1
  exact List.mem_of_getElem? (i := i) (List.getElem?_set_self this)
/-! ### any values -/
/-- int, text, tuple, or another thing -/
inductive Va
  | int (i : Int)
  | str (x : Str)
  | tup (l : List Va)
  | oth
theorem Va.ind {P : Va → Prop} (h1 : ∀ i, P (.int i)) (h2 : ∀ x, P (.str x)) (h3 : ∀ l, (∀ c ∈ l, P c) → P (.tup l)) (h4 : P .oth) : ∀ t, P t := fun t =>
  Va.rec (motive_1 := P) (motive_2 := fun cs => ∀ c ∈ cs, P c) h1 h2 (fun cs h => h3 cs h) h4 (fun c h => absurd h (by simp)) (fun c cs h1 h2 d hd => by
    rcases List.mem_cons.mp hd with e | e
    · rw [e]; exact h1
    · exact h2 d e) t
mutual
def encV : Tr → Va
  | .leaf n => .int n
  | .knot k cs => .tup [.str (kname k), .tup (encVs cs)]
def encVs : List Tr → List Va
  | [] => []
  | c :: cs => encV c :: encVs cs
end
theorem encVs_map : ∀ cs : List Tr, encVs cs = cs.map encV
  | [] => by simp [encVs]
  | c :: cs => by simp [encVs, encVs_map cs]
theorem encV_leaf (n : Int) : encV (.leaf n) = .int n := by rw [encV]
theorem encV_knot (k : Kd) (cs : List Tr) : encV (.knot k cs) = .tup [.str (kname k), .tup (cs.map encV)] := by rw [encV, encVs_map]
theorem kname_inj {k k' : Kd} (h : kname k = kname k') : k = k' := by
  cases k <;> cases k' <;> first | rfl | exact absurd h (by decide +kernel)
theorem map_inj {α β : Type} {f : α → β} : ∀ {l m : List α}, (∀ a ∈ l, ∀ b, f a = f b → a = b) → l.map f = m.map f → l = m
  | [], [], _, _ => rfl
  | [], _ :: _, _, h => by simp at h
  | _ :: _, [], _, h => by simp at h
  | a :: l, b :: m, hi, h => by
    simp only [List.map_cons, List.cons.injEq] at h
    rw [hi a List.mem_cons_self b h.1, map_inj (fun x hx => hi x (List.mem_cons_of_mem _ hx)) h.2]
theorem encV_inj : ∀ t u : Tr, encV t = encV u → t = u := Tr.ind (fun n u h => by
    cases u with
    | leaf m => rw [encV_leaf, encV_leaf] at h; injection h with h; rw [h]
    | knot k cs => rw [encV_leaf, encV_knot] at h; cases h) fun k cs ih u h => by
  cases u with
  | leaf m => rw [encV_leaf, encV_knot] at h; cases h
  | knot k' cs' =>
    rw [encV_knot, encV_knot] at h
    injection h with h
    injection h with h1 h
    injection h1 with h1
    injection h with h2 _
    injection h2 with h2
    rw [kname_inj h1, map_inj (fun c hc b e => ih c hc b e) h2]
/-- made of leaves and knots -/
def Blt (d : Va) : Prop := ∃ t, d = encV t ∧ gd t
theorem blt_int {i : Int} : Blt (.int i) ↔ 0 ≤ i := by
  constructor
  · rintro ⟨t, e, g⟩
    cases t with
    | leaf n => rw [encV_leaf] at e; injection e with e; rw [e]; exact gd_leaf.mp g
    | knot k cs => rw [encV_knot] at e; cases e
  · intro h
    exact ⟨.leaf i, (encV_leaf i).symm, gd_leaf.mpr h⟩
theorem blt_str {x : Str} : ¬ Blt (.str x) := by
  rintro ⟨t, e, g⟩
  cases t with
  | leaf n => rw [encV_leaf] at e; cases e
  | knot k cs => rw [encV_knot] at e; cases e
theorem blt_oth : ¬ Blt .oth := by
  rintro ⟨t, e, g⟩
  cases t with
  | leaf n => rw [encV_leaf] at e; cases e
  | knot k cs => rw [encV_knot] at e; cases e
theorem all_enc : ∀ {l : List Va}, (∀ d ∈ l, Blt d) → ∃ cs : List Tr, l = cs.map encV ∧ ∀ c ∈ cs, gd c
  | [], _ => ⟨[], rfl, by simp⟩
  | d :: l, h => by
    obtain ⟨t, e, g⟩ := h d List.mem_cons_self
    obtain ⟨cs, e2, g2⟩ := all_enc fun x hx => h x (List.mem_cons_of_mem _ hx)
    refine ⟨t :: cs, by rw [e, e2]; rfl, fun c hc => ?_⟩
    rcases List.mem_cons.mp hc with rfl | hc
    · exact g
    · exact g2 c hc
theorem blt_tup {l : List Va} : Blt (.tup l) ↔ ∃ (k : Kd) (ds : List Va), l = [.str (kname k), .tup ds] ∧ few k ≤ ds.length ∧ ∀ d ∈ ds, Blt d := by
  constructor
  · rintro ⟨t, e, g⟩
    cases t with
    | leaf n => rw [encV_leaf] at e; cases e
    | knot k cs =>
      rw [encV_knot] at e
      injection e with e
      obtain ⟨g1, g2⟩ := gd_knot.mp g
      refine ⟨k, _, e, by rw [List.length_map]; exact g1, fun d hd => ?_⟩
      obtain ⟨c, hc, rfl⟩ := List.mem_map.mp hd
      exact ⟨c, rfl, g2 c hc⟩
  · rintro ⟨k, ds, e, h1, h2⟩
    obtain ⟨cs, e2, g⟩ := all_enc h2
    refine ⟨.knot k cs, by rw [encV_knot, e, e2], gd_knot.mpr ⟨?_, g⟩⟩
    rw [e2, List.length_map] at h1
    exact h1
mutual
def vdep : Va → Nat
  | .int _ => 0
  | .str _ => 0
  | .oth => 0
  | .tup l => vdeps l + 1
def vdeps : List Va → Nat
  | [] => 0
  | c :: l => max (vdep c) (vdeps l)
end
theorem vdep_mem : ∀ {l : List Va} {c : Va}, c ∈ l → vdep c ≤ vdeps l
  | [], _, h => by simp at h
  | d :: l, c, h => by
    rw [vdeps]
    rcases List.mem_cons.mp h with rfl | h
    · omega
    · have := vdep_mem h
      omega
theorem vdeps_le {n : Nat} : ∀ {l : List Va}, (∀ c ∈ l, vdep c ≤ n) → vdeps l ≤ n
  | [], _ => by simp [vdeps]
  | d :: l, h => by
    rw [vdeps]
    have := h d List.mem_cons_self
    have := vdeps_le fun c hc => h c (List.mem_cons_of_mem _ hc)
    omega
theorem vdep_tup (l : List Va) : vdep (.tup l) = vdeps l + 1 := by rw [vdep]
/-- a tree's depth by its leaves -/
theorem vdep_enc : ∀ t : Tr, ok t → vdep (encV t) + 2 ≤ 2 * (lv t).length := Tr.ind (fun n _ => by simp [encV_leaf, vdep, lv]) fun k cs ih o => by
  obtain ⟨h2, hc⟩ := ok_knot o
  rw [encV_knot, vdep_tup]
  have h : vdeps (cs.map encV) + 4 ≤ 2 * (lv (.knot k cs)).length := by
    have hb : ∀ c ∈ cs, vdep (encV c) + 4 ≤ 2 * (lv (.knot k cs)).length := fun c hcm => by
      have := ih c hcm (hc c hcm)
      have := len_less o hcm
      omega
    have hl : 2 ≤ (lv (.knot k cs)).length := by
      match cs, h2 with
      | c :: cs, _ =>
        have := hb c List.mem_cons_self
        omega
    have : vdeps (cs.map encV) ≤ 2 * (lv (.knot k cs)).length - 4 := vdeps_le fun d hd => by
      obtain ⟨c, hcm, rfl⟩ := List.mem_map.mp hd
      have := hb c hcm
      omega
    omega
  simp only [vdeps, vdep, vdep_tup]
  omega
end K23
namespace K23
open PySem PySem.Spec PyProof.Rows L2
/-! ### one leaf replaced -/
inductive AtL (x : Va) : Tr → Va → Prop
  | here (n : Int) : AtL x (.leaf n) x
  | there {k : Kd} {cs : List Tr} {i : Nat} {c : Tr} {d : Va} : cs[i]? = some c → AtL x c d → AtL x (.knot k cs) (.tup [.str (kname k), .tup ((cs.map encV).set i d)])
theorem blt_set {k : Kd} {l : List Va} {i : Nat} {c d : Va} (h : l[i]? = some c) (n : ¬ Blt d) : ¬ Blt (.tup [.str (kname k), .tup (l.set i d)]) := fun b => by
  obtain ⟨k', ds, e, _, h2⟩ := blt_tup.mp b
  injection e with _ e
  injection e with e _
  injection e with e
  exact n (h2 d (by rw [← e]; exact set_mem h))
theorem get_map {α β : Type} {f : α → β} {l : List α} {i : Nat} {c : α} (h : l[i]? = some c) : (l.map f)[i]? = some (f c) := by rw [List.getElem?_map, h]; rfl
theorem AtL.bad {x : Va} {t : Tr} {d : Va} (h : AtL x t d) (n : ¬ Blt x) : ¬ Blt d := by
  induction h with
  | here _ => exact n
  | there hi _ ih => exact blt_set (get_map hi) ih
theorem set_enc {cs : List Tr} {i : Nat} {c : Tr} : (cs.map encV).set i (encV c) = (cs.set i c).map encV := by rw [List.map_set]
theorem gd_set {k : Kd} {cs : List Tr} {i : Nat} {c : Tr} (g : gd (.knot k cs)) (h : gd c) : gd (.knot k (cs.set i c)) := by
  obtain ⟨g1, g2⟩ := gd_knot.mp g
  refine gd_knot.mpr ⟨by rw [List.length_set]; exact g1, fun d hd => ?_⟩
  rcases mem_set hd with rfl | hd
  · exact h
  · exact g2 d hd
theorem lvs_set_len {cs : List Tr} {i : Nat} {c d : Tr} (h : cs[i]? = some c) (e : (lv d).length = (lv c).length) : (lvs (cs.set i d)).length = (lvs cs).length := by
  induction cs generalizing i with
  | nil => simp at h
  | cons a cs ih =>
    match i with
    | 0 =>
      obtain rfl : a = c := by simpa using h
      simp only [List.set_cons_zero, lvs, List.length_append, e]
    | i + 1 =>
      simp only [List.set_cons_succ, lvs, List.length_append]
      rw [ih (i := i) (by simpa using h)]
/-- a leaf that is a number -/
theorem AtL.num {m : Int} (hm : 0 ≤ m) : ∀ t : Tr, gd t → ∀ d : Va, AtL (.int m) t d → ∃ t', d = encV t' ∧ gd t' ∧ (lv t').length = (lv t).length ∧ m ∈ lv t' := Tr.ind (fun n g d h => by
    cases h
    exact ⟨.leaf m, (encV_leaf m).symm, gd_leaf.mpr hm, by simp [lv], by simp [lv]⟩) fun k cs ih g d h => by
  cases h with
  | there hi h =>
    rename_i i c d
    have hc := List.mem_of_getElem? hi
    obtain ⟨t', rfl, g', hl, hmem⟩ := ih c hc ((gd_knot.mp g).2 c hc) d h
    refine ⟨.knot k (cs.set i t'), by rw [encV_knot, set_enc], gd_set g g', ?_, ?_⟩
    · rw [lv_knot, lv_knot]
      exact lvs_set_len hi hl
    · rw [lv_knot]
      exact mem_lvs.mpr ⟨t', set_mem hi, hmem⟩
/-! ### one knot bent -/
inductive AtK (R : Kd → List Tr → Va → Prop) : Tr → Va → Prop
  | here {k : Kd} {cs : List Tr} {d : Va} : R k cs d → AtK R (.knot k cs) d
  | there {k : Kd} {cs : List Tr} {i : Nat} {c : Tr} {d : Va} : cs[i]? = some c → AtK R c d → AtK R (.knot k cs) (.tup [.str (kname k), .tup ((cs.map encV).set i d)])
theorem AtK.bad {R : Kd → List Tr → Va → Prop} (hR : ∀ k cs d, R k cs d → ¬ Blt d) {t : Tr} {d : Va} (h : AtK R t d) : ¬ Blt d := by
  induction h with
  | here r => exact hR _ _ _ r
  | there hi _ ih => exact blt_set (get_map hi) ih
def Rev (k : Kd) (cs : List Tr) (d : Va) : Prop := d = encV (.knot k cs.reverse)
theorem all_false {α : Type} {p : α → Bool} {l : List α} {x : α} (h : x ∈ l) (e : p x = false) : l.all p = false := by
  rw [List.all_eq_false]
  exact ⟨x, h, by simp [e]⟩
theorem AtK.turned : ∀ t : Tr, gd t → (lv t).Nodup → sr t = true → ∀ d : Va, AtK Rev t d → ∃ t', d = encV t' ∧ gd t' ∧ (lv t').Perm (lv t) ∧ sr t' = false ∧ ∃ k cs, t' = .knot k cs := Tr.ind (fun n g hn hs d h => by cases h) fun k cs ih g hn hs d h => by
  obtain ⟨g1, g2⟩ := gd_knot.mp g
  rw [lv_knot] at hn
  rw [sr_knot, Bool.and_eq_true] at hs
  cases h with
  | here r =>
    refine ⟨.knot k cs.reverse, r, gd_knot.mpr ⟨by rw [List.length_reverse]; exact g1, fun c hc => g2 c (List.mem_reverse.mp hc)⟩, ?_, ?_, _, _, rfl⟩
    · rw [lv_knot, lv_knot]
      exact lvs_rev cs
    · rw [sr_knot, List.map_reverse, ord_rev (by rw [List.length_map]; exact Nat.le_trans (few_two k) g1) (fst_inj (fun c hc => (g2 c hc).ok) hn) hs.1]
      rfl
  | there hi h =>
    rename_i i c d
    have hc := List.mem_of_getElem? hi
    obtain ⟨t', rfl, g', hp, hf, _⟩ := ih c hc (g2 c hc) (nd_child hn hc) (List.all_eq_true.mp hs.2 c hc) d h
    refine ⟨.knot k (cs.set i t'), by rw [encV_knot, set_enc], gd_set g g', ?_, ?_, _, _, rfl⟩
    · rw [lv_knot, lv_knot]
      exact set_lvs hi hp
    · rw [sr_knot, all_false (set_mem hi) hf, Bool.and_false]
/-! ### what is wrong -/
def rng (n : Nat) : List Int := ixs (List.range n)
theorem rng_ss (n : Nat) : SS (rng n) := by
  unfold rng ixs
  exact List.pairwise_map.mpr ((sn_range n).imp fun h => by omega)
theorem mem_rng {n : Nat} {x : Int} : x ∈ rng n ↔ 0 ≤ x ∧ x < n := by
  unfold rng ixs
  rw [List.mem_map]
  constructor
  · rintro ⟨i, hi, rfl⟩
    have := List.mem_range.mp hi
    omega
  · intro h
    exact ⟨x.toNat, List.mem_range.mpr (by omega), by omega⟩
theorem rng_len (n : Nat) : (rng n).length = n := by unfold rng ixs; rw [List.length_map, List.length_range]
/-- the parts are all numbers below their number -/
def full (t : Tr) : Bool := decide (parts t = rng (lv t).length)
theorem full_of {t : Tr} {n : Nat} (h : (lv t).Perm (rng n)) : full t = true := by
  have e := h.length_eq
  rw [rng_len] at e
  unfold full parts
  rw [e, srt_congr h, srt_of_ss (rng_ss n)]
  simp
theorem not_full {t : Tr} {m : Int} (h : m ∈ lv t) (hm : ((lv t).length : Int) ≤ m) : full t = false := by
  unfold full
  rw [decide_eq_false_iff_not]
  intro e
  have : m ∈ rng (lv t).length := by rw [← e]; exact mem_parts.mpr h
  have := (mem_rng.mp this).2
  omega
/-- which fault is told first -/
inductive Ver : Va → Option Int → Prop
  | bad {d : Va} : ¬ Blt d → Ver d (some 0)
  | lot {t : Tr} : gd t → full t = false → Ver (encV t) (some 1)
  | ord {t : Tr} : gd t → full t = true → sr t = false → Ver (encV t) (some 2)
  | none {t : Tr} : gd t → full t = true → sr t = true → Ver (encV t) none
theorem Ver.ex (d : Va) : ∃ r, Ver d r := by
  by_cases h : Blt d
  · obtain ⟨t, rfl, g⟩ := h
    by_cases f : full t = true
    · by_cases s : sr t = true
      · exact ⟨_, .none g f s⟩
      · exact ⟨_, .ord g f (by simpa using s)⟩
    · exact ⟨_, .lot g (by simpa using f)⟩
  · exact ⟨_, .bad h⟩
/-! ### knots -/
mutual
def knt : Tr → List (List Int × Kd × List (List Int))
  | .leaf _ => []
  | .knot k cs => knts cs ++ [(parts (.knot k cs), k, cs.map parts)]
def knts : List Tr → List (List Int × Kd × List (List Int))
  | [] => []
  | c :: cs => knt c ++ knts cs
end
theorem knts_flat : ∀ cs : List Tr, knts cs = cs.flatMap knt
  | [] => by simp [knts]
  | c :: cs => by simp [knts, knts_flat cs]
theorem knt_knot (k : Kd) (cs : List Tr) : knt (.knot k cs) = knts cs ++ [(parts (.knot k cs), k, cs.map parts)] := by rw [knt]
theorem mem_knt {z : List Int × Kd × List (List Int)} : ∀ t : Tr, z ∈ knt t ↔ ∃ k cs, Tr.knot k cs ∈ trees t ∧ z = (parts (.knot k cs), k, cs.map parts) := Tr.ind (fun n => by
    simp [knt, trees]) fun k cs ih => by
  rw [knt_knot, knts_flat, List.mem_append, List.mem_flatMap, List.mem_singleton]
  constructor
  · rintro (⟨c, hc, h⟩ | rfl)
    · obtain ⟨k', cs', h1, h2⟩ := (ih c hc).mp h
      exact ⟨k', cs', mem_trees.mpr (.inr ⟨c, hc, h1⟩), h2⟩
    · exact ⟨k, cs, mem_trees.mpr (.inl rfl), rfl⟩
  · rintro ⟨k', cs', h1, h2⟩
    rcases mem_trees.mp h1 with h1 | ⟨c, hc, h1⟩
    · injection h1 with e1 e2
      subst e1 e2
      exact .inr h2
    · exact .inl ⟨c, hc, (ih c hc).mpr ⟨k', cs', h1, h2⟩⟩
theorem strong_perm : ∀ t : Tr, (strong t).Perm ((lv t).map (fun p => [p]) ++ (knt t).map (·.1)) := Tr.ind (fun n => by
    simp [strong, trees, lv, knt, parts, srt, ins]) fun k cs ih => by
  have h : ((treess cs).map parts).Perm ((lvs cs).map (fun p => [p]) ++ (knts cs).map (·.1)) := by
    induction cs with
    | nil => simp [treess, lvs, knts]
    | cons c cs ih2 =>
      have h1 := ih c List.mem_cons_self
      have h2 := ih2 fun d hd => ih d (List.mem_cons_of_mem _ hd)
      simp only [treess, lvs, knts, List.map_append]
      refine (List.Perm.append h1 h2).trans ?_
      rw [List.append_assoc, List.append_assoc]
      refine List.Perm.append_left _ ?_
      rw [← List.append_assoc, ← List.append_assoc]
      exact (List.perm_append_comm).append_right _
  unfold strong
  rw [trees, List.map_cons, lv_knot, knt_knot, List.map_append, List.map_singleton, ← List.append_assoc]
  refine (List.Perm.cons _ h).trans ?_
  exact (List.perm_append_comm (l₁ := [parts (.knot k cs)]))
/-- a proper part of a tree has fewer leaves -/
theorem sub_less {k : Kd} {cs : List Tr} (o : ok (.knot k cs)) {c z : Tr} (hc : c ∈ cs) (hz : z ∈ trees c) : (lv z).length < (lv (.knot k cs)).length := by
  have := len_less o hc
  have := trees_short c z hz
  omega
theorem parts_lv {t u : Tr} (h : parts t = parts u) : (lv t).length = (lv u).length ∧ ∀ x, x ∈ lv t ↔ x ∈ lv u := by
  refine ⟨?_, fun x => ?_⟩
  · rw [← parts_len, ← parts_len, h]
  · rw [← mem_parts, ← mem_parts, h]
/-- a tree is told by its parts -/
theorem tree_one : ∀ t : Tr, Wf t → ∀ y ∈ trees t, ∀ z ∈ trees t, parts y = parts z → y = z := Tr.ind (fun n w y hy z hz _ => by
    rw [trees, List.mem_singleton] at hy hz
    rw [hy, hz]) fun k cs ih w y hy z hz e => by
  obtain ⟨el, em⟩ := parts_lv e
  rcases mem_trees.mp hy with rfl | ⟨c, hc, hy⟩
  · rcases mem_trees.mp hz with rfl | ⟨d, hd, hz⟩
    · rfl
    · have := sub_less w.ok hd hz
      omega
  · rcases mem_trees.mp hz with rfl | ⟨d, hd, hz⟩
    · have := sub_less w.ok hc hy
      omega
    · have oy := trees_ok c ((ok_knot w.ok).2 c hc) y hy
      obtain ⟨x, hx⟩ := List.exists_mem_of_ne_nil _ (lv_ne y oy)
      obtain ⟨i, hi, rfl⟩ := mem_child hc
      obtain ⟨j, hj, rfl⟩ := mem_child hd
      have ij := one w hi hj (trees_sub _ y hy x hx) (trees_sub _ z hz x ((em x).mp hx))
      subst ij
      exact ih _ hc (w.child hc) y hy z hz e
/-- lists that stand in order, of the same lots -/
theorem lex_anti : ∀ {a b : List Int}, HT.lexLt a b = false → HT.lexLt b a = false → a = b
  | [], [], _, _ => rfl
  | [], _ :: _, h, _ => by simp [HT.lexLt] at h
  | _ :: _, [], _, h => by simp [HT.lexLt] at h
  | x :: a, y :: b, h1, h2 => by
    rw [HT.lexLt_cons] at h1 h2
    by_cases e : x = y
    · subst e
      rw [if_pos rfl] at h1 h2
      rw [lex_anti h1 h2]
    · rw [if_neg e, decide_eq_false_iff_not] at h1
      rw [if_neg (Ne.symm e), decide_eq_false_iff_not] at h2
      omega
theorem lots_same {L M : List (List Int)} (hL : L.Pairwise fun a b => HT.lexLt b a = false) (hM : M.Pairwise fun a b => HT.lexLt b a = false) (p : L.Perm M) : L = M :=
  p.eq_of_pairwise (fun _ _ _ _ h1 h2 => lex_anti h2 h1) hL hM
end K23
namespace K23
open PySem PySem.Spec PyProof.Rows L2
/-- all stays but tables; lists stay lists -/
def Kl (H H' : Hp) : Prop := ∀ b o, H b = some o → (∀ ps, o ≠ .tbl ps) → H' b = some o ∨ ∃ xs ys, o = .lst xs ∧ H' b = some (.lst ys)
theorem kl_same {H H' : Hp} (s : Same H H') : Kl H H' := fun b o e _ => .inl (s b o e)
theorem Kl.tup {H H' : Hp} (k : Kl H H') {a : Addr} {xs : List V} (h : H a = some (.tup xs)) : H' a = some (.tup xs) := by
  rcases k a _ h (fun _ z => by cases z) with e | ⟨_, _, e, _⟩
  · exact e
  · cases e
theorem Kl.lst {H H' : Hp} (k : Kl H H') {a : Addr} {xs : List V} (h : H a = some (.lst xs)) : ∃ ys, H' a = some (.lst ys) := by
  rcases k a _ h (fun _ z => by cases z) with e | ⟨_, ys, _, e⟩
  · exact ⟨_, e⟩
  · exact ⟨ys, e⟩
theorem Kl.trans {H H1 H2 : Hp} (a : Kl H H1) (b : Kl H1 H2) : Kl H H2 := fun c o e n => by
  rcases a c o e n with h | ⟨xs, ys, h1, h2⟩
  · exact b c o h n
  · obtain ⟨zs, h3⟩ := b.lst h2
    exact .inr ⟨xs, zs, h1, h3⟩
theorem Kl.kp {H H' : Hp} (k : Kl H H') : Kp H H' := fun b o e n1 n2 => by
  rcases k b o e n2 with h | ⟨xs, _, h, _⟩
  · exact h
  · exact absurd h (n1 xs)
/-! ### any values in the heap -/
mutual
inductive Vd (H : Hp) : V → Va → Prop
  | int (i : Int) : Vd H (.int i) (.int i)
  | str (x : Str) : Vd H (.str x) (.str x)
  | bl (b : Bool) : Vd H (.bl b) .oth
  | non : Vd H .non .oth
  | lst {a : Addr} {xs : List V} : H a = some (.lst xs) → Vd H (.ref a) .oth
  | tup {a : Addr} {xs : List V} {ds : List Va} : H a = some (.tup xs) → Vds H xs ds → Vd H (.ref a) (.tup ds)
inductive Vds (H : Hp) : List V → List Va → Prop
  | nil : Vds H [] []
  | cons {v : V} {vs : List V} {d : Va} {ds : List Va} : Vd H v d → Vds H vs ds → Vds H (v :: vs) (d :: ds)
end
mutual
theorem Vd.kl {H H' : Hp} (k : Kl H H') : ∀ {v : V} {d : Va}, Vd H v d → Vd H' v d
  | _, _, .int i => .int i
  | _, _, .str x => .str x
  | _, _, .bl b => .bl b
  | _, _, .non => .non
  | _, _, .lst h => let ⟨_, e⟩ := k.lst h; .lst e
  | _, _, .tup h t => .tup (k.tup h) (t.kl k)
theorem Vds.kl {H H' : Hp} (k : Kl H H') : ∀ {vs : List V} {ds : List Va}, Vds H vs ds → Vds H' vs ds
  | _, _, .nil => .nil
  | _, _, .cons h t => .cons (h.kl k) (t.kl k)
end
theorem Vd.sm {H H' : Hp} {v : V} {d : Va} (h : Vd H v d) (s : Same H H') : Vd H' v d := h.kl (kl_same s)
theorem Vds.sm {H H' : Hp} {vs : List V} {ds : List Va} (h : Vds H vs ds) (s : Same H H') : Vds H' vs ds := h.kl (kl_same s)
theorem Vds.length {H : Hp} : ∀ {vs : List V} {ds : List Va}, Vds H vs ds → vs.length = ds.length
  | _, _, .nil => rfl
  | _, _, .cons _ t => congrArg Nat.succ t.length
theorem Vds.get {H : Hp} : ∀ {vs : List V} {ds : List Va}, Vds H vs ds → ∀ {i : Nat} {v : V}, vs[i]? = some v → ∃ d, ds[i]? = some d ∧ Vd H v d
  | _, _, .nil, i, v, h => by simp at h
  | _, _, .cons (d := d) h t, 0, v, e => ⟨d, rfl, by have e' := Option.some.inj e; subst e'; exact h⟩
  | _, _, .cons h t, i + 1, v, e => t.get (i := i) (by simpa using e)
theorem Vds.set {H : Hp} {v : V} {d : Va} (h : Vd H v d) : ∀ {vs : List V} {ds : List Va} {i : Nat}, Vds H vs ds → Vds H (vs.set i v) (ds.set i d)
  | _, _, _, .nil => .nil
  | _, _, 0, .cons _ t => .cons h t
  | _, _, i + 1, .cons a t => .cons a (Vds.set h t)
theorem Vds.app {H : Hp} : ∀ {vs ws : List V} {ds es : List Va}, Vds H vs ds → Vds H ws es → Vds H (vs ++ ws) (ds ++ es)
  | _, _, _, _, .nil, h => h
  | _, _, _, _, .cons a t, h => .cons a (t.app h)
theorem Vds.rev {H : Hp} : ∀ {vs : List V} {ds : List Va}, Vds H vs ds → Vds H vs.reverse ds.reverse
  | _, _, .nil => .nil
  | _, _, .cons a t => by
    rw [List.reverse_cons, List.reverse_cons]
    exact t.rev.app (.cons a .nil)
theorem Vds.take {H : Hp} : ∀ {vs : List V} {ds : List Va} (n : Nat), Vds H vs ds → Vds H (vs.take n) (ds.take n)
  | _, _, _, .nil => by simpa using Vds.nil
  | _, _, 0, _ => .nil
  | _, _, n + 1, .cons a t => .cons a (t.take n)
/-- a tree as a tree, as any value -/
theorem dts_vds {H : Hp} : ∀ {cs : List Tr} {vs : List V}, (∀ c ∈ cs, ∀ v, Dt H v (enc c) → Vd H v (encV c)) → Dts H vs (cs.map enc) → Vds H vs (cs.map encV)
  | [], _, _, .nil => .nil
  | c :: cs, _, h, .cons a t => .cons (h c List.mem_cons_self _ a) (dts_vds (fun d hd => h d (List.mem_cons_of_mem _ hd)) t)
theorem vds_dts {H : Hp} : ∀ {cs : List Tr} {vs : List V}, (∀ c ∈ cs, ∀ v, Vd H v (encV c) → Dt H v (enc c)) → Vds H vs (cs.map encV) → Dts H vs (cs.map enc)
  | [], _, _, .nil => .nil
  | c :: cs, _, h, .cons a t => .cons (h c List.mem_cons_self _ a) (vds_dts (fun d hd => h d (List.mem_cons_of_mem _ hd)) t)
theorem dt_vd {H : Hp} : ∀ (t : Tr) (v : V), Dt H v (enc t) → Vd H v (encV t) := Tr.ind (fun n v h => by
    obtain rfl := dt_leaf h
    rw [encV_leaf]
    exact .int n) fun k cs ih v h => by
  obtain ⟨a, b, vs, rfl, ha, hb, t⟩ := dt_knot h
  rw [encV_knot]
  exact .tup ha (.cons (.str _) (.cons (.tup hb (dts_vds ih t)) .nil))
theorem vd_tup {H : Hp} {v : V} {ds : List Va} (h : Vd H v (.tup ds)) : ∃ a xs, v = .ref a ∧ H a = some (.tup xs) ∧ Vds H xs ds := by
  cases h with
  | tup h t => exact ⟨_, _, rfl, h, t⟩
theorem vd_str {H : Hp} {v : V} {x : Str} (h : Vd H v (.str x)) : v = .str x := by cases h; rfl
theorem vd_int {H : Hp} {v : V} {i : Int} (h : Vd H v (.int i)) : v = .int i := by cases h; rfl
theorem vds_two {H : Hp} {vs : List V} {a b : Va} (h : Vds H vs [a, b]) : ∃ x y, vs = [x, y] ∧ Vd H x a ∧ Vd H y b := by
  cases h with
  | cons h1 t =>
    cases t with
    | cons h2 t =>
      cases t
      exact ⟨_, _, rfl, h1, h2⟩
theorem vd_dt {H : Hp} : ∀ (t : Tr) (v : V), Vd H v (encV t) → Dt H v (enc t) := Tr.ind (fun n v h => by
    rw [encV_leaf] at h
    obtain rfl := vd_int h
    rw [enc]
    exact .int n) fun k cs ih v h => by
  rw [encV_knot] at h
  obtain ⟨a, xs, rfl, ha, t⟩ := vd_tup h
  obtain ⟨x, y, rfl, h1, h2⟩ := vds_two t
  obtain rfl := vd_str h1
  obtain ⟨b, ys, rfl, hb, t2⟩ := vd_tup h2
  exact dt_mk ha hb (vds_dts ih t2)
def isTup : Va → Bool
  | .tup _ => true
  | _ => false
def isStr : Va → Bool
  | .str _ => true
  | _ => false
theorem Vd.isTup {K : PySem.W.Frag} {H : Hp} {v : V} {d : Va} (h : Vd H v d) : ∃ t, TyX K H v t ∧ PySem.W.kitOne K t (.type "tuple") = some (isTup d) := by
  cases h with
  | int i => exact ⟨_, .base (.int i), kit_ty (show kitB "int" "tuple" = some false by decide +kernel)⟩
  | str x => exact ⟨_, .base (.str x), kit_ty (show kitB "str" "tuple" = some false by decide +kernel)⟩
  | bl b => exact ⟨_, .base (.bl b), kit_ty (show kitB "bool" "tuple" = some false by decide +kernel)⟩
  | non => exact ⟨_, .base .non, kit_ty (show kitB "NoneType" "tuple" = some false by decide +kernel)⟩
  | lst e => exact ⟨_, .base (.lst e), kit_ty (show kitB "list" "tuple" = some false by decide +kernel)⟩
  | tup e t => exact ⟨_, .base (.tup e), kit_ty (show kitB "tuple" "tuple" = some true by decide +kernel)⟩
theorem Vd.isStr {K : PySem.W.Frag} {H : Hp} {v : V} {d : Va} (h : Vd H v d) : ∃ t, TyX K H v t ∧ PySem.W.kitOne K t (.type "str") = some (isStr d) := by
  cases h with
  | int i => exact ⟨_, .base (.int i), kit_ty (show kitB "int" "str" = some false by decide +kernel)⟩
  | str x => exact ⟨_, .base (.str x), kit_ty (show kitB "str" "str" = some true by decide +kernel)⟩
  | bl b => exact ⟨_, .base (.bl b), kit_ty (show kitB "bool" "str" = some false by decide +kernel)⟩
  | non => exact ⟨_, .base .non, kit_ty (show kitB "NoneType" "str" = some false by decide +kernel)⟩
  | lst e => exact ⟨_, .base (.lst e), kit_ty (show kitB "list" "str" = some false by decide +kernel)⟩
  | tup e t => exact ⟨_, .base (.tup e), kit_ty (show kitB "tuple" "str" = some false by decide +kernel)⟩
section
variable {P : Program} {w : World} {K : PySem.W.Frag} {mg : Str → Option Value} {base : Heap}
/-! is_integer -/
abbrev s5 : Stmt := top 5
theorem sc5 : FnScope ["value"] ["value"] (defScope s5) := ⟨rfl, rfl, rfl, by decide +kernel, rfl, by decide +kernel, by decide +kernel⟩
def isI : Va → Bool
  | .int _ => true
  | _ => false
def sp5 : Sp := fun vs H Q _ => ∃ v d, vs = [v] ∧ Vd H v d ∧ Q (.bl (isI d)) H
theorem ok5 {f : Addr} {fd : FuncData} (F : Fun K "is_integer" "is_integer" s5 f fd) (Z : Zs mg) : FnOk P w K mg base CX0 1 f fd ["value"] sp5 := by
  refine F.ok sc5 (fun vs H Q E h => ?_) (fun cdv A outer s H vs Q E hr h => ?_)
  · obtain ⟨v, t, rfl, _⟩ := h
    rfl
  obtain ⟨v, d, rfl, hd, q⟩ := h
  refine ⟨_, pss_one (ps_ret (pe_and (pe_callB call_isi rfl Z.isi (by decide +kernel) (pa_cons (pv 0) (pa_cons (pe_bltn (v := .ty "int") rfl Z.int (by decide +kernel) rfl) pa_nil)))
    (pe_one (pe_not (pe_callB call_isi rfl Z.isi (by decide +kernel) (pa_cons (pv 0) (pa_cons (pe_bltn (v := .ty "bool") rfl Z.bool (by decide +kernel) rfl) pa_nil))))))), ?_⟩
  cases hd with
  | int i =>
    refine ⟨_, rfl, _, _, _, _, true, rfl, .ty _, .base (.int i), kit_ty (by decide +kernel), _, rfl, ?_⟩
    exact itT rfl ⟨_, rfl, _, _, _, _, false, rfl, .ty _, .base (.int i), kit_ty (by decide +kernel), _, rfl, q⟩
  | str x =>
    refine ⟨_, rfl, _, _, _, _, false, rfl, .ty _, .base (.str x), kit_ty (by decide +kernel), _, rfl, ?_⟩
    exact itF (by decide) q
  | bl b =>
    refine ⟨_, rfl, _, _, _, _, true, rfl, .ty _, .base (.bl b), kit_ty (by decide +kernel), _, rfl, ?_⟩
    exact itT rfl ⟨_, rfl, _, _, _, _, true, rfl, .ty _, .base (.bl b), kit_ty (by decide +kernel), _, rfl, q⟩
  | non =>
    refine ⟨_, rfl, _, _, _, _, false, rfl, .ty _, .base .non, kit_ty (by decide +kernel), _, rfl, ?_⟩
    exact itF (by decide) q
  | lst e =>
    refine ⟨_, rfl, _, _, _, _, false, rfl, .ty _, .base (.lst e), kit_ty (by decide +kernel), _, rfl, ?_⟩
    exact itF (by decide) q
  | tup e t =>
    refine ⟨_, rfl, _, _, _, _, false, rfl, .ty _, .base (.tup e), kit_ty (by decide +kernel), _, rfl, ?_⟩
    exact itF (by decide) q
end
end K23
namespace K23
open PySem PySem.Spec PyProof.Rows L2
/-! ### values of some depth -/
def Sm : Nat → Va → Prop
  | 0, .tup _ => False
  | n + 1, .tup l => l.length ≤ 100 ∧ ∀ c ∈ l, Sm n c
  | _, _ => True
theorem sm_int (n : Nat) (i : Int) : Sm n (.int i) := by cases n <;> simp [Sm]
theorem sm_str (n : Nat) (i : Str) : Sm n (.str i) := by cases n <;> simp [Sm]
theorem sm_oth (n : Nat) : Sm n .oth := by cases n <;> simp [Sm]
theorem smt {n : Nat} {l : List Va} : Sm (n + 1) (.tup l) ↔ l.length ≤ 100 ∧ ∀ c ∈ l, Sm n c := by rw [Sm]
theorem Sm.succ : ∀ {n : Nat} {d : Va}, Sm n d → Sm (n + 1) d
  | _, .int i, _ => sm_int _ i
  | _, .str i, _ => sm_str _ i
  | _, .oth, _ => sm_oth _
  | 0, .tup l, h => by rw [Sm] at h; exact h.elim
  | n + 1, .tup l, h => by
    obtain ⟨h1, h2⟩ := smt.mp h
    exact smt.mpr ⟨h1, fun c hc => (h2 c hc).succ⟩
theorem Sm.mono {n m : Nat} {d : Va} (h : Sm n d) (e : n ≤ m) : Sm m d := by
  induction e with
  | refl => exact h
  | step _ ih => exact ih.succ
theorem sm_two {n : Nat} {a b : Va} (ha : Sm n a) (hb : Sm n b) : Sm (n + 1) (.tup [a, b]) := smt.mpr ⟨by simp, fun c hc => by
  rcases List.mem_cons.mp hc with rfl | hc
  · exact ha
  · obtain rfl : c = b := by simpa using hc
    exact hb⟩
theorem sm_enc : ∀ t : Tr, ok t → ∀ m : Nat, (lv t).length ≤ m → m ≤ 100 → Sm (2 * m) (encV t) := Tr.ind (fun n _ m _ _ => by rw [encV_leaf]; exact sm_int _ _) fun k cs ih o m hm h1 => by
  have hb : ∀ c ∈ cs, (lv c).length ≤ m - 1 := fun c hc => by
    have := len_less o hc
    omega
  have hl : cs.length ≤ (lvs cs).length := cs_len (ok_knot o).2
  rw [lv_knot] at hm
  have h2 := (ok_knot o).1
  obtain ⟨j, rfl⟩ : ∃ j, m = j + 1 := ⟨m - 1, by omega⟩
  rw [encV_knot, show 2 * (j + 1) = 2 * j + 1 + 1 by omega]
  refine sm_two (sm_str _ _) (smt.mpr ⟨by rw [List.length_map]; omega, fun d hd => ?_⟩)
  obtain ⟨c, hc, rfl⟩ := List.mem_map.mp hd
  exact ih c hc ((ok_knot o).2 c hc) j (hb c hc) (by omega)
/-- the table of the fewest children -/
structure FewD (K : PySem.W.Frag) (w : World) (mg : Str → Option Value) (d : Addr) : Prop where
  g : mg "FEWEST_CHILDREN" = some (.ref d)
  D : ∃ es n, KDict K w d es n
  at_ : ∀ k : Kd, ∃ t, PySem.W.nsIn K d (kname k) = some (some (.int (few k : Nat) t))
  no : ∀ z : Str, (∀ k : Kd, z ≠ kname k) → PySem.W.nsIn K d z = some none
section
variable {P : Program} {w : World} {K : PySem.W.Frag} {mg : Str → Option Value} {base : Heap}
/-! is_built -/
abbrev s6 : Stmt := top 6
abbrev N6 : List Str := ["value", "kind", "children", "child"]
theorem sc6 : FnScope N6 ["value"] (defScope s6) := ⟨rfl, rfl, rfl, by decide +kernel, rfl, by decide +kernel, by decide +kernel⟩
def sp6 (n : Nat) : Sp := fun vs H Q _ => ∃ v d m, vs = [v] ∧ Vd H v d ∧ m < n ∧ Sm (2 * m) d ∧ ∀ (b : Bool) (H' : Hp), (b = true ↔ Blt d) → Same H H' → Q (.bl b) H'
set_option maxHeartbeats 1000000 in
theorem ok6_step {n : Nat} {f f5 dF : Addr} {fd fd5 : FuncData} (D : Df K mg "is_built" s6 f fd ["value"]) (D5 : Df K mg "is_integer" s5 f5 fd5 ["value"]) (F : FewD K w mg dF) (Z : Zs mg)
    (G : FnOk P w K mg base CX0 (n + 1) f fd ["value"] (sp6 n)) : FnOk P w K mg base CX0 (n + 2) f fd ["value"] (sp6 (n + 1)) := by
  have G5 : FnOk P w K mg base CX0 1 f5 fd5 ["value"] sp5 := ok5 D5.F Z
  obtain ⟨es, nn, KD⟩ := F.D
  refine D.F.ok sc6 (fun vs H Q E h => ?_) (fun cdv A outer s H vs Q E hr h => ?_)
  · obtain ⟨v, d, m, rfl, _⟩ := h
    rfl
  obtain ⟨v, d, m, rfl, hd, hm, hs, q⟩ := h
  have hr1 : Room 1 _ := hr.mono (by omega)
  refine ⟨_, pss_cons (ps_if (pt_val (pe_call G5 hr1 rfl D5.g D5.F.kp D5.b .nil pass0 (pa_cons (pv 0) pa_nil))) (pss_one (ps_ret (pe_cmpR op_ge (pv 0) pe_int (nomark _)))) pss_nil)
    (pss_cons (ps_if (PW.pt (pw_or (pt_not (pt_truth (pe_callB call_isi rfl Z.isi (by decide +kernel) (pa_cons (pv 0) (pa_cons (pe_bltn (v := .ty "tuple") rfl Z.tup (by decide +kernel) rfl) pa_nil))) (fun _ => rfl)))
        (pw_or1 (pt_cmpR op_ne (pe_callB (r := rLen K) call_len_seq rfl Z.len PySem.boot_len (pa_cons (pv 0) pa_nil)) pe_int (nomark _))))) (pss_one (ps_ret pe_bl)) pss_nil)
    (pss_cons (ps_asg (pv 0) (pg_tup (n := 2) rfl (pgs_cons (pg_name (i := 1) sc6.nd rfl (.inl rfl)) (pgs_cons (pg_name (i := 2) sc6.nd rfl (.inl rfl)) pgs_nil))))
    (pss_cons (ps_if (PW.pt (pw_or (pt_not (pt_truth (pe_callB call_isi rfl Z.isi (by decide +kernel) (pa_cons (pv 1) (pa_cons (pe_bltn (v := .ty "str") rfl Z.str (by decide +kernel) rfl) pa_nil))) (fun _ => rfl)))
        (pw_or (pt_cmpR (op_notIn_kd KD) (pv 1) (pe_glob (v := .ref dF) rfl F.g rfl) (by with_unfolding_all rfl))
          (pw_or1 (pt_not (pt_truth (pe_callB call_isi rfl Z.isi (by decide +kernel) (pa_cons (pv 2) (pa_cons (pe_bltn (v := .ty "tuple") rfl Z.tup (by decide +kernel) rfl) pa_nil))) (fun _ => rfl))))))) (pss_one (ps_ret pe_bl)) pss_nil)
    (pss_one (ps_ret (pe_and (pe_cmpR op_ge (pe_callB (r := rLen K) call_len_seq rfl Z.len PySem.boot_len (pa_cons (pv 2) pa_nil)) (pe_ix ix_kdict (pe_glob (v := .ref dF) rfl F.g rfl) (pv 1) (fun _ _ => rfl)) (nomark _))
        (pe_one (pe_callB (r := rAll K) (cr_all rfl) rfl Z.all (by decide +kernel) (pa_cons
          (pe_lc (own := [("child", 3)]) (g := gName 3) (tt := tYes) rfl sc6.nd (pi_tup (pv 2)) (blkOk_by (N := N6) (sc := defScope s6) (by decide +kernel))
            (fun _ _ _ _ _ => pg_name (i := 3) sc6.nd rfl (.inl rfl)) (fun _ _ _ _ _ => pts_nil) (fun _ _ _ _ _ => pe_call G hr rfl D.g D.F.kp D.b .nil pass0 (pa_cons (pv 3) pa_nil))) pa_nil))))))))), ?_⟩
  refine ⟨_, rfl, v, d, rfl, hd, _, rfl, ?_⟩
  obtain ⟨tt, tx, hk⟩ := hd.isTup (K := K)
  cases d with
  | int i =>
    obtain rfl := vd_int hd
    refine itT rfl ⟨_, rfl, _, _, rfl, rfl, q _ _ ?_ (Same.refl _)⟩
    rw [blt_int]
    exact decide_eq_true_iff
  | str x => exact itF (by simp [isI]) ⟨_, rfl, _, _, _, _, _, rfl, .ty _, tx, hk, _, rfl, itT rfl (itT rfl (q _ _ (by simp [blt_str]) (Same.refl _)))⟩
  | oth => exact itF (by simp [isI]) ⟨_, rfl, _, _, _, _, _, rfl, .ty _, tx, hk, _, rfl, itT rfl (itT rfl (q _ _ (by simp [blt_oth]) (Same.refl _)))⟩
  | tup l =>
    obtain ⟨a, xs, rfl, ha, t⟩ := vd_tup hd
    refine itF (by simp [isI]) ⟨_, rfl, _, _, _, _, _, rfl, .ty _, tx, hk, _, rfl, ?_⟩
    have hlx := t.length
    refine itF (by simp [isTup]) ?_
    refine ⟨_, rfl, a, xs, rfl, .inr (SqT.of ha), rfl, _, rfl, ?_⟩
    by_cases hx2 : xs.length = 2
    · rw [show decide (V.int ((xs.length : Nat) : Int) = V.int 2) = true by rw [hx2]; decide]
      refine itF (by decide) ?_
      match l, hlx.symm.trans hx2 with
      | [da, db], _ =>
      obtain ⟨x, y, rfl, hx, hy⟩ := vds_two t
      refine ⟨_, rfl, a, _, rfl, SqT.of ha, rfl, x, [y], rfl, y, [], rfl, rfl, ?_⟩
      obtain ⟨tx1, ty1, hk1⟩ := hx.isStr (K := K)
      obtain ⟨tx2, ty2, hk2⟩ := hy.isTup (K := K)
      refine ⟨_, rfl, _, _, _, _, _, rfl, .ty _, ty1, hk1, _, rfl, ?_⟩
      have no : (∀ k ds, ([da, db] : List Va) = [.str (kname k), .tup ds] → False) → (false = true ↔ Blt (.tup [da, db])) := fun h => ⟨fun z => Bool.noConfusion z, fun z => by
        obtain ⟨k, ds, e, _⟩ := blt_tup.mp z
        exact (h k ds e).elim⟩
      by_cases hst : isStr da = true
      · obtain ⟨z, rfl⟩ : ∃ z, da = .str z := by
          cases da with
          | str z => exact ⟨z, rfl⟩
          | int _ => cases hst
          | oth => cases hst
          | tup _ => cases hst
        obtain rfl := vd_str hx
        refine itF (by simp [isStr]) ?_
        by_cases hz : ∃ k : Kd, z = kname k
        · obtain ⟨k, rfl⟩ := hz
          obtain ⟨tk, hat⟩ := F.at_ k
          refine ⟨_, rfl, _, _, rfl, rfl, hat, _, rfl, ?_⟩
          refine itF (by simp) ?_
          refine ⟨_, rfl, _, _, _, _, _, rfl, .ty _, ty2, hk2, _, rfl, ?_⟩
          by_cases htu : isTup db = true
          · obtain ⟨ds, rfl⟩ : ∃ ds, db = .tup ds := by
              cases db with
              | tup ds => exact ⟨ds, rfl⟩
              | int _ => cases htu
              | oth => cases htu
              | str _ => cases htu
            refine itF (by simp [isTup]) ?_
            obtain ⟨b, ys, rfl, hb, t2⟩ := vd_tup hy
            have hly := t2.length
            have iff : Blt (.tup [.str (kname k), .tup ds]) ↔ few k ≤ ds.length ∧ ∀ c ∈ ds, Blt c := by
              rw [blt_tup]
              constructor
              · rintro ⟨k', ds', e, h1, h2⟩
                injection e with e1 e
                injection e1 with e1
                injection e with e _
                injection e with e
                subst e
                rw [kname_inj e1]
                exact ⟨h1, h2⟩
              · rintro ⟨h1, h2⟩
                exact ⟨k, ds, rfl, h1, h2⟩
            refine ⟨_, rfl, b, ys, rfl, .inr (SqT.of hb), _, rfl, _, _, .int (few k : Nat), rfl, rfl, ⟨es, nn, _, KD.at_, KD.lit, hat, ⟨tk, rfl⟩⟩, _, _, rfl, rfl, _, rfl, ?_⟩
            by_cases hf : few k ≤ ds.length
            · refine itT (decide_eq_true (by omega)) ?_
              obtain ⟨m', rfl⟩ : ∃ m', m = m' + 1 := by
                cases m with
                | zero => exact absurd hs (by simp [Sm])
                | succ m' => exact ⟨m', rfl⟩
              rw [show 2 * (m' + 1) = 2 * m' + 1 + 1 by omega] at hs
              obtain ⟨_, hs1⟩ := smt.mp hs
              obtain ⟨hs2, hs3⟩ := smt.mp (hs1 (.tup ds) (by simp))
              refine ⟨_, rfl, b, rfl, ⟨_, SqT.of hb⟩, fun dd hdd => ?_⟩
              refine lc_it (walk_tup (K := K) (xs := ys)) (fun j H' => Same H H' ∧ ∃ bs : List Bool, H' dd = some (.lst (bs.map V.bl)) ∧ bs.length = j ∧ j ≤ ys.length ∧ (bs.all id = true ↔ ∀ c ∈ ds.take j, Blt c)) ⟨same_upd hdd, [], upd_same, rfl, Nat.zero_le _, by simp⟩ (fun j H' _ ⟨s2, _⟩ => SqT.of (s2 _ _ hb)) ?_ ?_
              · rintro j u H0 H1 hj ⟨s1, bs, hbs, hbl, _, hbi⟩ ⟨rfl, hu⟩
                obtain ⟨c, hcj, hcd⟩ := t2.get hu
                have hcm := List.mem_of_getElem? hcj
                refine ⟨rfl, ?_⟩
                refine iteT (B := True) ?_
                refine ⟨_, rfl, u, c, m', rfl, hcd.sm s1, by omega, hs3 c hcm, fun b' H3 hb' s3 => ?_⟩
                refine ⟨_, s3 _ _ hbs, ?_, same_upd2 (s1.trans s3) hdd, bs ++ [b'], ?_, ?_, hj, ?_⟩
                · rw [List.length_map]
                  exact small1000 (by omega)
                · rw [upd_same, List.map_append]
                  rfl
                · rw [List.length_append, hbl]
                  rfl
                · rw [take_snoc hcj, List.all_append, Bool.and_eq_true, hbi]
                  constructor
                  · rintro ⟨h1, h2⟩ c' hc'
                    rcases List.mem_append.mp hc' with h | h
                    · exact h1 c' h
                    · obtain rfl : c' = c := by simpa using h
                      exact hb'.mp (by simpa using h2)
                  · intro h
                    exact ⟨fun c' hc' => h c' (List.mem_append_left _ hc'), by simpa using hb'.mpr (h c (by simp))⟩
              · rintro H1 ⟨s1, bs, hbs, hbl, _, hbi⟩
                rw [hly, List.take_length] at hbi
                refine ⟨dd, bs, rfl, SqL.of hbs, q _ _ ?_ s1⟩
                rw [iff, hbi]
                exact ⟨fun h => ⟨hf, h⟩, fun h => h.2⟩
            · refine itF (fun z => hf (by have := of_decide_eq_true z; omega)) (q _ _ ?_ (Same.refl _))
              rw [iff]
              exact ⟨fun z => Bool.noConfusion z, fun z => absurd z.1 hf⟩
          · refine itT (by simp [htu]) (q _ _ (no fun k' ds e => htu ?_) (Same.refl _))
            injection e with _ e
            injection e with e _
            rw [e]
            rfl
        · refine ⟨_, rfl, _, _, rfl, rfl, F.no z (fun k e => hz ⟨k, e⟩), _, rfl, ?_⟩
          refine itT (by simp) (q _ _ (no fun k' ds e => hz ⟨k', ?_⟩) (Same.refl _))
          injection e with e _
          injection e
      · refine itT (by simp [hst]) (q _ _ (no fun k' ds e => hst ?_) (Same.refl _))
        injection e with e _
        rw [e]
        rfl
    · rw [show decide (V.int ((xs.length : Nat) : Int) = V.int 2) = false from decide_eq_false fun e => hx2 (by injection e with e; omega)]
      refine itT (by decide) (q _ _ ?_ (Same.refl _))
      refine ⟨fun z => Bool.noConfusion z, fun h => ?_⟩
      obtain ⟨k, ds, e, _⟩ := blt_tup.mp h
      rw [e] at hlx
      exact absurd hlx hx2
theorem none6 {k : Nat} {f : Addr} {fd : FuncData} : FnOk P w K mg base CX0 k f fd ["value"] (sp6 0) := by
  have no : ∀ vs H Q E, ¬ sp6 0 vs H Q E := fun vs H Q E h => by
    obtain ⟨v, d, m, _, _, hm, _⟩ := h
    exact absurd hm (Nat.not_lt_zero m)
  exact ⟨fun vs H Q E h => absurd h (no vs H Q E), fun A outer s H args us vs Q E _ _ _ _ h => absurd h (no vs H Q E)⟩
theorem ok6 {f f5 dF : Addr} {fd fd5 : FuncData} (D : Df K mg "is_built" s6 f fd ["value"]) (D5 : Df K mg "is_integer" s5 f5 fd5 ["value"]) (F : FewD K w mg dF) (Z : Zs mg) : ∀ n, FnOk P w K mg base CX0 (n + 1) f fd ["value"] (sp6 n)
  | 0 => none6
  | n + 1 => ok6_step D D5 F Z (ok6 D D5 F Z n)
end
end K23
/-! own exceptions that derive from an own class over Exception, with an __init__ that keeps its arguments -/
namespace Err
open PySem PySem.W PySem.Calls PyProof.Rows PySem.HandSPX
open Builtin Builtin.ObjectAttr
abbrev tail3 : List Value := [.type "Exception", .type "BaseException", .type "object"]
/-- own classes, then those of Exception -/
def refsEx : List Value → Bool
  | .ref _ :: r => refsEx r
  | l => l == tail3
theorem refsEx_or (l : List Value) (e : refsEx l = true) : (∃ c r, l = .ref c :: r ∧ refsEx r = true) ∨ l = tail3 := by
  cases l with
  | nil => exact .inr (beq_iff_eq.mp e)
  | cons v r =>
    cases v with
    | ref c => exact .inl ⟨c, r, rfl, e⟩
    | _ => exact .inr (beq_iff_eq.mp e)
theorem refsEx_ind {p : List Value → Prop} (h0 : p tail3) (hs : ∀ c r, refsEx r = true → p r → p (.ref c :: r)) : ∀ l, refsEx l = true → p l := fun l => by
  induction l with
  | nil => exact fun e => absurd e (by decide)
  | cons v r ih =>
    intro e
    rcases refsEx_or _ e with ⟨c, r', q, h⟩ | q
    · obtain ⟨rfl, rfl⟩ := List.cons.inj q
      exact hs c r h (ih h)
    · rw [q]; exact h0
theorem refsEx_pass (x : Value) : ∀ l, refsEx l = true → refuseLoop x "__setattr__" l = pure () := refsEx_ind (F.store_Exception.passes x) fun c r _ h => by rw [refuseLoop_ref]; exact h
theorem refsEx_has (X : String) : ∀ l, refsEx l = true → l.contains (.type X) = tail3.contains (.type X) := refsEx_ind rfl fun c r _ h => by
  rw [List.contains_cons, h]
  rfl
theorem refsEx_ne {l : List Value} (e : refsEx l = true) : l.isEmpty = false := by
  cases l with
  | nil => exact absurd e (by decide)
  | cons _ _ => rfl
section
variable {prog : Program} {w : World} {A : Around} {R : Result → Shared → Prop} {hp : Heap} {g : Array GenState} {d : Drawn} {t : Nat} {os : OsState}
/-- x.name = v, the first field of a fresh exception -/
theorem put_first {K : W.Frag} {name : Str} {tk : Tok} {v : Value} {x C : Addr} {fv : Array Value} {cl : ClassData} (X : K.In hp) (hx : hp.get? x = some { cls := .ref C, data := .fields fv }) (hcl : W.clsIn K C = some cl) (hm : refsEx cl.mro = true) (hh : cl.hasDict = true)
    (ha : W.findIn K (.ref C) name = some none)
    (hq : ∀ h' tk' dx, (∀ b o, b ≠ x → hp.get? b = some o → h'.get? b = some o) → hp.objs.size ≤ dx → dx ≠ x → h'.get? x = some { cls := .ref C, dict := some dx, data := .fields fv } → h'.Ns1 dx (fun y => if y = name then some v else none) → R (.ok (.ret .none)) ⟨h', g, d, tk', os⟩) :
    codeAny (model prog w) A (.call (.builtin "object.__setattr__") ⟨[.ref x, .str name tk, v], []⟩) R ⟨hp, g, d, t, os⟩ := by
  have at_ : W.InstAt hp x { cls := .ref C, data := .fields fv } C none := ⟨hx, rfl, rfl, trivial⟩
  have st := F.store_object
  have hob : cl.mro.contains (.type "object") = true := by rw [refsEx_has "object" _ hm]; decide +kernel
  have nx : x ≠ hp.objs.size := Nat.ne_of_lt (Heap.lt_size hx)
  have isO : W.Looks (model prog w) hp (isInstance (.ref x) (.type "object")) true := at_.type.andThen (W.looks_mroIn X (by
    unfold W.mroIn
    rw [hcl, Option.bind_some, if_neg (by rw [refsEx_ne hm]; decide), hob]))
  have own : W.Looks (model prog w) hp (classData C) cl := W.looks_clsIn X hcl
  have takes : W.Looks (model prog w) hp (storeTaker? none) none := .now
  have ways : W.Looks (model prog w) hp (mroOf (.ref C)) cl.mro := own.andThen .now
  refine codeAny_call_builtin st.slot.plain st.entry (@W.check_slot (model prog w) _ _ ⟨hp, g, d, t, os⟩ "object.__setattr__" "object" "__setattr__" (.ref x) [.str name tk, v] [] _ st.kind st.split isO (st.args (.ref x) (.str name tk) v) ?_)
  rw [W.osa_eq, refuse_eq]
  refine wpAny_bind (wpAny_bind (at_.type.at (wpAny_bind (ways.at ?_))))
  rw [refsEx_pass _ _ hm]
  refine wpAny_pure (wpAny_bind (at_.type.at (wpAny_bind ((W.looks_findIn X ha).at (wpAny_bind (takes.at ?_))))))
  show wpAny _ _ (storeInOwnDict (.ref x) (.ref C) (.str name tk) name v false) _ _ _
  obtain ⟨c1, c2, c3, c4, c5, c6, c7, c8, c9, c10, c11⟩ := cl
  dsimp only at hh
  subst hh
  unfold storeInOwnDict ownDictForStores
  repeat (first | with_reducible refine store_in_new ?_ ?_ | with_reducible refine wpAny_loadPart_at hx ?_ | with_reducible refine own.at ?_ | wp_step)
  · exact ⟨_, #[], _, (Heap.get?_update_ne _ _ _ _ nx.symm).trans (Heap.get?_push_at rfl rfl), rfl, fun e he => absurd he (by simp), fun _ => rfl⟩
  · intro h' tk' hn' sb
    have hx1 : (hp.push { cls := .type "dict", data := .dict #[] }).get? x = some { cls := .ref C, data := .fields fv } := Heap.get?_push_of_some _ hx
    refine hq h' tk' hp.objs.size (fun b o nb ho => ?_) (Nat.le_refl _) nx.symm ?_ hn'
    · exact (sb.2 b (Nat.ne_of_lt (Heap.lt_size ho))).trans ((Heap.get?_update_ne _ _ _ _ nb).trans (Heap.get?_push_of_some _ ho))
    · exact (sb.2 x nx).trans (Heap.get?_update_self _ hx1 rfl)
end
end Err
namespace Err
open PySem PySem.Spec PyProof.Rows L2
/-- what the written part says of such a class -/
structure Oex (K : PySem.W.Frag) (C : Addr) : Prop where
  cls : ∃ nm q N bs bm sn sub ab col dd k0 k1 k2 k3 k5, K.lookup C = some (excClassObj nm q C N bs bm true sn sub ab col dd k0 k1 k2 k3 k5 "Exception.__new__") ∧ refsEx bm = true
  sa : PySem.W.findIn K (.ref C) "__setattr__" = some (some (.builtin "object.__setattr__"))
  exC : PySem.W.subIn K (.ref C) (.type "BaseException") = some true
  tyC : PySem.W.typeIn K (.ref C) = some (.type "type")
  kC : PySem.W.keepIn K (.ref C) = true
section
variable {X : Cx} {pins : List (Addr × Obj)} {σ : L2.St} {H : Hp} {s : Shared} {a C : Addr} {f : Str} {y : V} {u : Value} {Q : Unit → Shared → Prop} {E : Value → Shared → Prop} {A : Around}
/-- self.f = y, the first one -/
theorem first_ok (T : Oex X.K C) (I : Inv X pins σ H s) (e : H a = some (exo a C none)) (hno : PySem.W.findIn X.K (.ref C) f = some none) (ry : RelV y u)
    (h : ∀ dx s', H dx = none → dx ≠ a → Inv X pins σ (upd (upd H dx (exd dx [(f, y)])) a (exo a C (some dx))) s' → Q () s') : wpAny (model X.prog X.w) A (setAttr (.ref a) f u) Q E s := by
  obtain ⟨nm, q, N, bs, bm, sn, sub, ab, col, dd, k0, k1, k2, k3, k5, hC, hbm⟩ := T.cls
  have hcl : PySem.W.clsIn X.K C = some { name := nm, bases := bs, mro := .ref C :: bm, ns := N, qualname := q, hasDict := true, slotNames := sn, subclasses := sub, abstract := ab, collection := col, hasDel := false } := by
    unfold PySem.W.clsIn
    rw [hC] <;> rfl
  obtain ⟨t1, ho⟩ := exo_at I.hok e
  obtain ⟨hp, g, d, t, os⟩ := s
  refine PySem.W.set_plain I.kIn (ox := { cls := .ref C, dict := none, data := .fields #[.ref t1, .none, .none, .none, .bool false, .none] }) (od := none) ⟨ho, rfl, rfl, trivial⟩ T.sa (put_first I.kIn ho hcl (show refsEx (.ref C :: bm) = true from hbm) rfl hno fun h' tk' dx k dn dne hx hn => ?_)
  have free : H dx = none := I.hok.fresh dn
  have low : ∀ {b : Addr} {o : Obj}, hp.get? b = some o → b ≠ dx := fun {b o} z => Nat.ne_of_lt (Nat.lt_of_lt_of_le (Heap.lt_size z) dn)
  have off : ∀ {b : Addr}, H b = none → b ≠ a := fun {b} n z => by rw [z, e] at n; cases n
  have U : Un X.fs [] H (upd (upd H dx (exd dx [(f, y)])) a (exo a C (some dx))) hp h' :=
    ⟨fun b o z n _ _ => k b o (off n) z, fun b o z n _ _ => ⟨o.slots, k b o (off n) z⟩, fun b o z n _ => by rw [upd_ne (off n), upd_ne (low z)]; exact n,
      fun b o z _ => by
        by_cases hb : b = a
        · exact ⟨_, by rw [hb]; exact hx⟩
        · exact ⟨o, k b o hb z⟩,
      fun b xs z => by rw [upd_ne (at_ne e z exo_tup), upd_ne (ne_of_none z free)]; exact z,
      fun b o v z => by rw [upd_ne (at_ne e z exo_frz), upd_ne (ne_of_none z free)]; exact z,
      fun b ps z => ⟨#[], by rw [upd_ne (at_ne e z exo_tbl), upd_ne (ne_of_none z free), z]; simp⟩⟩
  refine h dx _ free dne (I.un (t' := tk') U fun b o z => ?_)
  by_cases hb : b = a
  · rw [hb] at z ⊢
    rw [upd_same] at z
    cases z
    exact exo_ok hx
  rw [upd_ne hb] at z
  by_cases hd : b = dx
  · rw [hd] at z ⊢
    rw [upd_same] at z
    cases z
    exact exd_ok hn (relO_put (fs := []) ry fun _ => True.intro)
  rw [upd_ne hd] at z
  refine (I.hok b o z).stay (fun c v hc r => k c v ?_ r) (fun c hc => by rw [upd_ne (at_ne e hc exo_own), upd_ne (ne_of_none hc free)]; exact hc) fun c xs hc => by rw [upd_ne (at_ne e hc exo_tup), upd_ne (ne_of_none hc free)]; exact hc
  rcases hc with hc | hc
  · rw [hc]; exact hb
  · exact at_ne e hc exo_own
/-- self.f = e in such an __init__ -/
def tPut (K : PySem.W.Frag) (f : Str) (to te : TE) : TS := fun D σ H => te σ H fun y H1 => to σ H1 fun x H2 => ∃ a C : Addr, x = .ref a ∧ Oex K C ∧ PySem.W.findIn K (.ref C) f = some none ∧
  H2 a = some (exo a C none) ∧ ∀ dx, H2 dx = none → dx ≠ a → D.nx σ (upd (upd H2 dx (exd dx [(f, y)])) a (exo a C (some dx)))
variable {o ex : Expr} {es : List Expr} {to te : TE} {ta : TA} {p p' pos : Pos}
theorem ps_put (ho : PE X o to) (he : PE X ex te) (hs : swapsWith ex (some (.Attribute o f p')) pos.line X.env = pure false := by rfl) : PS X (.Assign [.Attribute o f p'] ex pos) (tPut X.K f to te) := by
  refine ⟨fun pins s σ H D I h => plainObj_wpAny_Assign_Attribute (thn (he.run pins s σ H _ I h) fun v s1 ⟨y, H1, I1, r1, q1⟩ => thn (ho.run pins s1 σ H1 _ I1 q1) fun u s2 ⟨x, H2, I2, r2, a, C, e1, T, hno, e2, q⟩ => ?_) hs⟩
  subst e1
  obtain rfl : u = Value.ref a := r2
  exact first_ok T I2 e2 hno r1 fun dx s' n ne J => ⟨σ, _, J, q dx n ne⟩
/-- C(e, ..) by such an __init__ -/
theorem pmk_ex {CX : CXT} {x : Str} {C fI : Addr} {k : Nat} {fd : FuncData} {ps : List Str} {sp : Sp} {ds : List Value} {dvs : List V} (T : Oex X.K C) (iC : PySem.W.findIn X.K (.ref C) "__init__" = some (some (.ref fI))) (tI : PySem.W.typeIn X.K (.ref fI) = some (.type "function"))
    (G : FnOk X.prog X.w X.K X.mg X.base CX k fI fd ps sp) (hr : Room (k + 1) X.A) (hb : Binds X.K fd ps ds) (hd : Vals dvs ds) (hx : Passes CX X (fun _ _ _ => False)) (hg : Gl X x) (hm : X.mg x = some (.ref C)) (ha : PA X (ex :: es) ta)
    (hdb : (x == ("__debug__" : Str)) = false := by decide) (he : starEach (ex :: es) X.env = (false, eval ex X.env) :: starEach es X.env := by rfl) (hpl : (backTo pos (starEach es X.env)).any (·.1) = false := by rfl) :
    PMk X (.Call (.Name x p) (ex :: es) [] pos) (tMkO C sp dvs ta) := by
  intro pins s σ H Q I h
  obtain ⟨nm, q, N, bs, bm, sn, sub, ab, col, dd, k0, k1, k2, k3, k5, hC, hbm⟩ := T.cls
  refine wpAny_Call_Name_kw (ld_glob I hg hm ?_ hdb)
  refine PySem.W.callWith_K (h₀ := X.base) I.ok.mod.kin T.kC (thn (ha.run pos pins s σ H _ I h) fun us s1 ⟨vs, H1, I1, r1, hz, q1⟩ => ⟨I1.kIn, ?_⟩) he hpl
  show wpAny _ _ (call (.ref C) us) _ _ _
  obtain ⟨hp, g, dr, tk, os⟩ := s1
  have up1 : hp.objs.size ≤ hp.objs.size + 1 := Nat.le_succ _
  have q2 := q1 (hp.objs.size + 1) (I1.hok.fresh up1)
  have kept : ∀ b o, hp.get? b = some o → ((hp.push (PySem.W.kdv_tup us)).push (PySem.HandSPX.excO C hp.objs.size)).get? b = some o := fun b o e => Heap.get?_push_of_some _ (Heap.get?_push_of_some _ e)
  have there : ((hp.push (PySem.W.kdv_tup us)).push (PySem.HandSPX.excO C hp.objs.size)).get? (hp.objs.size + 1) = some (PySem.HandSPX.excO C hp.objs.size) := by heap_get
  have I2 : Inv X pins σ (upd H1 (hp.objs.size + 1) (exo (hp.objs.size + 1) C none)) ⟨(hp.push (PySem.W.kdv_tup us)).push (PySem.HandSPX.excO C hp.objs.size), g, dr, tk, os⟩ := I1.laid (t' := tk) kept up1 (exo_ok there)
  have r2 : Vals (V.ref (hp.objs.size + 1) :: (vs ++ dvs)) (Value.ref (hp.objs.size + 1) :: (us ++ ds)) := .cons rfl (r1.append hd)
  have hl : (Value.ref (hp.objs.size + 1) :: us ++ ds).length = ps.length := by
    have e := r2.length
    rw [G.len _ _ _ _ q2] at e
    exact e.symm
  have hus : us.length ≤ sizeLine := by
    have := Paired.length r1
    rw [sizeLine_eq]
    omega
  have run := G.run _ X.stack _ _ ⟨Value.ref (hp.objs.size + 1) :: us, []⟩ (Value.ref (hp.objs.size + 1) :: (us ++ ds)) _ _ (fun _ _ _ => False) (hr.make C us []) (I2.env0.make C us []) (hb _ (Value.ref (hp.objs.size + 1) :: us) I2.kIn hl) r2 q2
  refine wpAny_call (PySem.HandSPX.call_own F.excBase_Exception (fun Y => refsEx_has Y bm hbm) (I1.kIn _ _ hC) (PySem.W.looks_findIn I1.kIn iC) (fun self => PySem.W.bind_fn I1.kIn self tI) hus (codeAny_mono run fun r s' hq => ?_))
  cases r with
  | error er => exact hx pins σ _ _ er s' I2 hq
  | ok fl =>
    cases fl with
    | ret u =>
      obtain ⟨v, H2, os2, bare2, un2, hok2, rv, ev, d, fs, ea, ed, hd1, q3⟩ := hq
      subst ev
      obtain ⟨h2, g2, d2, t2, os'⟩ := s'
      exact ⟨rv, mk_end (raises_own T.exC T.tyC) I1 up1 kept un2 hok2 os2 bare2 ea ed hd1 q3⟩
    | next => exact False.elim hq
    | brk => exact False.elim hq
    | cont => exact False.elim hq
end
end Err
namespace K23
open PySem PySem.Spec PyProof.Rows L2
theorem fst_at {t : Tr} (o : ok t) : atI ((parts t).map V.int) 0 = some (.int (fst t)) := by
  have hne : parts t ≠ [] := fun e => by
    have := parts_len t
    rw [e] at this
    exact lv_ne t o (List.eq_nil_of_length_eq_zero this.symm)
  unfold fst
  cases hp : parts t with
  | nil => exact absurd hp hne
  | cons x l => exact atI_nat (j := 0) rfl
theorem eqv_lists (a b : List Int) : PyData.eqv (.list (a.map PyData.int)) (.list (b.map PyData.int)) = decide (a = b) := by
  rw [PyData.eqv, eqv_ints]
theorem shaped_ls (a : List Int) : SeqAt.shaped (.list (a.map PyData.int)) = true := by
  show ((PyData.list (a.map PyData.int)).canLay0 && decide ((PyData.list (a.map PyData.int)).depth ≤ 64)) = true
  rw [Bool.and_eq_true]
  refine ⟨by rw [PyData.canLay0]; exact lay_ints a, decide_eq_true ?_⟩
  rw [PyData.depth, dep_ints]
  decide
theorem head_map {fs : List Int} (h : fs ≠ []) : atI (fs.map V.int) 0 = some (.int (fs.headD 0)) := by
  cases fs with
  | nil => exact absurd rfl h
  | cons x l => exact atI_nat (j := 0) rfl
theorem last_map {fs : List Int} (h : fs ≠ []) : atI (fs.map V.int) (-1) = some (.int (fs.getLastD 0)) := by
  obtain ⟨ys, z, rfl⟩ : ∃ ys z, fs = ys ++ [z] := ⟨_, _, (List.dropLast_concat_getLast h).symm⟩
  rw [List.map_append]
  rw [show (ys ++ [z]).getLastD 0 = z by simp]
  exact atI_last _ _
section
variable {P : Program} {w : World} {K : PySem.W.Frag} {mg : Str → Option Value} {base : Heap}
/-! stands_right -/
abbrev s7 : Stmt := top 7
abbrev N7 : List Str := ["tree", "kind", "children", "firsts", "right", "child"]
theorem sc7 : FnScope N7 ["tree"] (defScope s7) := ⟨rfl, rfl, rfl, by decide +kernel, rfl, by decide +kernel, by decide +kernel⟩
def sp7 (n : Nat) : Sp := fun vs H Q _ => ∃ v t, vs = [v] ∧ Dt H v (enc t) ∧ ok t ∧ (lv t).length ≤ n ∧ n ≤ 100 ∧ ∀ H', Same H H' → Q (.bl (sr t)) H'
set_option maxHeartbeats 1000000 in
theorem ok7_step {n : Nat} {f f1 f2 fu : Addr} {fd fd1 fd2 fdu : FuncData} (D : Df K mg "stands_right" s7 f fd ["tree"]) (D1 : Df K mg "is_leaf" s1 f1 fd1 ["tree"]) (DU : Df K mg "union_of" sU fu fdu ["lots"]) (D2 : Df K mg "parts_of" s2 f2 fd2 ["shape"]) (Z : Zs mg)
    (G : FnOk P w K mg base CX0 (n + 2) f fd ["tree"] (sp7 n)) : FnOk P w K mg base CX0 (n + 3) f fd ["tree"] (sp7 (n + 1)) := by
  have G1 : FnOk P w K mg base CX0 1 f1 fd1 ["tree"] sp1 := ok1 D1.F Z
  have G2 : FnOk P w K mg base CX0 (n + 2) f2 fd2 ["shape"] (sp2 (n + 1)) := ok2 D2 D1 DU Z (n + 1)
  refine D.F.ok sc7 (fun vs H Q E h => ?_) (fun cdv A outer s H vs Q E hr h => ?_)
  · obtain ⟨v, t, rfl, _⟩ := h
    rfl
  obtain ⟨v, t, rfl, hd, ho, hl, hn, q⟩ := h
  have hu := hr.units
  have hr1 : Room 1 _ := hr.mono (by omega)
  refine ⟨_, pss_cons (ps_if (pt_truth (pe_call G1 hr1 rfl D1.g D1.F.kp D1.b .nil pass0 (pa_cons (pv 0) pa_nil)) (fun _ => rfl)) (pss_one (ps_ret pe_bl)) pss_nil)
    (pss_cons (ps_asg (pv 0) (pg_tup (n := 2) rfl (pgs_cons (pg_name (i := 1) sc7.nd rfl (.inl rfl)) (pgs_cons (pg_name (i := 2) sc7.nd rfl (.inl rfl)) pgs_nil))))
    (pss_cons (ps_setLc (i := 3) (own := [("child", 5)]) (g := gName 5) (tt := tYes) rfl sc7.nd rfl rfl (sw_true rfl rfl rfl (by decide +kernel)) (pi_tup (pv 2)) (blkOk_by (N := N7) (sc := defScope s7) (by decide +kernel))
        (fun _ _ _ _ _ => pg_name (i := 5) sc7.nd rfl (.inl rfl)) (fun _ _ _ _ _ => pts_nil) (fun _ _ _ _ _ => pe_ix (r := rIxT K) ix_tup (pe_call G2 hr rfl D2.g D2.F.kp D2.b .nil pass0 (pa_cons (pv 5) pa_nil)) pe_int (fun _ _ => rfl)))
    (pss_cons (ps_if (pt_cmpR op_eq (pv 1) pe_str (nomark _))
        (pss_one (ps_set (i := 4) sc7.nd rfl (.inl rfl) (pe_cmpR op_lt (pe_ix ix_list (pv 3) pe_int (fun _ _ => rfl)) (pe_ix ix_list (pv 3) (pe_un un_neg pe_int) (fun _ _ => rfl)) (nomark _))))
        (pss_one (ps_set (i := 4) sc7.nd rfl (.inl rfl) (pe_cmpR (op_eqD hu) (pv 3) (pe_callB cr_sortedI rfl Z.sorted boot_sorted (pa_cons (pv 3) pa_nil)) (nomark _)))))
    (pss_one (ps_ret (pe_and (pv 4) (pe_one (pe_callB (r := rAll K) (cr_all rfl) rfl Z.all (by decide +kernel) (pa_cons
          (pe_lc (own := [("child", 5)]) (g := gName 5) (tt := tYes) rfl sc7.nd (pi_tup (pv 2)) (blkOk_by (N := N7) (sc := defScope s7) (by decide +kernel))
            (fun _ _ _ _ _ => pg_name (i := 5) sc7.nd rfl (.inl rfl)) (fun _ _ _ _ _ => pts_nil) (fun _ _ _ _ _ => pe_call G hr rfl D.g D.F.kp D.b .nil pass0 (pa_cons (pv 5) pa_nil))) pa_nil))))))))), ?_⟩
  cases t with
  | leaf m =>
    obtain rfl := dt_leaf hd
    refine ⟨_, rfl, _, _, rfl, hd, true, rfl, ?_⟩
    refine iteT ?_
    have := q _ (Same.refl H)
    rwa [sr] at this
  | knot k cs =>
    obtain ⟨a, b, xs, rfl, ha, hb, hx⟩ := dt_knot hd
    obtain ⟨h2c, hoc⟩ := ok_knot ho
    have hlx := hx.length
    rw [List.length_map] at hlx
    have hcl := cs_len hoc
    rw [lv_knot] at hl
    refine ⟨_, rfl, _, _, rfl, hd, false, rfl, ?_⟩
    refine iteF ?_
    refine ⟨_, rfl, a, _, rfl, SqT.of ha, rfl, .str (kname k), [.ref b], rfl, .ref b, [], rfl, rfl, ?_⟩
    refine ⟨_, rfl, b, rfl, ⟨_, SqT.of hb⟩, fun dd hdd => ?_⟩
    refine lc_it (walk_tup (K := K) (xs := xs)) (fun j H' => Same H H' ∧ j ≤ xs.length ∧ H' dd = some (.lst (((cs.take j).map fst).map V.int))) ⟨same_upd hdd, Nat.zero_le _, upd_same⟩ (fun j H' _ ⟨s2, _⟩ => SqT.of (s2 _ _ hb)) ?_ ?_
    · rintro j u H0 H1 hj ⟨s1, _, hz⟩ ⟨rfl, hu⟩
      obtain ⟨c, hcj, hc, hdt⟩ := child_dt hx hu
      have := len_child hc
      refine ⟨rfl, ?_⟩
      refine iteT (B := True) ?_
      refine ⟨_, rfl, u, c, rfl, hdt.sm s1, hoc c hc, by omega, by omega, fun H3 p s3 hp0 hpp => ⟨p, _, 0, _, rfl, rfl, SqT.of hpp, fst_at (hoc c hc), ?_⟩⟩
      refine ⟨_, s3 _ _ hz, ?_, same_upd2 (s1.trans s3) hdd, hj, ?_⟩
      · rw [List.length_map, List.length_map, List.length_take]
        exact small1000 (by omega)
      · rw [upd_same, take_snoc hcj, List.map_append, List.map_append]
        rfl
    rintro H1 ⟨s1, _, hz⟩
    rw [hlx, List.take_length] at hz
    have hfl : (cs.map fst).length = cs.length := List.length_map _
    have hf0 : cs.map fst ≠ [] := fun e => by rw [e] at hfl; simp at hfl; omega
    have hb1 := s1 _ _ hb
    have hx1 := hx.sm s1
    refine ⟨_, rfl, rfl, _, rfl, ?_⟩
    refine ite2 (fun hk => ?_) (fun hk => ?_)
    refine ⟨_, rfl, dd, _, 0, _, rfl, rfl, SqL.of hz, head_map hf0, _, rfl, 1, rfl, dd, _, -1, _, rfl, rfl, SqL.of hz, last_map hf0, _, _, rfl, rfl, ?_⟩
    have ek : k = .line := kname_inj (by have := of_decide_eq_true hk; injection this)
    dsimp only
    rw [show decide ((cs.map fst).headD 0 < (cs.map fst).getLastD 0) = ord k (cs.map fst) by rw [ek]; rfl]
    revert s1
    generalize H1 = H2
    rotate_left
    refine ⟨_, rfl, _, rfl, dd, cs.map fst, rfl, SqL.of hz, fun ns' p pm so hp0 => ?_⟩
    have sp1 : Same H1 (upd H1 p (.lst (ns'.map V.int))) := same_upd hp0
    refine ⟨.list ((cs.map fst).map PyData.int), .list (ns'.map PyData.int), .lst (SqL.of (sp1 _ _ hz)) (dp_ints _), .lst (SqL.of upd_same) (dp_ints _), shaped_ls _, shaped_ls _, ?_⟩
    have ek : k ≠ .line := fun e => hk (by rw [e]; exact decide_eq_true rfl)
    dsimp only
    rw [eqv_lists, show decide (cs.map fst = ns') = ord k (cs.map fst) by
      rw [srt_uniq pm so]
      cases k with
      | bare => rfl
      | line => exact absurd rfl ek
      | free => rfl]
    have s2 := s1.trans sp1
    revert s2
    generalize upd H1 p (.lst (ns'.map V.int)) = H2
    all_goals
      intro s2
      refine ⟨_, rfl, _, rfl, ?_⟩
      have hq : sr (.knot k cs) = (ord k (cs.map fst) && cs.all sr) := sr_knot k cs
      by_cases hor : ord k (cs.map fst) = true
      · refine itT hor ?_
        have hb2 := s2 _ _ hb
        have hx2 := hx.sm s2
        refine ⟨_, rfl, b, rfl, ⟨_, SqT.of hb2⟩, fun d2 hd2 => ?_⟩
        refine lc_it (walk_tup (K := K) (xs := xs)) (fun j H' => Same H2 H' ∧ j ≤ xs.length ∧ H' d2 = some (.lst (((cs.take j).map sr).map V.bl))) ⟨same_upd hd2, Nat.zero_le _, upd_same⟩ (fun j H' _ ⟨s3, _⟩ => SqT.of (s3 _ _ hb2)) ?_ ?_
        · rintro j u H0 H3 hj ⟨s3, _, hz3⟩ ⟨rfl, hu⟩
          obtain ⟨c, hcj, hc, hdt⟩ := child_dt hx2 hu
          have := len_less ho hc
          rw [lv_knot] at this
          refine ⟨rfl, ?_⟩
          refine iteT (B := True) ?_
          refine ⟨_, rfl, u, c, rfl, hdt.sm s3, hoc c hc, by omega, by omega, fun H4 s4 => ?_⟩
          refine ⟨_, s4 _ _ hz3, ?_, same_upd2 (s3.trans s4) hd2, hj, ?_⟩
          · rw [List.length_map, List.length_map, List.length_take]
            exact small1000 (by omega)
          · rw [upd_same, take_snoc hcj, List.map_append, List.map_append]
            rfl
        · rintro H3 ⟨s3, _, hz3⟩
          rw [hlx, List.take_length] at hz3
          refine ⟨d2, _, rfl, SqL.of hz3, ?_⟩
          have := q H3 (s2.trans s3)
          rw [hq, hor, Bool.true_and] at this
          rw [List.all_map]
          exact this
      · refine itF hor ?_
        have := q _ s2
        rw [hq, show ord k (cs.map fst) = false by simpa using hor, Bool.false_and] at this
        exact this
theorem none7 {k : Nat} {f : Addr} {fd : FuncData} : FnOk P w K mg base CX0 k f fd ["tree"] (sp7 0) := by
  have no : ∀ vs H Q E, ¬ sp7 0 vs H Q E := fun vs H Q E h => by
    obtain ⟨v, t, _, _, ho, hl, _⟩ := h
    exact lv_ne t ho (List.eq_nil_of_length_eq_zero (by omega))
  exact ⟨fun vs H Q E h => absurd h (no vs H Q E), fun A outer s H args us vs Q E _ _ _ _ h => absurd h (no vs H Q E)⟩
theorem ok7 {f f1 f2 fu : Addr} {fd fd1 fd2 fdu : FuncData} (D : Df K mg "stands_right" s7 f fd ["tree"]) (D1 : Df K mg "is_leaf" s1 f1 fd1 ["tree"]) (DU : Df K mg "union_of" sU fu fdu ["lots"]) (D2 : Df K mg "parts_of" s2 f2 fd2 ["shape"]) (Z : Zs mg) : ∀ n, FnOk P w K mg base CX0 (n + 2) f fd ["tree"] (sp7 n)
  | 0 => none7
  | n + 1 => ok7_step D D1 DU D2 Z (ok7 D D1 DU D2 Z n)
end
end K23
namespace K23
open PySem PySem.Spec PyProof.Rows L2
abbrev sI : Stmt := match top 11 with
  | .ClassDef _ _ _ (b :: _) _ _ _ _ _ _ _ => b
  | s => s
/-- what stands of the class InvalidShape -/
structure InvS (K : PySem.W.Frag) (mg : Str → Option Value) (C fI : Addr) (fdI : FuncData) : Prop where
  g : mg "InvalidShape" = some (.ref C)
  T : Err.Oex K C
  noat : PySem.W.findIn K (.ref C) "at" = some none
  iC : PySem.W.findIn K (.ref C) "__init__" = some (some (.ref fI))
  tI : PySem.W.typeIn K (.ref fI) = some (.type "function")
  F : Fun K "__init__" "InvalidShape.__init__" sI fI fdI
  b : Binds K fdI ["self", "at"] []
  X : XfC K C
  ex : PySem.W.exmOne K (.ref C) (.ref C) = some true
abbrev atD (e : Int) : List (Str × V) := [("at", .int e)]
section
variable {P : Program} {w : World} {K : PySem.W.Frag} {mg : Str → Option Value} {base : Heap}
theorem scI : FnScope ["self", "at"] ["self", "at"] (defScope sI) := ⟨rfl, rfl, rfl, by decide +kernel, rfl, by decide +kernel, by decide +kernel⟩
def spI (K : PySem.W.Frag) : Sp := fun vs H Q _ => ∃ (a C : Addr) (v : V), vs = [.ref a, v] ∧ Err.Oex K C ∧ PySem.W.findIn K (.ref C) "at" = some none ∧ H a = some (exo a C none) ∧
  ∀ dx, H dx = none → dx ≠ a → Q .non (upd (upd H dx (exd dx [("at", v)])) a (exo a C (some dx)))
theorem okI {C fI : Addr} {fdI : FuncData} (I : InvS K mg C fI fdI) : FnOk P w K mg base CX0 1 fI fdI ["self", "at"] (spI K) := by
  refine I.F.ok scI (fun vs H Q E h => ?_) (fun cdv A outer s H vs Q E hr h => ?_)
  · obtain ⟨a, C, v, rfl, _⟩ := h
    rfl
  obtain ⟨a, C, v, rfl, T, hno, ha, q⟩ := h
  refine ⟨_, pss_one (Err.ps_put (pv 0) (pv 1)), ?_⟩
  exact ⟨_, rfl, _, rfl, a, C, rfl, T, hno, ha, fun dx h0 hn => q dx h0 hn⟩
theorem exc_heap {H : Hp} {a dx C : Addr} {fs gs : List (Str × V)} (ha : H a = none) (hn : dx ≠ a) :
    upd (del (upd (upd (upd H a (exo a C none)) dx (exd dx fs)) a (exo a C (some dx))) a) dx (.xd gs) = upd H dx (.xd gs) := by
  funext b
  by_cases hb : b = dx
  · rw [hb, upd_same, upd_same]
  · rw [upd_ne hb, upd_ne hb]
    by_cases ha2 : b = a
    · rw [ha2, ha]
      simp [del]
    · have : del (upd (upd (upd H a (exo a C none)) dx (exd dx fs)) a (exo a C (some dx))) a b = (upd (upd (upd H a (exo a C none)) dx (exd dx fs)) a (exo a C (some dx))) b := by simp [del, ha2]
      rw [this, upd_ne ha2, upd_ne hb, upd_ne ha2]
/-! need_shape -/
abbrev s8 : Stmt := top 8
theorem sc8 : FnScope ["value", "parts"] ["value"] (defScope s8) := ⟨rfl, rfl, rfl, by decide +kernel, rfl, by decide +kernel, by decide +kernel⟩
/-- a value within the bounds of the law -/
structure Bd (d : Va) : Prop where
  sm : Sm 26 d
  lv : ∀ t, d = encV t → gd t → (lv t).length ≤ 8
def sp8 (C : Addr) : Sp := fun vs H Q E => ∃ v d r, vs = [v] ∧ Vd H v d ∧ Bd d ∧ Ver d r ∧ (r = none → ∀ H', Same H H' → Q v H') ∧ ∀ e, r = some e → ∀ H1 dx, Same H H1 → H1 dx = none → E (.ref C) (some dx) (upd H1 dx (.xd (atD e)))
/-- all defs of the program -/
structure Pr (K : PySem.W.Frag) (w : World) (mg : Str → Option Value) (a : Nat → Addr) (d : Nat → FuncData) : Prop where
  Z : Zs mg
  du : Df K mg "union_of" sU (a 29) (d 29) ["lots"]
  d1 : Df K mg "is_leaf" (top 1) (a 1) (d 1) ["tree"]
  d2 : Df K mg "parts_of" (top 2) (a 2) (d 2) ["shape"]
  d3 : Df K mg "trees_of" (top 3) (a 3) (d 3) ["shape"]
  d4 : Df K mg "strong_lots" (top 4) (a 4) (d 4) ["shape"]
  d5 : Df K mg "is_integer" (top 5) (a 5) (d 5) ["value"]
  d6 : Df K mg "is_built" (top 6) (a 6) (d 6) ["value"]
  d7 : Df K mg "stands_right" (top 7) (a 7) (d 7) ["tree"]
  d8 : Df K mg "need_shape" (top 8) (a 8) (d 8) ["value"]
  d9 : Df K mg "is_shape" (top 9) (a 9) (d 9) ["value"]
  d10 : Df K mg "knot_there" (top 10) (a 10) (d 10) ["shape", "lot"]
  I : InvS K mg (a 12) (a 11) (d 11)
  Fw : FewD K w mg (a 13)
theorem not_blt_ver {d : Va} (n : ¬ Blt d) {r : Option Int} (h : Ver d r) : r = some 0 := by
  cases h with
  | bad _ => rfl
  | lot g _ => exact absurd ⟨_, rfl, g⟩ n
  | ord g _ _ => exact absurd ⟨_, rfl, g⟩ n
  | none g _ _ => exact absurd ⟨_, rfl, g⟩ n
theorem ver_enc {t : Tr} (g : gd t) {r : Option Int} (h : Ver (encV t) r) : r = if full t = true then (if sr t = true then none else some 2) else some 1 := by
  generalize he : encV t = d at h
  cases h with
  | bad n => exact absurd ⟨t, he.symm, g⟩ n
  | lot g f =>
    obtain rfl := encV_inj _ _ he
    simp [f]
  | ord g f s =>
    obtain rfl := encV_inj _ _ he
    simp [f, s]
  | none g f s =>
    obtain rfl := encV_inj _ _ he
    simp [f, s]
variable {a : Nat → Addr} {d : Nat → FuncData}
set_option maxHeartbeats 1000000 in
theorem ok8 (T : Pr K w mg a d) : FnOk P w K mg base (L2.CX P w) 16 (a 8) (d 8) ["value"] (sp8 (a 12)) := by
  have Z := T.Z
  have G6 : FnOk P w K mg base CX0 15 (a 6) (d 6) ["value"] (sp6 14) := ok6 T.d6 T.d5 T.Fw Z 14
  have G2 : FnOk P w K mg base CX0 9 (a 2) (d 2) ["shape"] (sp2 8) := ok2 T.d2 T.d1 T.du Z 8
  have G7 : FnOk P w K mg base CX0 10 (a 7) (d 7) ["tree"] (sp7 8) := ok7 T.d7 T.d1 T.du T.d2 Z 8
  have GI : FnOk P w K mg base CX0 1 (a 11) (d 11) ["self", "at"] (spI K) := okI T.I
  refine T.d8.F.okX sc8 (fun vs H Q E h => ?_) (fun cdv A outer s H vs Q E hr h => ?_)
  · obtain ⟨v, d, r, rfl, _⟩ := h
    rfl
  obtain ⟨v, dd, r, rfl, hd, hB, hV, q0, qE⟩ := h
  have hu := hr.units
  have r2 : Room 2 _ := hr.mono (by decide)
  have r9 : Room 9 _ := hr.mono (by decide)
  have r10 : Room 10 _ := hr.mono (by decide)
  refine ⟨_, pss_cons (ps_if (pt_not (pt_truth (pe_call G6 hr rfl T.d6.g T.d6.F.kp T.d6.b .nil pass0 (pa_cons (pv 0) pa_nil)) (fun _ => rfl)))
      (pss_one (ps_raise rfl (takes_of rfl rfl rfl rfl) (Err.pmk_ex T.I.T T.I.iC T.I.tI GI r2 T.I.b .nil pass0 rfl T.I.g (pa_cons pe_int pa_nil)))) pss_nil)
    (pss_cons (ps_set (i := 1) sc8.nd rfl (.inl rfl) (pe_call G2 r9 rfl T.d2.g T.d2.F.kp T.d2.b .nil pass0 (pa_cons (pv 0) pa_nil)))
    (pss_cons (ps_if (pt_cmpR (op_neD hu) (pv 1) (pe_tupRg rfl rfl Z.tup (prg_1 rfl Z.rng (pe_callB (r := rLen K) call_len_seq rfl Z.len PySem.boot_len (pa_cons (pv 1) pa_nil)))) (nomark _))
      (pss_one (ps_raise rfl (takes_of rfl rfl rfl rfl) (Err.pmk_ex T.I.T T.I.iC T.I.tI GI r2 T.I.b .nil pass0 rfl T.I.g (pa_cons pe_int pa_nil)))) pss_nil)
    (pss_cons (ps_if (pt_not (pt_truth (pe_call G7 r10 rfl T.d7.g T.d7.F.kp T.d7.b .nil pass0 (pa_cons (pv 0) pa_nil)) (fun _ => rfl)))
      (pss_one (ps_raise rfl (takes_of rfl rfl rfl rfl) (Err.pmk_ex T.I.T T.I.iC T.I.tI GI r2 T.I.b .nil pass0 rfl T.I.g (pa_cons pe_int pa_nil)))) pss_nil)
    (pss_one (ps_ret (pv 0)))))), ?_⟩
  have thrown : ∀ (e : Int) (H1 : Hp) (σ : L2.St), r = some e → Same H H1 → tMkO (a 12) (spI K) [] (tCons (tC (.int e)) tNil) σ H1 fun cls d H' => E cls d H' := fun e H1 σ er s1 => by
    refine ⟨by simp, fun x hx => ⟨x, a 12, .int e, rfl, T.I.T, T.I.noat, upd_same, fun dx hdx hne => ⟨rfl, dx, atD e, upd_same, ?_, ?_, ?_⟩⟩⟩
    · rw [upd_ne hne, upd_same]
    · rw [upd_ne hne] at hdx
      exact hdx
    · rw [upd_ne hne] at hdx
      rw [exc_heap hx hne]
      exact qE e er H1 dx s1 hdx
  refine ⟨_, rfl, v, dd, 13, rfl, hd, by decide, hB.sm, fun b H1 hb s1 => ⟨b, rfl, ?_⟩⟩
  by_cases hbt : Blt dd
  · rw [hb.mpr hbt]
    refine itF (by decide) ?_
    obtain ⟨t, rfl, g⟩ := hbt
    have ho := g.ok
    have hlen := hB.lv t rfl g
    have hdt := vd_dt t v hd
    have hr0 := ver_enc g hV
    refine ⟨_, rfl, v, t, rfl, hdt.sm s1, ho, hlen, by decide, fun H2 p s2 hp0 hpp => ?_⟩
    have s12 := s1.trans s2
    refine ⟨_, rfl, _, rfl, p, _, rfl, .inr (SqT.of hpp), _, rfl, ?_⟩
    have pl : (parts t).length = (lv t).length := parts_len t
    rw [List.length_map, pl]
    refine ⟨RgOk.of_le (by omega) (by omega) (by omega) (by omega), fun p2 hp2 => ?_⟩
    rw [rg_range]
    have s3 : Same H2 (upd H2 p2 (.tup ((ixs (List.range (lv t).length)).map V.int))) := same_upd hp2
    refine ⟨lotD (parts t), lotD (rng (lv t).length), (dt_lot_mk (s3 _ _ hpp)).dp, (dt_lot_mk upd_same).dp, shaped_lot _, shaped_lot _, _, rfl, ?_⟩
    rw [eqv_lot]
    have s13 := s12.trans s3
    by_cases hf : full t = true
    · rw [show decide (parts t = rng (lv t).length) = true from hf]
      refine itF (by decide) ?_
      rw [if_pos hf] at hr0
      refine ⟨_, rfl, v, t, rfl, hdt.sm s13, ho, hlen, by decide, fun H4 s4 => ⟨_, rfl, ?_⟩⟩
      by_cases hs : sr t = true
      · rw [if_pos hs] at hr0
        rw [hs]
        refine itF (by decide) ?_
        exact ⟨_, rfl, q0 hr0 H4 (s13.trans s4)⟩
      · rw [if_neg hs] at hr0
        rw [show sr t = false by simpa using hs]
        refine itT (by decide) ?_
        exact thrown 2 H4 _ hr0 (s13.trans s4)
    · rw [show decide (parts t = rng (lv t).length) = false from Bool.eq_false_iff.mpr hf]
      rw [if_neg hf] at hr0
      refine itT (by decide) ?_
      exact thrown 1 _ _ hr0 s13
  · have : b = false := by
      cases b with
      | false => rfl
      | true => exact absurd (hb.mp rfl) hbt
    rw [this]
    refine itT (by decide) ?_
    exact thrown 0 H1 _ (not_blt_ver hbt hV) s1
/-! is_shape -/
abbrev s9 : Stmt := top 9
theorem sc9 : FnScope ["value"] ["value"] (defScope s9) := ⟨rfl, rfl, rfl, by decide +kernel, rfl, by decide +kernel, by decide +kernel⟩
def sp9 : Sp := fun vs H Q _ => ∃ v d r, vs = [v] ∧ Vd H v d ∧ Bd d ∧ Ver d r ∧ ∀ H', Same H H' → Q (.bl r.isNone) H'
theorem same_exc {H H1 : Hp} {dx : Addr} {o : HO} (s : Same H H1) (h : H1 dx = none) : Same H (upd H1 dx o) := fun b u e => by
  have := s b u e
  rw [upd_ne (ne_of_none this h)]
  exact this
theorem ok9 (T : Pr K w mg a d) : FnOk P w K mg base CX0 17 (a 9) (d 9) ["value"] sp9 := by
  have G8 : FnOk P w K mg base (L2.CX P w) 16 (a 8) (d 8) ["value"] (sp8 (a 12)) := ok8 T
  refine T.d9.F.ok sc9 (fun vs H Q E h => ?_) (fun cdv A outer s H vs Q E hr h => ?_)
  · obtain ⟨v, d, r, rfl, _⟩ := h
    rfl
  obtain ⟨v, dd, r, rfl, hd, hB, hV, q⟩ := h
  refine ⟨_, pss_cons (ps_try_only rfl rfl ⟨rfl, by decide, .inl T.I.g⟩ takes0 (fun W pn xe tk _ => pss_one (ps_expr (pe_callS G8 hr rfl T.d8.g T.d8.F.kp T.d8.b (fun σ => passAt tk σ) (pa_cons (pv 0) pa_nil)))) (fun a oe cls d pn _ _ => pss_one (ps_ret pe_bl)))
    (pss_one (ps_ret pe_bl)), ?_⟩
  refine ⟨_, rfl, v, dd, r, rfl, hd, hB, hV, fun er H' s' => ?_, fun e er H1 dx s1 hdx => ⟨true, T.I.ex, fun _ a ha => ?_, fun z => nomatch z⟩⟩
  · have := q H' s'
    rw [er] at this
    exact this
  · have := q _ (same_exc (o := .xd (atD e)) s1 hdx)
    rw [er] at this
    exact this
/-! the law's own: what is wrong, and whether a value is refused so -/
abbrev s24 : Stmt := top 24
theorem sc24 : FnScope ["value", "e"] ["value"] (defScope s24) := ⟨rfl, rfl, rfl, by decide +kernel, rfl, by decide +kernel, by decide +kernel⟩
def sp24 : Sp := fun vs H Q _ => ∃ v d e, vs = [v] ∧ Vd H v d ∧ Bd d ∧ Ver d (some e) ∧ e.natAbs.log2 < 1920 ∧ ∀ H', Same H H' → Q (.str (toString e)) H'
theorem ok24 {f : Addr} {fd : FuncData} (D : Df K mg "_law_wrong" s24 f fd ["value"]) (T : Pr K w mg a d) : FnOk P w K mg base CX0 17 f fd ["value"] sp24 := by
  have G8 : FnOk P w K mg base (L2.CX P w) 16 (a 8) (d 8) ["value"] (sp8 (a 12)) := ok8 T
  refine D.F.ok sc24 (fun vs H Q E h => ?_) (fun cdv A outer s H vs Q E hr h => ?_)
  · obtain ⟨v, d, r, rfl, _⟩ := h
    rfl
  obtain ⟨v, dd, e, rfl, hd, hB, hV, hz, q⟩ := h
  refine ⟨_, pss_cons (ps_try_as (i := 1) rfl rfl sc24.nd rfl rfl ⟨rfl, by decide, .inl T.I.g⟩ takes0 (fun W pn xe tk _ => pss_one (ps_expr (pe_callS G8 hr rfl T.d8.g T.d8.F.kp T.d8.b (fun σ => passAt tk σ) (pa_cons (pv 0) pa_nil))))
      (fun a oe cls d pn hz hf => pss_one (ps_ret (pe_callB SkE.call_repr_int rfl T.Z.repr (by decide +kernel) (pa_cons (pe_xf T.I.X T.I.noat hz hf (pv 1)) pa_nil)))))
    (pss_one (ps_ret pe_non)), ?_⟩
  refine ⟨_, rfl, v, dd, some e, rfl, hd, hB, hV, (fun er => by cases er), fun e' er H1 dx s1 hdx => ⟨true, T.I.ex, fun _ a ha => ?_, fun z => nomatch z⟩⟩
  obtain rfl : e' = e := (Option.some.inj er).symm
  exact ⟨_, rfl, rfl, rfl, dx, _, .int e', rfl, upd_same, rfl, e', rfl, hz, q _ (same_exc s1 hdx)⟩
abbrev s26 : Stmt := top 26
theorem sc26 : FnScope ["value", "due"] ["value", "due"] (defScope s26) := ⟨rfl, rfl, rfl, by decide +kernel, rfl, by decide +kernel, by decide +kernel⟩
def sp26 : Sp := fun vs H Q _ => ∃ v d e, vs = [v, .str (toString e)] ∧ Vd H v d ∧ Bd d ∧ Ver d (some e) ∧ e.natAbs.log2 < 1920 ∧ ∀ H', Same H H' → Q (.bl true) H'
theorem ok26 {f f24 : Addr} {fd fd24 : FuncData} (D : Df K mg "_law_is_refused" s26 f fd ["value", "due"]) (D24 : Df K mg "_law_wrong" s24 f24 fd24 ["value"]) (T : Pr K w mg a d) : FnOk P w K mg base CX0 18 f fd ["value", "due"] sp26 := by
  have G9 : FnOk P w K mg base CX0 17 (a 9) (d 9) ["value"] sp9 := ok9 T
  have G24 : FnOk P w K mg base CX0 17 f24 fd24 ["value"] sp24 := ok24 D24 T
  refine D.F.ok sc26 (fun vs H Q E h => ?_) (fun cdv A outer s H vs Q E hr h => ?_)
  · obtain ⟨v, d, r, rfl, _⟩ := h
    rfl
  obtain ⟨v, dd, e, rfl, hd, hB, hV, hz, q⟩ := h
  refine ⟨_, pss_one (ps_ret (pe_and (pe_cmpR op_is_bl (pe_call G9 hr rfl T.d9.g T.d9.F.kp T.d9.b .nil pass0 (pa_cons (pv 0) pa_nil)) pe_bl (nomark _))
    (pe_one (pe_cmpR op_eq (pe_call G24 hr rfl D24.g D24.F.kp D24.b .nil pass0 (pa_cons (pv 0) pa_nil)) (pv 1) (nomark _))))), ?_⟩
  refine ⟨_, rfl, v, dd, some e, rfl, hd, hB, hV, fun H1 s1 => ⟨_, _, rfl, rfl, _, rfl, ?_⟩⟩
  refine itT rfl ?_
  refine ⟨_, rfl, v, dd, e, rfl, hd.sm s1, hB, hV, hz, fun H2 s2 => ⟨_, rfl, rfl, ?_⟩⟩
  have := q H2 (s1.trans s2)
  dsimp only
  rw [str_eq rfl]
  exact this
end
end K23
namespace K23
open PySem PySem.Spec PyProof.Rows L2
/-- kind and children's lots of a knot, as data -/
def lotsD (Ls : List (List Int)) : PyData := .tuple (Ls.map lotD)
def knD (k : Kd) (Ls : List (List Int)) : PyData := .tuple [.str (kname k), lotsD Ls]
section
variable {P : Program} {w : World} {K : PySem.W.Frag} {mg : Str → Option Value} {base : Heap} {a : Nat → Addr} {d : Nat → FuncData}
abbrev s10 : Stmt := top 10
abbrev N10 : List Str := ["shape", "lot", "tree", "child"]
theorem sc10 : FnScope N10 ["shape", "lot"] (defScope s10) := ⟨rfl, rfl, rfl, by decide +kernel, rfl, by decide +kernel, by decide +kernel⟩
def sp10 (K : PySem.W.Frag) : Sp := fun vs H Q _ => ∃ v b t L, vs = [v, .ref b] ∧ Dt H v (enc t) ∧ Sq K H b (L.map V.int) ∧ ok t ∧ (lv t).length ≤ 8 ∧
  (∀ k cs, Tr.knot k cs ∈ trees t → parts (.knot k cs) = L → ∀ H' u, Same H H' → Dt H' u (knD k (cs.map parts)) → Q u H') ∧
  ((∀ k cs, Tr.knot k cs ∈ trees t → parts (.knot k cs) ≠ L) → ∀ H', Same H H' → Q .non H')
set_option maxHeartbeats 1000000 in
theorem ok10 (T : Pr K w mg a d) : FnOk P w K mg base CX0 10 (a 10) (d 10) ["shape", "lot"] (sp10 K) := by
  have Z := T.Z
  have G1 : FnOk P w K mg base CX0 1 (a 1) (d 1) ["tree"] sp1 := ok1 T.d1.F Z
  have G2 : FnOk P w K mg base CX0 9 (a 2) (d 2) ["shape"] (sp2 8) := ok2 T.d2 T.d1 T.du Z 8
  have G3 : FnOk P w K mg base CX0 9 (a 3) (d 3) ["shape"] (sp3 8) := ok3 T.d3 T.d1 Z 8
  refine T.d10.F.ok sc10 (fun vs H Q E h => ?_) (fun cdv A outer s H vs Q E hr h => ?_)
  · obtain ⟨v, b, t, L, rfl, _⟩ := h
    rfl
  obtain ⟨v, b0, t, L, rfl, hd, hL, ho, hl, q1, q0⟩ := h
  have hu := hr.units
  have hr1 : Room 1 _ := hr.mono (by decide)
  refine ⟨_, pss_cons (ps_for PassesOwn.never rfl (pi_list (pe_call G3 hr rfl T.d3.g T.d3.F.kp T.d3.b .nil pass0 (pa_cons (pv 0) pa_nil))) (pg_name (i := 2) sc10.nd rfl (.inl rfl))
      (pss_one (ps_if (PW.pt (pw_and (pt_not (pt_truth (pe_call G1 hr1 rfl T.d1.g T.d1.F.kp T.d1.b .nil pass0 (pa_cons (pv 2) pa_nil)) (fun _ => rfl)))
          (pw_and1 (pt_cmpR (op_eqD hu) (pe_call G2 hr rfl T.d2.g T.d2.F.kp T.d2.b .nil pass0 (pa_cons (pv 2) pa_nil)) (pe_callTy call_tuple_of rfl Z.tup (by decide +kernel) (pa_cons (pv 1) pa_nil)) (nomark _)))))
        (pss_one (ps_ret (pe_tup (pa_cons (pe_ix ix_tup (pv 2) pe_int (fun _ _ => rfl)) (pa_cons (pe_callTy call_tuple_of rfl Z.tup (by decide +kernel) (pa_cons
          (pe_lc (own := [("child", 3)]) (g := gName 3) (tt := tYes) rfl sc10.nd (pi_tup (pe_ix ix_tup (pv 2) pe_int (fun _ _ => rfl))) (blkOk_by (N := N10) (sc := defScope s10) (by decide +kernel))
            (fun _ _ _ _ _ => pg_name (i := 3) sc10.nd rfl (.inl rfl)) (fun _ _ _ _ _ => pts_nil) (fun _ _ _ _ _ => pe_call G2 hr rfl T.d2.g T.d2.F.kp T.d2.b .nil pass0 (pa_cons (pv 3) pa_nil))) pa_nil)) pa_nil))))) pss_nil)))
    (pss_one (ps_ret pe_non)), ?_⟩
  refine ⟨_, rfl, v, t, rfl, hd, ho, hl, by decide, fun H1 p zs s1 hp0 hp hzs => ⟨p, rfl, ⟨_, SqL.of hp⟩, ?_⟩⟩
  have hzl := hzs.length
  rw [List.length_map] at hzl
  refine for_it (walk_list (K := K) (xs := zs)) (fun i σ H' => ∃ y, σ = [some v, some (.ref b0), y, none] ∧ Same H1 H' ∧ ∀ k cs, Tr.knot k cs ∈ (trees t).take i → parts (.knot k cs) ≠ L)
    ⟨none, rfl, Same.refl H1, by simp⟩ (fun i σ H' _ ⟨_, _, sm, _⟩ => SqL.of (sm _ _ hp)) ?_ ?_
  · rintro i x σ H0 H2 hi ⟨y, rfl, s2, hno⟩ ⟨rfl, hxi⟩
    obtain ⟨z, hzi, hz, hzd⟩ := child_dt (hzs.sm s2) hxi
    have oz := trees_ok t ho z hz
    have lz := trees_short t z hz
    refine ⟨_, rfl, x, z, rfl, hzd, _, rfl, ?_⟩
    cases z with
    | leaf m =>
      refine itF (by simp [isLf]) ?_
      refine ⟨_, rfl, s2, fun k cs hm => ?_⟩
      rw [take_snoc hzi] at hm
      rcases List.mem_append.mp hm with h | h
      · exact hno k cs h
      · simp at h
    | knot k cs =>
      refine itT (by simp [isLf]) ?_
      refine ⟨_, rfl, x, _, rfl, hzd, oz, by omega, by decide, fun H3 p3 s3 hp30 hp3 => ?_⟩
      have s23 := s2.trans s3
      have s03 := s1.trans s23
      refine ⟨_, rfl, b0, L.map V.int, rfl, ?_⟩
      rcases hL.sm s03 with hL3 | hL3
      refine .inl ⟨hL3, fun p4 hp4 => ?_⟩
      have s4 : Same H3 (upd H3 p4 (.tup (L.map V.int))) := same_upd hp4
      refine ⟨lotD (parts (.knot k cs)), lotD L, (dt_lot_mk (s4 _ _ hp3)).dp, (dt_lot_mk upd_same).dp, shaped_lot _, shaped_lot _, _, rfl, ?_⟩
      have s24 := s23.trans s4
      have hz4 := (hzd.sm s3).sm s4
      revert s24 hz4
      generalize upd H3 p4 (.tup (L.map V.int)) = H4
      rotate_left
      refine .inr ⟨hL3, ?_⟩
      refine ⟨lotD (parts (.knot k cs)), lotD L, (dt_lot_mk hp3).dp, .tup hL3 (dp_ints L), shaped_lot _, shaped_lot _, _, rfl, ?_⟩
      have s24 := s23
      have hz4 := hzd.sm s3
      revert s24 hz4
      clear s3 hp30 hp3 s23 s03 hL3
      generalize H3 = H4
      all_goals
        intro s24 hz4
        dsimp only
        rw [eqv_lot]
        by_cases hpe : parts (.knot k cs) = L
        · refine itT (decide_eq_true hpe) ?_
          obtain ⟨ax, bx, xs, rfl, hax, hbx, hxs⟩ := dt_knot hz4
          obtain ⟨_, hoc⟩ := ok_knot oz
          have hlx := hxs.length
          rw [List.length_map] at hlx
          have hcl := cs_len hoc
          have llk : (lvs cs).length ≤ 8 := by rw [← lv_knot k cs]; omega
          refine ⟨_, rfl, ax, _, 0, .str (kname k), rfl, rfl, SqT.of hax, rfl, _, rfl, ax, _, 1, .ref bx, rfl, rfl, SqT.of hax, rfl, bx, rfl, ⟨_, SqT.of hbx⟩, fun dd hdd => ?_⟩
          refine lc_it (walk_tup (K := K) (xs := xs)) (fun j H' => Same H4 H' ∧ ∃ ws, H' dd = some (.lst ws) ∧ ws.length = j ∧ j ≤ xs.length ∧ Dts H' ws (((cs.take j).map parts).map lotD)) ⟨same_upd hdd, [], upd_same, rfl, Nat.zero_le _, by simpa using Dts.nil⟩ (fun j H' _ ⟨s5, _⟩ => SqT.of (s5 _ _ hbx)) ?_ ?_
          · rintro j u H0 H5 hj ⟨s5, ws, hws, hwl, _, hwd⟩ ⟨rfl, hu⟩
            obtain ⟨c, hcj, hc, hcd⟩ := child_dt hxs hu
            have := len_child hc
            refine ⟨rfl, ?_⟩
            refine iteT (B := True) ?_
            refine ⟨_, rfl, u, c, rfl, hcd.sm s5, hoc c hc, by omega, by decide, fun H6 p6 s6 hp60 hp6 => ?_⟩
            have hws6 := s6 _ _ hws
            refine ⟨ws, hws6, small1000 (by omega), same_upd2 (s5.trans s6) hdd, ws ++ [.ref p6], upd_same, by rw [List.length_append, hwl]; rfl, hj, ?_⟩
            rw [take_snoc hcj, List.map_append, List.map_append]
            exact ((hwd.sm s6).app (.one (dt_lot_mk hp6))).kp (kp_list (H1 := H6) hws6)
          · rintro H5 ⟨s5, ws, hws, hwl, _, hwd⟩
            rw [hlx, List.take_length] at hwd
            refine ⟨dd, ws, rfl, .inl ⟨SqL.of hws, fun p7 hp7 => ⟨(by show 2 ≤ sizeLine; decide), fun p8 hp8 => ?_⟩⟩⟩
            have t7 : Same H5 (upd H5 p7 (.tup ws)) := same_upd hp7
            have t8 : Same (upd H5 p7 (.tup ws)) (upd (upd H5 p7 (.tup ws)) p8 (.tup [.str (kname k), .ref p7])) := same_upd hp8
            refine q1 k cs hz hpe _ _ (((s1.trans s24).trans s5).trans (t7.trans t8)) ?_
            exact .tup upd_same (.cons (.str _) (.cons (.tup (t8 _ _ upd_same) ((hwd.sm t7).sm t8)) .nil))
        · refine itF (fun z => hpe (of_decide_eq_true z)) ?_
          refine ⟨_, rfl, s24, fun k' cs' hm => ?_⟩
          rw [take_snoc hzi] at hm
          rcases List.mem_append.mp hm with h | h
          · exact hno k' cs' h
          · simp at h
            obtain ⟨rfl, rfl⟩ := h
            exact hpe
  · rintro σ H2 ⟨y, rfl, s2, hno⟩
    rw [hzl, List.take_length] at hno
    exact q0 hno H2 (s1.trans s2)
end
end K23
/-! sorted(zip(xs, ys), key=lambda pair: pair[0]) -/
namespace K23
open PySem PySem.Spec PyProof.Rows L2
theorem zip_nolen : typeLookup (.type "zip") "__len__" = pure none := am_miss_of_fast (by decide +kernel)
theorem zip_nohint : typeLookup (.type "zip") "__length_hint__" = pure none := am_miss_of_fast (by decide +kernel)
/-- a zip of two lists amid its walk; what it gave out stands at B or behind -/
structure ZipAt (z TI TO i1 i2 l1 l2 : Addr) (xs ys : Array Value) (B i : Nat) (h : Heap) : Prop where
  ti : IsPair h TI (.ref i1) (.ref i2)
  a1 : h.IsListIter i1 l1 i
  a2 : h.IsListIter i2 l2 i
  b1 : h.IsList l1 xs
  b2 : h.IsList l2 ys
  st : (IsZip h z TI TO .none ∧ ∃ a b, IsPair h TO a b) ∨ ∃ T f oT, IsZipHeld h z TI TO T f ∧ h.get? T = some oT ∧ B ≤ T
/-- all but S is kept -/
theorem ZipAt.but {z TI TO i1 i2 l1 l2 S : Addr} {xs ys : Array Value} {B i : Nat} {h h' : Heap} (Z : ZipAt z TI TO i1 i2 l1 l2 xs ys B i h) (n : S ∉ [z, TI, TO, i1, i2, l1, l2]) (hS : S < B) (k : ∀ b o, b ≠ S → h.get? b = some o → h'.get? b = some o) :
    ZipAt z TI TO i1 i2 l1 l2 xs ys B i h' := by
  simp only [List.mem_cons, List.not_mem_nil, or_false, not_or] at n
  obtain ⟨nz, nTI, nTO, n1, n2, m1, m2⟩ := n
  refine ⟨k _ _ (Ne.symm nTI) Z.ti, Z.a1.at fun o e => k _ o (Ne.symm n1) e, Z.a2.at fun o e => k _ o (Ne.symm n2) e, Z.b1.at fun o e => k _ o (Ne.symm m1) e, Z.b2.at fun o e => k _ o (Ne.symm m2) e, ?_⟩
  rcases Z.st with ⟨q, a, b, p⟩ | ⟨T, f, oT, q, p, r⟩
  · exact .inl ⟨k _ _ (Ne.symm nz) q, a, b, k _ _ (Ne.symm nTO) p⟩
  · exact .inr ⟨T, f, oT, k _ _ (Ne.symm nz) q, k _ _ (Nat.ne_of_gt (Nat.lt_of_lt_of_le hS r)) p, r⟩
/-- the pairs given out -/
structure PrAt (B : Nat) (xs ys : Array Value) (Ts : List Addr) (h : Heap) : Prop where
  up : Ts.Pairwise (· < ·)
  at_ : ∀ (j : Nat) (T : Addr), Ts[j]? = some T → B ≤ T ∧ ∃ x y, xs[j]? = some x ∧ ys[j]? = some y ∧ IsPair h T x y
theorem PrAt.but {B : Nat} {xs ys : Array Value} {Ts : List Addr} {h h' : Heap} (p : PrAt B xs ys Ts h) (k : ∀ b o, B ≤ b → h.get? b = some o → h'.get? b = some o) : PrAt B xs ys Ts h' :=
  ⟨p.up, fun j T e => let ⟨q, x, y, a, b, c⟩ := p.at_ j T e; ⟨q, x, y, a, b, k _ _ q c⟩⟩
abbrev refsOf (Ts : List Addr) : Array Value := (Ts.map Value.ref).toArray
section
variable {P : Program} {w : World} {A : Around} {z TI TO i1 i2 l1 l2 S : Addr} {xs ys : Array Value} {B : Nat}
theorem zip_loop (D : ZipApart z TI TO i1 i2 l1 l2) (hB : ∀ b ∈ [z, TI, TO, i1, i2, l1, l2], b < S) (hh : A.handled = none) (hl : xs.size = ys.size) (hn : xs.size ≤ sizeLine) (res : Value) {R : Result → Shared → Prop} :
    ∀ (k i : Nat) (s : Shared) (Ts : List Addr) (c : Nat), xs.size - i = k → i ≤ xs.size → ZipAt z TI TO i1 i2 l1 l2 xs ys (S + 1) i s.heap → s.heap.get? S = some (seqObj "list" (refsOf Ts) c) → Ts.length = i → PrAt (S + 1) xs ys Ts s.heap →
      (∀ h' Ts' c', (∀ b o, b < S → b ≠ z → b ≠ TO → b ≠ i1 → b ≠ i2 → s.heap.get? b = some o → h'.get? b = some o) → h'.get? S = some (seqObj "list" (refsOf Ts') c') → Ts'.length = xs.size → PrAt (S + 1) xs ys Ts' h' → R (.ok (.ret res)) { s with heap := h' }) →
      codeAny (model P w) A (.builtin "list.extend.loop" ⟨[.ref S, .ref z, res], []⟩) R s := by
  have hBz := hB z (by simp)
  have hBTO := hB TO (by simp)
  have hBTI := hB TI (by simp)
  have hB1 := hB i1 (by simp)
  have hB2 := hB i2 (by simp)
  have hm1 := hB l1 (by simp)
  have hm2 := hB l2 (by simp)
  have nz : S ≠ z := Nat.ne_of_gt hBz
  have nTI : S ≠ TI := Nat.ne_of_gt hBTI
  have nTO : S ≠ TO := Nat.ne_of_gt hBTO
  have n1 : S ≠ i1 := Nat.ne_of_gt hB1
  have n2 : S ≠ i2 := Nat.ne_of_gt hB2
  have nS : S ∉ [z, TI, TO, i1, i2, l1, l2] := by
    simp only [List.mem_cons, List.not_mem_nil, or_false, not_or]
    exact ⟨nz, nTI, nTO, n1, n2, Nat.ne_of_gt hm1, Nat.ne_of_gt hm2⟩
  have big : ∀ {b c : Addr}, S + 1 ≤ b → c < S → b ≠ c := fun h1 h2 => Nat.ne_of_gt (Nat.lt_trans h2 h1)
  intro k
  induction k with
  | zero =>
    intro i s Ts c hk hi Z hSs hT pr hR
    obtain rfl : i = xs.size := by omega
    have e1 : xs[xs.size]? = none ∨ ys[xs.size]? = none := .inl (by simp)
    refine codeAny_builtin (F.entry_extend_loop) ?_
    rw [Around.under_plainId (F.plain_extend_loop) _]
    show wpAny _ A.in1 (pyNext (.ref z) >>= _) _ _ s
    have fin : ∀ h', (∀ b o, b ≠ z → b ≠ TO → b ≠ i1 → b ≠ i2 → s.heap.get? b = some o → h'.get? b = some o) → R (.ok (.ret res)) { s with heap := h' } := fun h' kp =>
      hR h' Ts c (fun b o _ a1 a2 a3 a4 e => kp b o a1 a2 a3 a4 e) (kp _ _ nz nTO n1 n2 hSs) hT (pr.but fun b o q e => kp b o (big q hBz) (big q hBTO) (big q hB1) (big q hB2) e)
    rcases Z.st with ⟨q, a, b, p⟩ | ⟨T, f, oT, q, p, r⟩
    · exact wpAny_bind (wpAny_pyNext_zip_end hh D q Z.ti p Z.a1 Z.a2 Z.b1 Z.b2 e1 fun h' kp => wpAny_pure (fin h' kp))
    · exact wpAny_bind (wpAny_pyNext_zip_end_held hh D q p Z.ti Z.a1 Z.a2 Z.b1 Z.b2 e1 fun h' kp => wpAny_pure (fin h' fun b o a1 _ a3 a4 e => kp b o a1 a3 a4 e))
  | succ k ih =>
    intro i s Ts c hk hi Z hSs hT pr hR
    have hlt : i < xs.size := by omega
    have hlt2 : i < ys.size := by omega
    have ex : xs[i]? = some xs[i] := Array.getElem?_eq_getElem hlt
    have ey : ys[i]? = some ys[i] := Array.getElem?_eq_getElem hlt2
    have hSl : S < s.heap.objs.size := Heap.lt_size hSs
    refine codeAny_builtin (F.entry_extend_loop) ?_
    rw [Around.under_plainId (F.plain_extend_loop) _]
    show wpAny _ A.in1 (pyNext (.ref z) >>= _) _ _ s
    have hsz : (refsOf Ts).size = i := by rw [List.size_toArray, List.length_map, hT]
    have fin : ∀ h', (∀ b o, b ≠ z → b ≠ TO → b ≠ i1 → b ≠ i2 → s.heap.get? b = some o → h'.get? b = some o) → ZipAt z TI TO i1 i2 l1 l2 xs ys (S + 1) (i + 1) h' → IsPair h' s.heap.objs.size xs[i] ys[i] →
        codeAny (model P w) A (.builtin "list.extend.loop" ⟨[.ref S, .ref z, res], []⟩) R { s with heap := h'.update S (Obj.mapSeq (·.push (.ref s.heap.objs.size))) } := fun h' kp Z' hp => by
      have hS' := kp _ _ nz nTO n1 n2 hSs
      have sb : ∀ b o, b ≠ S → h'.get? b = some o → (h'.update S (Obj.mapSeq (·.push (.ref s.heap.objs.size)))).get? b = some o := fun b o hb e => (Heap.get?_update_other _ _ (Ne.symm hb)).trans e
      have eA : (refsOf Ts).push (.ref s.heap.objs.size) = refsOf (Ts ++ [s.heap.objs.size]) := by simp [refsOf]
      obtain ⟨c2, hc2⟩ : ∃ c2, (h'.update S (Obj.mapSeq (·.push (.ref s.heap.objs.size)))).get? S = some (seqObj "list" ((refsOf Ts).push (.ref s.heap.objs.size)) c2) := ⟨_, get?_update_seq hS' (·.push (.ref s.heap.objs.size))⟩
      rw [eA] at hc2
      have pr1 : PrAt (S + 1) xs ys Ts h' := pr.but fun b o q e => kp b o (big q hBz) (big q hBTO) (big q hB1) (big q hB2) e
      have up : ∀ b o, S + 1 ≤ b → h'.get? b = some o → (h'.update S (Obj.mapSeq (·.push (.ref s.heap.objs.size)))).get? b = some o := fun b o q e => sb b o (Nat.ne_of_gt q) e
      refine ih (i + 1) { s with heap := h'.update S (Obj.mapSeq (·.push (.ref s.heap.objs.size))) } (Ts ++ [s.heap.objs.size]) c2 (by omega) hlt (Z'.but nS (Nat.lt_succ_self S) sb) hc2 (by simp [hT]) ⟨?_, fun j T e => ?_⟩ fun h2 Ts' c' kp2 q1 q2 q3 => hR h2 Ts' c' (fun b o b1 b2 b3 b4 b5 e => kp2 b o b1 b2 b3 b4 b5 (sb b o (Nat.ne_of_lt b1) (kp b o b2 b3 b4 b5 e))) q1 q2 q3
      · refine List.pairwise_append.mpr ⟨pr.up, by simp, fun a ha b hb => ?_⟩
        have eb : b = s.heap.objs.size := by simpa using hb
        obtain ⟨j, hj⟩ := List.getElem?_of_mem ha
        obtain ⟨_, x, y, _, _, e⟩ := pr.at_ j a hj
        rw [eb]
        exact Heap.lt_size e
      · rw [List.getElem?_append] at e
        split at e
        · obtain ⟨q, x, y, a, b, c⟩ := pr1.at_ j T e
          exact ⟨q, x, y, a, b, up _ _ q c⟩
        · rename_i nj
          have ej : j = i := by
            have := List.getElem?_eq_some_iff.mp e
            obtain ⟨h1, _⟩ := this
            simp at h1
            omega
          subst ej
          have eT : s.heap.objs.size = T := by simpa [hT] using e
          subst eT
          exact ⟨hSl, _, _, ex, ey, up _ _ hSl hp⟩
    have hz0 : (refsOf Ts).size ≤ sizeLine := by omega
    have hz1 : ((refsOf Ts).push (.ref s.heap.objs.size)).size ≤ sizeLine + 1 := by rw [Array.size_push]; omega
    rcases Z.st with ⟨q, a, b, p⟩ | ⟨T, f, oT, q, p, r⟩
    · refine wpAny_bind (wpAny_pyNext_zip_item D q Z.ti p Z.a1 Z.a2 Z.b1 Z.b2 ex ey fun h' a1 a2 a3 a4 a5 a6 kp => ?_)
      refine wpAny_bind (wpAny_updateSeq (kp _ _ nz nTO n1 n2 hSs) rfl (wpAny_pure ⟨plainId_quiet (F.plain_extend_loop) _, fin h' kp ?_ a5⟩) hz0 hz1)
      exact ⟨kp _ _ D.TIz D.TITO D.TIi1 D.TIi2 Z.ti, a3, a4, Z.b1.at fun o e => kp _ o D.l1z D.l1TO D.l1i1 D.l1i2 e, Z.b2.at fun o e => kp _ o D.l2z D.l2TO D.l2i1 D.l2i2 e, .inr ⟨_, _, _, a1, a5, hSl⟩⟩
    · refine wpAny_bind (wpAny_pyNext_zip_item_held D q p Z.ti Z.a1 Z.a2 Z.b1 Z.b2 ex ey fun h' a1 a3 a4 a5 a6 kp => ?_)
      have kp' : ∀ b o, b ≠ z → b ≠ TO → b ≠ i1 → b ≠ i2 → s.heap.get? b = some o → h'.get? b = some o := fun b o a1 _ a3 a4 e => kp b o a1 a3 a4 e
      refine wpAny_bind (wpAny_updateSeq (kp _ _ nz n1 n2 hSs) rfl (wpAny_pure ⟨plainId_quiet (F.plain_extend_loop) _, fin h' kp' ?_ a5⟩) hz0 hz1)
      exact ⟨kp _ _ D.TIz D.TIi1 D.TIi2 Z.ti, a3, a4, Z.b1.at fun o e => kp _ o D.l1z D.l1i1 D.l1i2 e, Z.b2.at fun o e => kp _ o D.l2z D.l2i1 D.l2i2 e, .inr ⟨T, true, oT, a1, kp _ _ (big r hBz) (big r hB1) (big r hB2) p, r⟩⟩
theorem zip_collect {s : Shared} {E : Value → Shared → Prop} {Q : List Value → Shared → Prop} (D : ZipApart z TI TO i1 i2 l1 l2) (hB : ∀ b ∈ [z, TI, TO, i1, i2, l1, l2], b < s.heap.objs.size) (hh : A.handled = none) (hl : xs.size = ys.size) (hn : xs.size ≤ sizeLine)
    (hz : IsZip s.heap z TI TO .none) (hTI : IsPair s.heap TI (.ref i1) (.ref i2)) {a b : Value} (hTO : IsPair s.heap TO a b) (h1 : s.heap.IsListIter i1 l1 0) (h2 : s.heap.IsListIter i2 l2 0) (b1 : s.heap.IsList l1 xs) (b2 : s.heap.IsList l2 ys)
    (h : ∀ h' Ts, (∀ b o, b ≠ z → b ≠ TO → b ≠ i1 → b ≠ i2 → s.heap.get? b = some o → h'.get? b = some o) → Ts.length = xs.size → PrAt (s.heap.objs.size + 1) xs ys Ts h' → s.heap.objs.size < h'.objs.size → Q (Ts.map Value.ref) { s with heap := h' }) :
    wpAny (model P w) A (collect (.ref z)) Q E s := by
  have nS : s.heap.objs.size ∉ [z, TI, TO, i1, i2, l1, l2] := fun m => Nat.lt_irrefl _ (hB _ m)
  have hSz : s.heap.objs.size ≠ z := fun e => nS (by rw [e]; exact List.mem_cons_self)
  unfold collect
  refine wpAny_bind (wpAny_runValue (codeAny_builtin (F.entry_proto_collect) ?_))
  rw [Around.under_plainId (F.plain_proto_collect) _]
  show wpAny _ A.in1 (newList [] >>= fun l => again (.builtin "list.__iadd__" ⟨[l, .ref z], []⟩)) _ _ s
  refine wpAny_bind (wpAny_newObj_type ?_)
  refine wpAny_pure ⟨plainId_quiet (F.plain_list_iadd) _, codeAny_builtin (F.entry_list_iadd) ?_⟩
  rw [Around.under_plainId (F.plain_list_iadd) _]
  let nl : Obj := { cls := .type "list", data := .seq ([] : List Value).toArray }
  let H1 := s.heap.push nl
  have k1 : ∀ b o, s.heap.get? b = some o → H1.get? b = some o := fun b o e => Heap.get?_push_of_some _ e
  have hS₁ : H1.get? s.heap.objs.size = some nl := Heap.get?_push_size _ rfl
  have ty : ∀ (g : Heap), IsZip g z TI TO .none → ({ s with heap := g } : Shared).TypeIs (.ref z) "zip" := fun g e => ⟨_, e, rfl⟩
  show wpAny _ A.in1 (Builtin.List.listExtendWith (.ref s.heap.objs.size) (.ref z) (.ref s.heap.objs.size)) _ _ { s with heap := H1 }
  unfold Builtin.List.listExtendWith
  refine wpAny_bind (wpAny_typeOf (ty H1 (k1 _ _ hz)) ?_)
  have n1 : Builtin.List.listSameRef (.ref s.heap.objs.size) (.ref z) = false := by simp [Builtin.List.listSameRef, hSz]
  have n2 : (Value.type "zip" == Value.type "list") = false := by decide
  have n3 : (Value.type "zip" == Value.type "tuple") = false := by decide
  simp only [n1, n2, n3, Bool.or_false, Bool.false_eq_true, if_false]
  refine wpAny_bind (wpAny_pyIter_zip (s := { s with heap := H1 }) (k1 _ _ hz) ?_)
  refine wpAny_bind (wpAny_holding ?_)
  unfold Builtin.List.listLengthHint
  refine wpAny_bind (wpAny_specialOf (ty H1 (k1 _ _ hz)) zip_nolen ?_)
  show wpAny _ A.in1 (specialOf (Value.ref z) (Str.ofString "__length_hint__") >>= _) _ _ { s with heap := H1 }
  refine wpAny_bind (wpAny_specialOf (ty H1 (k1 _ _ hz)) zip_nohint ?_)
  refine wpAny_pure ?_
  show wpAny _ A.in1 (rule "list.extend.makes-room" >>= fun _ => Builtin.List.listTouch (.ref s.heap.objs.size) >>= fun _ => again (.builtin "list.extend.loop" ⟨[.ref s.heap.objs.size, .ref z, .ref s.heap.objs.size], []⟩)) _ _ { s with heap := H1 }
  refine wpAny_bind (wpAny_rule (wpAny_bind ?_))
  show wpAny _ A.in1 (updateSeq s.heap.objs.size (·.push .none) >>= fun _ => updateSeq s.heap.objs.size (·.pop)) _ _ { s with heap := H1 }
  refine wpAny_bind (wpAny_updateSeq hS₁ rfl ?_)
  have hS₂ := Heap.get?_update_self (Obj.mapSeq (·.push Value.none)) hS₁ rfl
  refine wpAny_updateSeq hS₂ rfl ?_
  have hS₃ := Heap.get?_update_self (Obj.mapSeq (·.pop)) hS₂ rfl
  let H3 := (H1.update s.heap.objs.size (Obj.mapSeq (·.push Value.none))).update s.heap.objs.size (Obj.mapSeq (·.pop))
  have k3 : ∀ b o, s.heap.get? b = some o → H3.get? b = some o := fun b o e =>
    (Heap.get?_update_other _ _ (Nat.ne_of_gt (Heap.lt_size e))).trans ((Heap.get?_update_other _ _ (Nat.ne_of_gt (Heap.lt_size e))).trans (k1 b o e))
  refine wpAny_pure ⟨plainId_quiet (F.plain_extend_loop) _, ?_⟩
  refine zip_loop (s := { s with heap := H3 }) (A := A) (xs := xs) (ys := ys) D hB hh hl hn _ xs.size 0 [] _ rfl (Nat.zero_le _) ⟨k3 _ _ hTI, h1.at fun o e => k3 _ o e, h2.at fun o e => k3 _ o e, b1.at fun o e => k3 _ o e, b2.at fun o e => k3 _ o e, .inl ⟨k3 _ _ hz, a, b, k3 _ _ hTO⟩⟩ hS₃ rfl ⟨.nil, fun j T e => by simp at e⟩ fun h' Ts c kp q1 q2 q3 => ?_
  show wpAny _ A (load s.heap.objs.size >>= _) _ _ { s with heap := h' }
  refine wpAny_bind (wpAny_load q1 (wpAny_pure ?_))
  show Q (refsOf Ts).toList _
  rw [show (refsOf Ts).toList = Ts.map Value.ref by simp]
  exact h h' Ts (fun b o n1 n2 n3 n4 e => kp b o (Heap.lt_size e) n1 n2 n3 n4 (k3 b o e)) q2 q3 (Heap.lt_size q1)
theorem each_refs {L : List (Addr × Int)} : ∀ {bs : List (Addr × Int)}, PySem.W.EachIs (fun (v : Value) (b : Addr × Int) => v = Value.ref b.1 ∧ b ∈ L) (bs.map fun b => Value.ref b.1) bs ↔ ∀ b ∈ bs, b ∈ L
  | [] => ⟨fun _ b hb => absurd hb (by simp), fun _ => .nil⟩
  | b :: bs => by
    constructor
    · intro h
      cases h with
      | cons r t =>
        intro c hc
        rcases List.mem_cons.mp hc with rfl | hc
        · exact r.2
        · exact (each_refs (bs := bs)).mp t c hc
    · intro h
      exact .cons ⟨rfl, h b List.mem_cons_self⟩ ((each_refs (bs := bs)).mpr fun c hc => h c (List.mem_cons_of_mem _ hc))
theorem refs_each {L : List (Addr × Int)} : ∀ {vs : List Value} {bs : List (Addr × Int)}, PySem.W.EachIs (fun (v : Value) (b : Addr × Int) => v = Value.ref b.1 ∧ b ∈ L) vs bs → vs = (bs.map (·.1)).map Value.ref
  | _, _, .nil => rfl
  | _, _, .cons r t => by rw [refs_each t, r.1]; rfl
theorem srt_keys (l : List (Addr × Int)) : (l.mergeSort (PySem.W.dataLe false fun b : Addr × Int => PyData.int b.2)).Pairwise fun a b => a.2 ≤ b.2 := by
  rw [PySem.W.dataLe_int (fun b : Addr × Int => b.2)]
  have h := List.pairwise_mergeSort (le := fun a b : Addr × Int => decide (a.2 ≤ b.2)) (fun a b c => by simp only [decide_eq_true_eq]; omega) (fun a b => by simp only [Bool.or_eq_true, decide_eq_true_eq]; omega) l
  exact h.imp fun h => of_decide_eq_true h
theorem zip_sorted {s : Shared} {E : Value → Shared → Prop} {Q : Value → Shared → Prop} {f : Addr} {ns : List Int} (D : ZipApart z TI TO i1 i2 l1 l2) (hB : ∀ b ∈ [z, TI, TO, i1, i2, l1, l2], b < s.heap.objs.size) (hh : A.handled = none) (hu : A.units + 66 < cLine) (hl : xs.size = ys.size) (hn : xs.size ≤ sizeLine)
    (hz : IsZip s.heap z TI TO .none) (hTI : IsPair s.heap TI (.ref i1) (.ref i2)) {a b : Value} (hTO : IsPair s.heap TO a b) (h1 : s.heap.IsListIter i1 l1 0) (h2 : s.heap.IsListIter i2 l2 0) (b1 : s.heap.IsList l1 xs) (b2 : s.heap.IsList l2 ys)
    (hns : ns.length = xs.size) (hx : ∀ (j : Nat) (x : Value) (n : Int), xs[j]? = some x → ns[j]? = some n → ∃ t, x = .int n t)
    (turn : ∀ (T : Addr) (n : Int) (t : Tok) (y : Value) (h : Heap) (tk : Nat), (∀ b o, b ≠ z → b ≠ TO → b ≠ i1 → b ≠ i2 → s.heap.get? b = some o → h.get? b = some o) → IsPair h T (.int n t) y →
      wpAny (model P w) A.in1.in1 (call (.ref f) [.ref T]) (PySem.W.KeyPure (.int n) { s with heap := h, toks := tk }) (fun _ _ => False) { s with heap := h, toks := tk })
    (h : ∀ h' tk p Ts Ts' c, (∀ b o, b ≠ z → b ≠ TO → b ≠ i1 → b ≠ i2 → s.heap.get? b = some o → h'.get? b = some o) → Ts.length = xs.size → PrAt (s.heap.objs.size + 1) xs ys Ts h' → (∀ T ∈ Ts, T < p) → s.heap.objs.size < p → Ts'.Perm Ts → (∃ bs : List (Addr × Int), bs.Perm (Ts.zip ns) ∧ Ts' = bs.map (·.1) ∧ bs.Pairwise fun a b => a.2 ≤ b.2) →
      h'.get? p = some (seqObj "list" (refsOf Ts') c) → Q (.ref p) { s with heap := h', toks := tk }) :
    wpAny (model P w) A (call (.builtin "sorted") [.ref z] [(Str.ofString "key", .ref f)]) Q E s := by
  refine call_function_entry_kw (kind_sorted) (plain_sorted) (entry_sorted) (ksk_s1 _ _) ?_
  unfold Builtin.«sorted»
  refine wpAny_bind (m := checkCount "sorted" 1 1 _) (wpAny_pure (wpAny_bind ?_))
  refine zip_collect (A := A.in1) D hB hh hl hn hz hTI hTO h1 h2 b1 b2 fun h1' Ts kp hT pr hsz => ?_
  have hTl : (Ts.map Value.ref).length = xs.size := by rw [List.length_map, hT]
  refine wpAny_bind (wpAny_newList ?_ (by omega))
  have hp : (h1'.push (seqObj "list" (refsOf Ts) 0)).get? h1'.objs.size = some (seqObj "list" (refsOf Ts) 0) := Heap.get?_push_size _ rfl
  have up : ∀ {g : Heap}, PySem.W.KeepsBut h1'.objs.size (h1'.push (seqObj "list" (refsOf Ts) 0)) g → ∀ b o, h1'.get? b = some o → g.get? b = some o := fun {g} k b o e => k b o (Nat.ne_of_lt (Heap.lt_size e)) (Heap.get?_push_of_some _ e)
  refine wpAny_bind (wpAny_holding (wpAny_call_entry_kw slot_list_sort ⟨_, hp, rfl⟩ entry_list_sort ?_ (ksk_l1 _ _)))
  show wpAny (model P w) A.in1.in1 (Builtin.«list.sort» ⟨[.ref h1'.objs.size], [(Str.ofString "key", .ref f)]⟩) _ _ { s with heap := h1'.push (seqObj "list" (refsOf Ts) 0) }
  rw [ksk_t1]
  have hzl : (Ts.zip ns).length = xs.size := by rw [List.length_zip, hT, hns, Nat.min_self]
  have hz1 : (Ts.zip ns).map (·.1) = Ts := List.map_fst_zip (by omega)
  have e0 : PySem.W.EachIs (fun (v : Value) (b : Addr × Int) => v = Value.ref b.1 ∧ b ∈ Ts.zip ns) (Ts.map Value.ref) (Ts.zip ns) := by
    have := (each_refs (L := Ts.zip ns) (bs := Ts.zip ns)).mpr fun b hb => hb
    have e : (Ts.zip ns).map (fun b => Value.ref b.1) = Ts.map Value.ref := by
      rw [show (fun b : Addr × Int => Value.ref b.1) = Value.ref ∘ (fun b : Addr × Int => b.1) from rfl, ← List.map_map, hz1]
    rwa [e] at this
  refine PySem.W.keyH_tree (s := { s with heap := h1'.push (seqObj "list" (refsOf Ts) 0) }) (vs := Ts.map Value.ref) (kz := (Ts.zip ns).map fun b => PyData.int b.2) hp (by rw [List.length_map, hzl, hTl]) (by omega) (PySem.W.AllAlike.of fun _ _ => by simp [PySem.W.alike]) (PySem.W.Sortable.others fun _ => ⟨by simp, by simp⟩) (fun d hd => ?_)
    (PySem.W.keyH_turns (s := { s with heap := h1'.push (seqObj "list" (refsOf Ts) 0) }) (k := fun b : Addr × Int => PyData.int b.2) e0 fun v x hR hx' h2' tk kb => ?_) fun h' tk out c kb hD ko => ?_
  · obtain ⟨x, _, rfl⟩ := List.mem_map.mp hd
    show A.units + 1 + 1 + (PyData.int x.2).depth < cLine
    simp only [PyData.depth]
    omega
  · obtain ⟨T, n⟩ := x
    obtain ⟨rfl, _⟩ := hR
    obtain ⟨j, hj⟩ := List.getElem?_of_mem hx'
    rw [List.getElem?_zip_eq_some] at hj
    obtain ⟨hjT, hjn⟩ := hj
    obtain ⟨q, x, y, e1, e2, e3⟩ := pr.at_ j T hjT
    obtain ⟨t, rfl⟩ := hx j x n e1 hjn
    exact turn T n t y h2' tk (fun b o n1 n2 n3 n4 e => up kb b o (kp b o n1 n2 n3 n4 e)) (up kb _ _ e3)
  · have ee := PySem.W.keyedOut_each (fun b : Addr × Int => PyData.int b.2) ko e0
    have eo := refs_each ee
    have pm : ((Ts.zip ns).mergeSort (PySem.W.dataLe false fun b : Addr × Int => PyData.int b.2)).Perm (Ts.zip ns) := List.mergeSort_perm _ _
    refine ⟨_, rfl, wpAny_pure ⟨_, rfl, h h' tk h1'.objs.size Ts _ c (fun b o n1 n2 n3 n4 e => up kb b o (kp b o n1 n2 n3 n4 e)) hT (pr.but fun b o _ e => up kb b o e) (fun T hT' => ?_) hsz ((pm.map (·.1)).trans (by rw [hz1])) ⟨_, pm, rfl, srt_keys _⟩ (by rw [hD, eo])⟩⟩
    obtain ⟨j, hj⟩ := List.getElem?_of_mem hT'
    obtain ⟨_, x, y, _, _, e3⟩ := pr.at_ j T hj
    exact Heap.lt_size e3
end
end K23
namespace K23
open PySem PySem.Spec PyProof.Rows L2
/-- lambda a: a[0] -/
structure Lam0 (params : Arguments) (body : Expr) (scope : Scope) (a : Str) : Prop where
  kind : scope.kind = .function
  co : scope.isCoroutine = false
  gen : scope.isGenerator = false
  names : scope.names = [(a, .local)]
  bod : ∃ p1 p2 p3, body = .Subscript (.Name a p1) (.Constant (.int 0) 0 p2) p3
  bind : ∀ (q : Str) (cl : List (Str × Addr)) (pm cv ctv u : Value), bindArgs (PySem.W.kla_fn "<lambda>" q params body scope cl pm cv ctv) ⟨[u], []⟩ = pure [(a, u)]
  deb : (a == ("__debug__" : Str)) = false
section
variable {P : Program} {w : World} {A : Around} {s : Shared} {params : Arguments} {body : Expr} {scope : Scope} {a : Str}
theorem lam_turn (L : Lam0 params body scope a) {f T c' : Addr} {q : Str} {cl : List (Str × Addr)} {pm ctv y : Value} {n : Int} {t : Tok} (hd : A.depth < recursionLimit) (lim : s.heap.NoLimit)
    (hf : s.heap.get? f = some (PySem.W.kla_obj "<lambda>" q params body scope cl pm c' ctv)) (hc : ∃ (oc : Obj) (vs : Array Value) (t : Tok), s.heap.get? c' = some oc ∧ oc.data = .fields vs ∧ vs[1]? = some (.str q t)) (hT : IsPair s.heap T (.int n t) y) :
    wpAny (model P w) A (call (.ref f) [.ref T]) (PySem.W.KeyPure (.int n) s) (fun _ _ => False) s := by
  obtain ⟨oc, vs, tq, e1, e2, e3⟩ := hc
  refine wpAny_call (PySem.W.kla_callFunE hd hf rfl L.co L.gen rfl ⟨c', oc, vs, tq, rfl, e1, e2, e3⟩ ?_)
  rw [L.bind]
  have hk : ∀ x ∈ scope.names, x.2 ≠ .cell := fun x hx => by
    rw [L.names] at hx
    obtain rfl : x = (a, NameKind.local) := by simpa using hx
    simp
  have hl : ∀ x ∈ [(a, Value.ref T)], scope.names.lookup x.1 = some .local := fun x hx => by
    obtain rfl : x = (a, Value.ref T) := by simpa using hx
    rw [L.names]
    simp
  refine wpAny_pure (wpAny_newFunctionEnv hk hl (fun h₁ hns hsb => ⟨lim.fresh _ hsb, ?_⟩) L.kind)
  have kp : ∀ b o, s.heap.get? b = some o → h₁.get? b = some o := fun b o e => hsb.extBut b o (Nat.ne_of_lt (Heap.lt_size e)) (Heap.get?_push_of_some _ e)
  obtain ⟨p1, p2, p3, eb⟩ := L.bod
  refine PySem.W.kla_codeExpr ?_
  rw [eb]
  have pl : IsTup h₁ T #[.int n t, y] := ⟨_, kp _ _ hT, rfl, _, rfl⟩
  refine Subscript_ (wpAny_Name (wpAny_loadName_local (m := fun x => [(a, Value.ref T)].reverse.lookup x) (v := .ref T) L.kind (by rw [Env.kindOf]; exact hl (a, .ref T) (by simp)) hns (by simp) ?_) L.deb)
  refine wpAny_Constant_int (subscriptTail_builtinR (x := .int n t) pl.typeIs slot_tuple_getitem.lookup (getItem_tuple (j := 0) pl (by decide) (by decide) rfl rfl ⟨rfl, ?_⟩))
  exact ⟨h₁, _, rfl, kp, Reads.int n t⟩
end
theorem lookup_zip {β : Type} : ∀ {Ts : List Addr} {ys : List β} {j : Nat} {T : Addr} {y : β}, Ts.Pairwise (· < ·) → Ts[j]? = some T → ys[j]? = some y → (Ts.zip ys).lookup T = some y
  | [], _, j, _, _, _, h, _ => by simp at h
  | _ :: _, [], j, _, _, _, _, h => by simp at h
  | U :: Ts, z :: ys, 0, T, y, _, h1, h2 => by
    have e1 : U = T := by simpa using h1
    have e2 : z = y := by simpa using h2
    subst e1 e2
    simp
  | U :: Ts, z :: ys, j + 1, T, y, p, h1, h2 => by
    have h1' : Ts[j]? = some T := by simpa using h1
    have h2' : ys[j]? = some y := by simpa using h2
    have hn : T ≠ U := Nat.ne_of_gt ((List.pairwise_cons.mp p).1 T (List.mem_of_getElem? h1'))
    rw [List.zip_cons_cons, List.lookup_cons, show (T == U) = false by simpa using hn]
    exact lookup_zip (List.pairwise_cons.mp p).2 h1' h2'
def pickOf (Ts : List Addr) (ys : List V) (T : Addr) : V := ((Ts.zip ys).lookup T).getD .non
theorem pick_at {Ts : List Addr} {ys : List V} {j : Nat} {T : Addr} {y : V} (p : Ts.Pairwise (· < ·)) (h1 : Ts[j]? = some T) (h2 : ys[j]? = some y) : pickOf Ts ys T = y := by
  unfold pickOf
  rw [lookup_zip p h1 h2]
  rfl
theorem pick_map {Ts : List Addr} {ys : List V} (p : Ts.Pairwise (· < ·)) (h : Ts.length = ys.length) : Ts.map (pickOf Ts ys) = ys := by
  refine List.ext_getElem? fun j => ?_
  rw [List.getElem?_map]
  by_cases hj : j < Ts.length
  · have h1 : Ts[j]? = some Ts[j] := List.getElem?_eq_getElem hj
    have h2 : ys[j]? = some (ys[j]'(by omega)) := List.getElem?_eq_getElem (by omega)
    rw [h2, h1]
    show some (pickOf Ts ys Ts[j]) = _
    rw [pick_at p h1 h2]
  · rw [List.getElem?_eq_none (by omega), List.getElem?_eq_none (by omega)]
    rfl
theorem vals_refs : ∀ Ts : List Addr, Vals (Ts.map V.ref) (Ts.map Value.ref)
  | [] => .nil
  | _ :: Ts => .cons rfl (vals_refs Ts)
theorem extN_seq {K : PySem.W.Frag} {H H' : Hp} {a : Addr} {xs : List V} (e : LamX.ExtN H H') (h : SqL K H a xs) : SqL K H' a xs := by
  rcases h with (h | ⟨o, h⟩) | h
  · exact .inl (.inl (e _ _ h (fun _ q => by cases q)))
  · exact .inl (.inr ⟨o, e _ _ h (fun _ q => by cases q)⟩)
  · exact .inr h
open LamX in
/-- sorted(zip(xs, ys), key=lambda a: a[0]): some arrangement of the pairs, in new tuples; T: the tables of code objects -/
def tSortZip (K : PySem.W.Frag) (T : List (Addr × Str)) (ta : TA) : TE := fun σ H Q => ta σ H fun vs H1 => ∃ (a b : Addr) (ns : List Int) (ys : List V), vs = [.ref a, .ref b] ∧ SqL K H1 a (ns.map V.int) ∧ SqL K H1 b ys ∧ ys.length = ns.length ∧ Tabs T H1 ∧
  ∀ (H2 : Hp) (p : Addr) (Ts : List Addr) (g h : Addr → V), ExtN H1 H2 → Tabs T H2 → H1 p = none → H2 p = some (.lst (Ts.map V.ref)) → (∀ t ∈ Ts, H1 t = none ∧ H2 t = some (.tup [g t, h t])) → (Ts.map h).Perm ys → (∃ bs : List (Int × V), bs.Perm (ns.zip ys) ∧ Ts.map h = bs.map (·.2) ∧ bs.Pairwise fun a b => a.1 ≤ b.1) → Q (.ref p) H2
section
variable {X : Cx} {e1 e2 : Expr} {ta : TA} {params : Arguments} {body : Expr} {scope : Scope} {a : Str} {T : List (Addr × Str)} {c P : Addr} {p zp zpos lpos kpos pos : Pos}
open LamX in
set_option maxHeartbeats 1000000 in
theorem pe_sortZip (hg : Gl X "sorted") (hm : X.mg "sorted" = none) (hg2 : Gl X "zip") (hm2 : X.mg "zip" = none) (hc : X.A.handled = none) (hu : X.A.units + 66 < cLine) (hdep : X.A.depth < recursionLimit) (L : Lam0 params body scope a)
    (TB : TabB X.base X.mg c P) (hcode : X.env.code = .ref c) (hmT : (P, X.env.qual ++ "<lambda>") ∈ T) (huT : ∀ p ∈ T, p.1 = P → p.2 = X.env.qual ++ "<lambda>") (hdef : defaultsOf params X.env = ([], [])) (ha : PA X [e1, e2] ta)
    (hs : starEach [e1, e2] X.env = (false, eval e1 X.env) :: starEach [e2] X.env := by rfl) (hpl : (backTo zpos (starEach [e2] X.env)).any (·.1) = false := by rfl)
    (he : backTo pos (starEach [.Call (.Name "zip" zp) [e1, e2] [] zpos] X.env) = (false, eval (.Call (.Name "zip" zp) [e1, e2] [] zpos) X.env) :: backTo pos (starEach [] X.env) := by rfl) (hpl2 : (backTo pos (starEach [.Call (.Name "zip" zp) [e1, e2] [] zpos] X.env)).any (·.1) = false := by rfl) :
    PE X (.Call (.Name "sorted" p) [.Call (.Name "zip" zp) [e1, e2] [] zpos] [⟨some "key", .Lambda params body scope lpos, kpos⟩] pos) (tSortZip X.K T ta) := by
  refine ⟨fun pins s σ H Q I h => ?_⟩
  refine wpAny_Call_Name_kw (ld_blt I hg hm boot_sorted ?_)
  refine PyProof.Rows.callWith_kw ?_ he hpl2 rfl rfl
  rw [he]
  refine Calls.spliced_cons (Call_ (ld_blt I hg2 hm2 PyProof.Rows.boot_zip (PyProof.Rows.callWith_type1 (thn (ha.run zpos pins s σ H _ I h) fun us s1 ⟨vs, H1, I1, r1, q1⟩ => ?_) hs hpl)))
  obtain ⟨l1, l2, ns, ys, ex, hq1, hq2, hyl, hT, q⟩ := q1
  subst ex
  cases r1 with
  | cons r rr =>
    cases rr with
    | cons r' rr =>
      cases rr
      cases r
      cases r'
      obtain ⟨its, rv, pl1, _⟩ := I1.list hq1
      obtain ⟨its2, rv2, pl2, _⟩ := I1.list hq2
      refine call_zip_2 pl1.isList pl2.isList fun h' hz hTI hTO h1 h2 hsz hk => ?_
      refine Calls.spliced_nil ?_
      have D := PySem.W.ktu_apart s1.heap.objs.size l1 l2 pl1.lt pl2.lt
      obtain ⟨N, eN⟩ : ∃ N : Nat, s1.heap.objs.size = N := ⟨_, rfl⟩
      rw [eN] at hz hTI hTO h1 h2 hsz D
      rw [eN]
      let fp : List Addr := [N + 4, N + 2, N + 3, N, N + 1]
      have fpin : ∀ b ∈ fp, b = N + 4 ∨ b = N + 2 ∨ b = N + 3 ∨ b = N ∨ b = N + 1 := fun b hb => by simpa [fp] using hb
      have fpge : ∀ b ∈ fp, N ≤ b := fun b hb => by
        rcases fpin b hb with e | e | e | e | e <;> rw [e]
        · exact Nat.le_add_right N 4
        · exact Nat.le_add_right N 2
        · exact Nat.le_add_right N 3
        · exact Nat.le_refl N
        · exact Nat.le_add_right N 1
      have fpok : ∀ b ∈ fp, FpOk X pins H1 b := fun b hb => I1.fpOk (by rw [eN]; exact fpge b hb) (I1.hok.fresh (by rw [eN]; exact fpge b hb))
      have fpobj : ∀ b ∈ fp, ∃ o, h'.get? b = some o ∧ ∀ v, o.data ≠ .cell v := fun b hb => by
        rcases fpin b hb with e | e | e | e | e
        · rw [e]; exact ⟨_, hz, fun v q => nomatch q⟩
        · rw [e]; exact ⟨_, hTI, fun v q => nomatch q⟩
        · rw [e]; exact ⟨_, hTO, fun v q => nomatch q⟩
        · rw [e]; obtain ⟨o, o1, _, o3⟩ := h1; exact ⟨o, o1, fun v q => by rw [o3] at q; cases q⟩
        · rw [e]; obtain ⟨o, o1, _, o3⟩ := h2; exact ⟨o, o1, fun v q => by rw [o3] at q; cases q⟩
      have I2 : Inv X pins σ H1 { s1 with heap := h' } := I1.kept (t' := s1.toks) hk
      have I2' := I2.pinned fpok fpobj
      have hfree : ∀ y ∈ scope.names, y.2 = .free → ∃ c, X.env.cells.lookup y.1 = some c := fun y hy e => by
        rw [L.names] at hy
        obtain rfl : y = (a, NameKind.local) := by simpa using hy
        cases e
      refine wpAny_evalAll_cons (wpAny_bind (lam_make2 I2' TB hcode hmT huT hT hdef hfree fun f c' pm ctv H2 s3 I3 eN2 T2 hf hfn hfr hco => (wpAny_bind (wpAny_standAt (wpAny_pure (wpAny_evalAll_nil ?_))))))
      have pin : ∀ b ∈ fp, ∀ o, h'.get? b = some o → s3.heap.get? b = some o ∧ H2 b = none := fun b hb o e => by
        have hm : (b, o) ∈ pinsAt fp h' := List.mem_filterMap.mpr ⟨b, hb, by rw [e]; rfl⟩
        obtain ⟨r1, r2, _⟩ := I3.pin (b, o) (List.mem_append_right _ (List.mem_append_right _ hm))
        exact ⟨r1, r2⟩
      have I4 := I3.unpinned
      have z3 := pin (N + 4) (by simp [fp]) _ hz
      have ti3 := pin (N + 2) (by simp [fp]) _ hTI
      have to3 := pin (N + 3) (by simp [fp]) _ hTO
      have a13 : s3.heap.IsListIter N l1 0 := h1.at fun o e => (pin N (by simp [fp]) o e).1
      have a23 : s3.heap.IsListIter (N + 1) l2 0 := h2.at fun o e => (pin (N + 1) (by simp [fp]) o e).1
      obtain ⟨its, rv, pl1', hz1⟩ := I4.list (extN_seq eN2 hq1)
      obtain ⟨its2, rv2, pl2', hz2⟩ := I4.list (extN_seq eN2 hq2)
      have len1 := rv.length
      have len2 := rv2.length
      rw [List.length_map] at len1
      have zlt : N + 4 < s3.heap.objs.size := Heap.lt_size z3.1
      have key : ∀ b ∈ fp, H2 b = none := fun b hb => by
        obtain ⟨o, e, _⟩ := fpobj b hb
        exact (pin b hb o e).2
      have old : ∀ b, b < N → b ≠ N + 4 ∧ b ≠ N + 3 ∧ b ≠ N ∧ b ≠ N + 1 := fun b hb => by omega
      have hbs : ∀ b o, X.base.get? b = some o → b < N := fun b o e => Nat.lt_of_lt_of_le (Heap.lt_size e) (by have := Nat.le_trans I1.ok.bsz I1.sz; rwa [eN] at this)
      show wpAny (model X.prog X.w) X.A (call (.builtin "sorted") [.ref (N + 4)] [(Str.ofString "key", .ref f)]) (EP X pins σ Q) X.xe s3
      refine zip_sorted (xs := its.toArray) (ys := its2.toArray) (ns := ns) D ?_ hc hu (by simp only [List.size_toArray]; omega) (by rw [List.size_toArray]; rw [List.length_map] at hz1; omega) z3.1 ti3.1 to3.1 a13 a23 pl1'.isList pl2'.isList (by rw [List.size_toArray]; omega) ?_ ?_ ?_
      · intro b hb
        have e : b = N + 4 ∨ b = N + 2 ∨ b = N + 3 ∨ b = N ∨ b = N + 1 ∨ b = l1 ∨ b = l2 := by simpa using hb
        rcases e with e | e | e | e | e | e | e
        · rw [e]; exact zlt
        · rw [e]; exact Heap.lt_size ti3.1
        · rw [e]; exact Heap.lt_size to3.1
        · rw [e]; obtain ⟨o, e, _⟩ := a13; exact Heap.lt_size e
        · rw [e]; obtain ⟨o, e, _⟩ := a23; exact Heap.lt_size e
        · rw [e]; exact pl1'.lt
        · rw [e]; exact pl2'.lt
      · intro j x n e1 e2
        have e2' : (ns.map V.int)[j]? = some (.int n) := by rw [List.getElem?_map, e2]; rfl
        obtain ⟨u, hu, ru⟩ := rv.get e2'
        have e1' : its[j]? = some x := by simpa using e1
        rw [hu] at e1'
        obtain rfl := Option.some.inj e1'
        exact ru
      · intro t n tk0 y h4 tk kp hp
        have fcls : ∀ (b : Addr) (o : Obj), s3.heap.get? b = some o → o.cls ≠ .type "function" → f ≠ b := fun b o e1 e2 e => by
          rw [← e, hf] at e1
          exact e2 (congrArg Obj.cls (Option.some.inj e1)).symm
        have nf : ∀ x : String, x ≠ "function" → (Value.type x) ≠ Value.type "function" := fun x hx e => by
          injection e with e
          exact hx e
        have f1 : f ≠ N + 4 := fcls _ _ z3.1 (nf "zip" (by decide))
        have f2 : f ≠ N + 3 := fcls _ _ to3.1 (nf "tuple" (by decide))
        have f3 : f ≠ N := by
          obtain ⟨o, e1, e2, _⟩ := a13
          exact fcls _ _ e1 (by rw [e2]; exact nf "list_iterator" (by decide))
        have f4 : f ≠ N + 1 := by
          obtain ⟨o, e1, e2, _⟩ := a23
          exact fcls _ _ e1 (by rw [e2]; exact nf "list_iterator" (by decide))
        have nc : ∀ b ∈ fp, c' ≠ b := fun b hb e => by
          have := key b hb
          rw [← e, hco] at this
          cases this
        obtain ⟨⟨oc, vs, tq, o1, o2, o3⟩, _, _⟩ := I4.hok c' _ hco
        have lim : h4.NoLimit := I4.ok.mod.nolimit.keeps fun b o e => by
          obtain ⟨m1, m2, m3, m4⟩ := old b (hbs b o e)
          exact kp b o m1 m2 m3 m4 (I4.bk b o e)
        exact lam_turn L hdep lim (kp _ _ f1 f2 f3 f4 hf) ⟨oc, vs, tq, kp _ _ (nc _ (by simp [fp])) (nc _ (by simp [fp])) (nc _ (by simp [fp])) (nc _ (by simp [fp])) o1, o2, o3⟩ hp
      · intro h4 tk p4 Ts Ts' c4 kp hTl pr hTp hp4 hperm hbs hD
        have tne : ∀ b ∈ Ts, b ≠ p4 := fun b hb => Nat.ne_of_lt (hTp b hb)
        have tge : ∀ b ∈ Ts, s3.heap.objs.size < b := fun b hb => by
          obtain ⟨j, hj⟩ := List.getElem?_of_mem hb
          exact (pr.at_ j b hj).1
        let g : Addr → V := pickOf Ts (ns.map V.int)
        let k : Addr → V := pickOf Ts ys
        let H5 : Hp := fun b => if b = p4 then some (.lst (Ts'.map V.ref)) else if b ∈ Ts then some (.tup [g b, k b]) else H2 b
        have lowp : ∀ b, b < s3.heap.objs.size → b ≠ p4 := fun b hb => Nat.ne_of_lt (Nat.lt_trans hb hp4)
        have lowT : ∀ b, b < s3.heap.objs.size → b ∉ Ts := fun b hb hm => Nat.lt_irrefl _ (Nat.lt_trans hb (tge b hm))
        have low : ∀ b, b < s3.heap.objs.size → H5 b = H2 b := fun b hb => by
          show (if b = p4 then _ else if b ∈ Ts then _ else H2 b) = _
          rw [if_neg (lowp b hb), if_neg (lowT b hb)]
        have lowS : ∀ b u, H2 b = some u → H5 b = some u := fun b u e => by rw [low b (I4.hok.lt e)]; exact e
        have atP : H5 p4 = some (.lst (Ts'.map V.ref)) := if_pos rfl
        have atT : ∀ t ∈ Ts, H5 t = some (.tup [g t, k t]) := fun t ht => by
          show (if t = p4 then _ else if t ∈ Ts then _ else H2 t) = _
          rw [if_neg (tne t ht), if_pos ht]
        have kpo : ∀ b o, b ∉ fp → s3.heap.get? b = some o → h4.get? b = some o := fun b o hb e =>
          kp b o (fun z => hb (by rw [z]; simp [fp])) (fun z => hb (by rw [z]; simp [fp])) (fun z => hb (by rw [z]; simp [fp])) (fun z => hb (by rw [z]; simp [fp])) e
        have nfp : ∀ b u, H2 b = some u → b ∉ fp := fun b u e hb => by rw [key b hb] at e; cases e
        have new : ∀ t ∈ Ts, ObjOk X.prog X.w H5 h4 t (.tup [g t, k t]) := fun t ht => by
          obtain ⟨j, hj⟩ := List.getElem?_of_mem ht
          obtain ⟨_, x, y, x1, y1, pt⟩ := pr.at_ j t hj
          have hj1 : j < ns.length := by
            have := (List.getElem?_eq_some_iff.mp hj).1
            rw [List.size_toArray] at hTl
            omega
          have vx : (ns.map V.int)[j]? = some (.int ns[j]) := by rw [List.getElem?_map, List.getElem?_eq_getElem hj1]; rfl
          have vy : ys[j]? = some (ys[j]'(by omega)) := List.getElem?_eq_getElem (by omega)
          obtain ⟨u, hu, ru⟩ := rv.get vx
          obtain ⟨u2, hu2, ru2⟩ := rv2.get vy
          have ex : u = x := by
            have : its[j]? = some x := by simpa using x1
            rw [hu] at this
            exact Option.some.inj this
          have ey : u2 = y := by
            have : its2[j]? = some y := by simpa using y1
            rw [hu2] at this
            exact Option.some.inj this
          subst ex ey
          have gx : g t = .int ns[j] := pick_at pr.up hj vx
          have gy : k t = ys[j]'(by omega) := pick_at pr.up hj vy
          rw [gx, gy]
          exact ⟨by show 2 ≤ sizeLine; decide, [u, u2], .cons ru (.cons ru2 .nil), ⟨_, pt, rfl, _, rfl⟩⟩
        have newL : ObjOk X.prog X.w H5 h4 p4 (.lst (Ts'.map V.ref)) := by
          refine ⟨?_, Ts'.map Value.ref, c4, ?_, hD⟩
          · rw [List.length_map, hperm.length_eq, hTl, List.size_toArray]
            rw [List.length_map] at hz1
            omega
          · exact vals_refs Ts'
        have hok5 : HOk X.prog X.w H5 h4 := fun b u e => by
          by_cases hb : b = p4
          · rw [hb] at e ⊢
            rw [atP] at e
            cases e
            exact newL
          · by_cases hb2 : b ∈ Ts
            · rw [atT b hb2] at e
              cases e
              exact new b hb2
            · have e2 : H2 b = some u := by
                have : H5 b = H2 b := by
                  show (if b = p4 then _ else if b ∈ Ts then _ else H2 b) = _
                  rw [if_neg hb, if_neg hb2]
                rw [← this]
                exact e
              refine (I4.hok b u e2).stay (fun d v hd q => kpo d v ?_ q) (fun d q => lowS d _ q) fun d xs q => lowS d _ q
              rcases hd with z | z
              · rw [z]; exact nfp b u e2
              · exact nfp d _ z
        have I5 : Inv X pins σ H5 { s3 with heap := h4, toks := tk } := by
          refine I4.step (g' := s3.gens) (d' := s3.drawn) (ch := fp) (fun b hb => ?_) (fun b o _ _ hb e _ => kpo b o hb e) (fun b o _ _ hb e _ => ⟨o.slots, kpo b o hb e⟩) (fun b o _ e n => by rw [low b (Heap.lt_size e)]; exact n)
            (fun b o hb e => ⟨o, kpo b o hb e⟩) (fun b xs e => lowS b _ e) (fun b o u e => lowS b _ e) (fun b ps e => ⟨#[], by rw [lowS b _ e]; simp⟩) (fun m hm => ?_) hok5 I4.bare
          · obtain ⟨f0, f1, f2, f3, f4, f5⟩ := fpok b hb
            exact ⟨f3, f1, f4, f5⟩
          · obtain ⟨o, es, ep, ho, r⟩ := hm
            exact ⟨o, es, ep, kpo _ o (fun hb => (fpok _ hb).2.1 rfl) ho, r⟩
        have hE : ExtN H1 H5 := eN2.trans (ExtN.of lowS)
        refine ⟨.ref p4, H5, I5, rfl, q H5 p4 Ts' g k hE (T2.ext lowS) (I1.hok.fresh ?_) atP (fun t ht => ⟨I1.hok.fresh ?_, atT t (hperm.mem_iff.mp ht)⟩) ?_ ?_⟩
        · rw [eN]
          exact Nat.le_of_lt (Nat.lt_of_le_of_lt (Nat.le_add_right N 4) (Nat.lt_trans zlt hp4))
        · rw [eN]
          exact Nat.le_of_lt (Nat.lt_of_le_of_lt (Nat.le_add_right N 4) (Nat.lt_trans zlt (tge t (hperm.mem_iff.mp ht))))
        · refine (hperm.map k).trans ?_
          have : Ts.map k = ys := pick_map pr.up (by rw [hTl, List.size_toArray]; omega)
          rw [this]
        · obtain ⟨bs, b1, b2, b3⟩ := hbs
          have hTn : Ts.length = ns.length := by rw [hTl, List.size_toArray]; omega
          refine ⟨bs.map fun b => (b.2, k b.1), ?_, ?_, ?_⟩
          · refine (b1.map fun b => (b.2, k b.1)).trans ?_
            have : (Ts.zip ns).map (fun b => (b.2, k b.1)) = ns.zip ys := by
              refine List.ext_getElem? fun j => ?_
              rw [List.getElem?_map]
              by_cases hj : j < ns.length
              · have h1 : Ts[j]? = some (Ts[j]'(by omega)) := List.getElem?_eq_getElem (by omega)
                have h2 : ns[j]? = some ns[j] := List.getElem?_eq_getElem hj
                have h3 : ys[j]? = some (ys[j]'(by omega)) := List.getElem?_eq_getElem (by omega)
                rw [(List.getElem?_zip_eq_some (z := (Ts[j]'(by omega), ns[j]))).mpr ⟨h1, h2⟩, (List.getElem?_zip_eq_some (z := (ns[j], ys[j]'(by omega)))).mpr ⟨h2, h3⟩]
                show some (ns[j], k (Ts[j]'(by omega))) = _
                have e : k (Ts[j]'(by omega)) = ys[j]'(by omega) := pick_at pr.up h1 h3
                rw [e]
              · rw [List.getElem?_eq_none (by rw [List.length_zip]; omega), List.getElem?_eq_none (by rw [List.length_zip]; omega)]
                rfl
            rw [this]
          · rw [b2, List.map_map, List.map_map]
            rfl
          · exact List.pairwise_map.mpr b3
end
end K23
/-! x in a tuple of data; f(k = v) with nothing by position -/
namespace K23
open PySem PySem.Spec PyProof.Rows L2
def rInDT (K : PySem.W.Frag) : R2 := fun x y H Q => ∃ d ds, Dp K H x d ∧ Dp K H y (.tuple ds) ∧ SeqAt.shaped d = true ∧ SeqAt.shaped (.tuple ds) = true ∧ Q (.bl (ds.any fun z => PyData.eqv z d)) H
theorem op_inDT {X : Cx} (hu : X.A.units + 65 < cLine) : OpR X (compareOp .In) (rInDT X.K) := by
  intro pins s σ H x y v u Q I rx ry h
  obtain ⟨d, ds, hd, he, sd, se, q⟩ := h
  obtain ⟨_, r1⟩ := Dp.reads I d x v hd rx
  obtain ⟨_, r2⟩ := Dp.reads I (.tuple ds) y u he ry
  exact SeqAt.in_tuple_reads r2 r1 (SeqAt.canLay_of_shaped se) (SeqAt.canLay_of_shaped sd) (room_in_shaped sd hu) ⟨.bl _, H, I, rfl, q⟩
def kw0 {α : Type} : List α → List α → List α
  | [], ws => ws
  | _ :: _, _ => []
def tCallK0 (sp : Sp) (E : XK) (tk : TA) : TE := fun σ H Q => tk σ H fun zs H2 => sp zs H2 Q E
section
variable {X : Cx} {CX : CXT} {k : Nat} {f : Addr} {fd : FuncData} {ps ks : List Str} {sp : Sp} {E : XK} {x : Str} {p pos : Pos} {kws : List Keyword} {tk : TA}
theorem pe_callK0 (F : FnOk X.prog X.w X.K X.mg X.base CX k f fd ps sp) (hr : Room k X.A) (hg : Gl X x) (hm : X.mg x = some (.ref f)) (hk : PySem.W.keepIn X.K (.ref f) = true) (hb : KBinds X.K fd ps ks kw0 kw0) (hx : Passes CX X E)
    (hkw : PK X kws tk) (ha : (backToKw pos (keywordEach kws X.env)).all (·.1.isSome) = true := by rfl) (hs : (backToKw pos (keywordEach kws X.env)).filterMap (·.1) = ks := by rfl)
    (hdb : (x == ("__debug__" : Str)) = false := by decide) (hpl : ((backTo pos (starEach [] X.env)).any (·.1) || (backToKw pos (keywordEach kws X.env)).any (·.1.isNone)) = false := by rfl) :
    PE X (.Call (.Name x p) [] kws pos) (tCallK0 sp E tk) := by
  refine ⟨fun pins s σ H Q I h => wpAny_Call_Name_kw (ld_glob I hg hm ?_ hdb)⟩
  refine PySem.W.callWith_KW0 (h₀ := X.base) I.ok.mod.kin hk ha (thn (hkw.run pos pins s σ H _ I h) fun ws s2 ⟨zs, H2, I2, rz, q2⟩ => ⟨I2.kIn, ?_⟩) hpl
  rw [hs]
  exact run_fnk (us := []) (vs := []) F hr hb hx I2 .nil rz q2
end
theorem kbinds {K : PySem.W.Frag} {x : Str} {st : Stmt} {f : Addr} {fd : FuncData} (F : Fun K x x st f fd) {ps : List Str} (hp : ps ≠ [])
    (h : ∀ (kV doc pm : Value) (an : Option Addr) (cdv ct : Value) (ws : List Value), ws.length = ps.length → bindArgs (PySem.W.fnOf x x (defArgs st) (defBody st) (defScope st) .none kV doc pm an cdv ct) ⟨[], ps.zip ws⟩ = pure (ps.zip ws)) : KBinds K fd ps ps kw0 kw0 := by
  obtain ⟨oc, od, kV, doc, pm, an, cdv, ct, osl, rfl, _, _⟩ := F.ex
  refine ⟨fun s us ws _ hl => ?_, fun {vs us zs ws} r1 r2 => ?_⟩
  · cases us with
    | nil => exact .of_eq (h kV doc pm an cdv ct ws hl)
    | cons u us =>
      have hl' : 0 = ps.length := hl
      exact absurd (List.eq_nil_of_length_eq_zero hl'.symm) hp
  · cases r1 with
    | nil => exact r2
    | cons _ _ => exact .nil
end K23
namespace K23
open PySem PySem.Spec PyProof.Rows L2 HT
/-! t[::-1] of a tuple -/
theorem fm_congr {α β : Type} {f g : α → Option β} : ∀ {l : List α}, (∀ m ∈ l, f m = g m) → l.filterMap f = l.filterMap g
  | [], _ => rfl
  | a :: l, h => by rw [List.filterMap_cons, List.filterMap_cons, h a List.mem_cons_self, fm_congr fun m hm => h m (List.mem_cons_of_mem _ hm)]
theorem pick_back (xs : Array Value) : ((List.range xs.size).filterMap fun (m : Nat) => xs[(((xs.size : Int) - 1) + (m : Int) * (-1)).toNat]?).toArray = xs.toList.reverse.toArray := by
  congr 1
  have e : (List.range xs.size).filterMap (fun (m : Nat) => xs[(((xs.size : Int) - 1) + (m : Int) * (-1)).toNat]?) = ((List.range xs.size).map fun k => xs.size - 1 - k).filterMap (xs[·]?) := by
    rw [List.filterMap_map]
    refine fm_congr fun m hm => ?_
    have := List.mem_range.mp hm
    show xs[(((xs.size : Int) - 1) + (m : Int) * (-1)).toNat]? = xs[xs.size - 1 - m]?
    rw [show (((xs.size : Int) - 1) + (m : Int) * (-1)).toNat = xs.size - 1 - m by omega]
  rw [e, PySem.W.krv_range, List.filterMap_reverse, PySem.W.krv_all]
theorem places_back (n : Nat) : Builtin.Slice.slicePlaces ((n : Int) - 1) (-1) (-1) = n := by
  unfold Builtin.Slice.slicePlaces
  rw [if_neg (by decide)]
  by_cases h : (n : Int) - 1 > -1
  · rw [if_pos h, show (- -1 : Int) = 1 by decide, Int.ediv_one]
    omega
  · rw [if_neg h]
    omega
section
variable {prog : Program} {w : World} {A : Around} {E : Value → Shared → Prop} {s : Shared}
theorem applied_back {sl : Addr} {vs : Value} {n : Nat} {Q : Int × Int × Nat → Shared → Prop} (hs : s.heap.IsSliceOf sl .none .none vs) (ps : IsPart vs (some (-1))) (h : Q ((n : Int) - 1, -1, n) s) : wpAny (model prog w) A (Builtin.Slice.sliceApplied (.ref sl) (pure (n : Int))) Q E s := by
  obtain ⟨os, h1, h2, h3⟩ := id hs
  unfold Builtin.Slice.sliceApplied Builtin.Slice.sliceFields
  refine wpAny_bind (wpAny_bind (wpAny_field h1 h3 (x := .none) rfl (wpAny_bind (wpAny_field h1 h3 (x := .none) rfl (wpAny_bind (wpAny_field h1 h3 (x := vs) rfl (wpAny_pure ?_)))))))
  refine wpAny_bind (slicePart_ ps ?_)
  show wpAny _ _ (if ((-1 : Int) == 0) = true then _ else _) _ _ s
  rw [if_neg (by decide)]
  refine wpAny_bind (slicePart_none (wpAny_bind (slicePart_none (wpAny_bind (wpAny_pure ?_)))))
  show wpAny _ _ (pure (((n : Int) - 1), (-1 : Int), Builtin.Slice.slicePlaces ((n : Int) - 1) (-1) (-1))) _ _ s
  rw [places_back]
  exact wpAny_pure h
theorem get_back {t sl : Addr} {us : Array Value} {vs : Value} {Q : Value → Shared → Prop} (ht : IsTup s.heap t us) (hs : s.heap.IsSliceOf sl .none .none vs) (ps : IsPart vs (some (-1))) (hz : us.size ≤ sizeLine)
    (h : Q (.ref s.heap.objs.size) { s with heap := s.heap.push { cls := .type "tuple", data := .seq us.toList.reverse.toArray } }) : wpAny (model prog w) A (getItem (.ref t) (.ref sl)) Q E s := by
  have fits : sizeOk (.seq us.toList.reverse.toArray) := by
    show us.toList.reverse.toArray.size ≤ sizeLine
    rw [List.size_toArray, List.length_reverse, Array.length_toList]; exact hz
  have hT : s.TypeIs (.ref sl) "slice" := let ⟨os, h1, h2, _⟩ := id hs; ⟨os, h1, h2⟩
  unfold getItem
  try with_reducible refine wpAny_holding ?_
  first | refine wpAny_bind (wpAny_pure ?_) | skip
  refine wpAny_bind (wpAny_sequenceKey ht.typeIs (by decide) (wpAny_bind (wpAny_callSpecial?_slot (name := Str.ofString "__getitem__") ht.typeIs PyProof.Rows.slot_tuple_getitem (wpAny_call_entry PyProof.Rows.slot_tuple_getitem ht.typeIs entry_tuple_getitem ?_ (args_tuple_getitem _ _)))))
  show wpAny _ _ (Builtin.Tuple.tupleItemsOf (.ref t) >>= _) _ _ s
  refine wpAny_bind (tupleItemsOf_ ht (wpAny_bind (wpAny_typeOf hT ?_)))
  rw [if_pos (by decide)]
  refine wpAny_bind (applied_back hs ps ?_)
  have no : ¬ ((((us.size : Int) - 1) == 0 && (-1 : Int) == 1 && us.size == us.size) = true) := fun q => by
    rw [Bool.and_eq_true, Bool.and_eq_true] at q
    exact absurd q.1.2 (by decide)
  show wpAny _ _ (if (((us.size : Int) - 1) == 0 && (-1 : Int) == 1 && us.size == us.size) = true then _ else _) _ _ s
  rw [if_neg no, pick_back]
  first
    | exact wpAny_bind (m := Builtin.Tuple.tupleExact _) (wpAny_newObj_type (wpAny_pure ⟨_, rfl, wpAny_pure h⟩) fits)
    | exact wpAny_bind (m := Builtin.Tuple.tupleExact _) (wpAny_newObj_type (wpAny_bind (wpAny_pure (wpAny_pure ⟨_, rfl, wpAny_pure h⟩))) fits)
    | exact wpAny_bind (wpAny_bind (m := Builtin.Tuple.tupleExact _) (wpAny_newObj_type (wpAny_pure (wpAny_pure ⟨_, rfl, wpAny_pure h⟩)) fits))
    | exact wpAny_bind (wpAny_bind (m := Builtin.Tuple.tupleExact _) (wpAny_newObj_type (wpAny_pure ⟨_, rfl, wpAny_pure h⟩) fits))
end
section
variable {X : Cx}
def tRevT (K : PySem.W.Frag) (te : TE) : TE := fun σ H Q => te σ H fun x H1 => ∃ a xs, x = .ref a ∧ SqT K H1 a xs ∧ ∀ p, H1 p = none → Q (.ref p) (upd H1 p (.tup xs.reverse))
theorem pe_revT {e : Expr} {te : TE} {k : Nat} {p1 p2 p3 pos : Pos} (he : PE X e te) : PE X (.Subscript e (.Slice none none (some (.UnaryOp .USub (.Constant (.int 1) k p1) p2)) p3) pos) (tRevT X.K te) := by
  refine ⟨fun pins s σ H Q I h => Subscript_ (thn (he.run pins s σ H _ I h) fun v s1 ⟨x, H1, I1, r1, q1⟩ => ?_)⟩
  obtain ⟨a, xs, ex, hx, q⟩ := q1
  subst ex
  cases r1
  have hst : PO X (some (.UnaryOp .USub (.Constant (.int 1) k p1) p2)) (tPart (tUn (rU fun i => .int (-i)) (tC (.int 1)))) := po_some (pe_un un_neg pe_int)
  refine wpAny_Slice (thn (po_none.run pins s1 σ H1 (fun o H2 => o = none ∧ H2 = H1) I1 ⟨rfl, rfl⟩) fun vl s2 ⟨l, H2, I2, pl, el, e2⟩ => ?_)
  subst el e2
  refine thn (po_none.run pins s2 σ H2 (fun o H3 => o = none ∧ H3 = H2) I2 ⟨rfl, rfl⟩) fun vu s3 ⟨u, H3, I3, pu, eu, e3⟩ => ?_
  subst eu e3
  refine thn (hst.run pins s3 σ H3 (fun o H4 => o = some (-1) ∧ H4 = H3) I3 ⟨1, rfl, -1, rfl, rfl, rfl⟩) fun vs s4 ⟨o, H4, I4, ps, eo, e4⟩ => ?_
  subst eo e4
  cases pl
  cases pu
  have I5 : Inv X pins σ H4 { s4 with heap := s4.heap.push { cls := .type "slice", data := .fields #[.none, .none, vs] } } := I4.kept (t' := s4.toks) fun b ob q => Heap.get?_push_of_some _ q
  obtain ⟨its, r, ht, hz⟩ := I5.tuple hx
  show wpAny (model X.prog X.w) X.A (subscriptTail e (.Slice none none (some (.UnaryOp .USub (.Constant (.int 1) k p1) p2)) p3) (.ref a) (.ref s4.heap.objs.size)) (EP X pins σ Q) X.xe { s4 with heap := s4.heap.push { cls := .type "slice", data := .fields #[.none, .none, vs] } }
  refine tail_any (ops := [.ref a, .ref s4.heap.objs.size]) ht.typeIs (PyProof.Rows.slot_tuple_getitem.lookup) ?_ (by with_unfolding_all rfl)
  refine get_back ht (Heap.IsSliceOf.new _ .none .none vs) ps (by rw [List.size_toArray]; have := r.length; omega) ?_
  refine ⟨.ref _, _, I5.laid (t' := s4.toks) (o := .tup xs.reverse) (fun b ob q => Heap.get?_push_of_some _ q) (Nat.le_refl _) ?_, rfl, q _ (I5.hok.fresh (Nat.le_refl _))⟩
  exact ⟨by rw [List.length_reverse]; exact hz, _, r.reverse, IsTup.new _ _⟩
end
end K23
namespace K23
open PySem PySem.Spec PyProof.Rows L2
/-! the source of draws -/
theorem swp {N G : Prop} (a : N → G) (b : N) : G := a b
def DealAt (d q : Addr) (H : Hp) : Prop := ∃ (b : Int) (ds : List Int), H d = some (.lst [.ref q, .int b]) ∧ H q = some (.lst (ds.map V.int)) ∧ (∀ x ∈ ds, 0 ≤ x) ∧ ds.length ≤ 63 ∧ 0 ≤ b ∧ b < 2147483648 ∧ d ≠ q
/-- all but the two lists of the source is kept -/
def Dq (d q : Addr) (H H' : Hp) : Prop := ∀ x o, H x = some o → x ≠ d → x ≠ q → H' x = some o
theorem Dq.refl (d q : Addr) (H : Hp) : Dq d q H H := fun _ _ e _ _ => e
theorem Dq.trans {d q : Addr} {H H1 H2 : Hp} (a : Dq d q H H1) (b : Dq d q H1 H2) : Dq d q H H2 := fun x o e n m => b x o (a x o e n m) n m
theorem Dq.of {d q : Addr} {H H' : Hp} (s : Same H H') : Dq d q H H' := fun x o e _ _ => s x o e
theorem DealAt.sm {d q : Addr} {H H' : Hp} (D : DealAt d q H) (s : Same H H') : DealAt d q H' := by
  obtain ⟨b, ds, h1, h2, r⟩ := D
  exact ⟨b, ds, s _ _ h1, s _ _ h2, r⟩
theorem DealAt.kp {d q : Addr} {H H' : Hp} (D : DealAt d q H) (k : Dq d q H H') : Kp H H' := fun x o e n1 n2 => by
  obtain ⟨b, ds, h1, h2, r⟩ := D
  refine k x o e (fun z => ?_) fun z => ?_
  · rw [z, h1] at e
    exact n1 _ (Option.some.inj e).symm
  · rw [z, h2] at e
    exact n1 _ (Option.some.inj e).symm
theorem dq_q {d q : Addr} {H : Hp} {o : HO} : Dq d q H (upd H q o) := fun x u e _ n => by rw [upd_ne n]; exact e
theorem dq_d {d q : Addr} {H : Hp} {o : HO} : Dq d q H (upd H d o) := fun x u e n _ => by rw [upd_ne n]; exact e
theorem eqv_nil (ds : List PyData) : PyData.eqv (.list ds) (.list []) = ds.isEmpty := by
  cases ds with
  | nil => simp [PyData.eqv, PyData.eqvAll]
  | cons x ds => simp [PyData.eqv, PyData.eqvAll]
theorem shaped_ints (a : List Int) : SeqAt.shaped (.list (a.map PyData.int)) = true := by
  show ((PyData.list (a.map PyData.int)).canLay0 && decide ((PyData.list (a.map PyData.int)).depth ≤ 64)) = true
  rw [Bool.and_eq_true]
  refine ⟨by rw [PyData.canLay0]; exact lay_ints a, decide_eq_true ?_⟩
  rw [PyData.depth, dep_ints]
  decide
theorem shaped_nil : SeqAt.shaped (.list []) = true := shaped_ints []
theorem at_end {xs : List Int} {m : Int} (h : xs.getLast? = some m) : atI (xs.map V.int) (-1) = some (.int m) := by
  obtain ⟨ys, rfl⟩ := List.getLast?_eq_some_iff.mp h
  rw [List.map_append]
  exact atI_last _ _
theorem last_some {xs : List Int} (h : xs ≠ []) : ∃ m, xs.getLast? = some m := ⟨_, List.getLast?_eq_some_getLast h⟩
section
variable {P : Program} {w : World} {K : PySem.W.Frag} {mg : Str → Option Value} {base : Heap}
/-! _law_draw -/
abbrev s15 : Stmt := top 15
theorem sc15 : FnScope ["deal", "bound", "rest"] ["deal", "bound"] (defScope s15) := ⟨rfl, rfl, rfl, by decide +kernel, rfl, by decide +kernel, by decide +kernel⟩
def sp15 : Sp := fun vs H Q _ => ∃ (d q : Addr) (n : Nat), vs = [.ref d, .int n] ∧ DealAt d q H ∧ 0 < n ∧ n < 1000000000 ∧ ∀ (r : Nat) (H' : Hp), r < n → DealAt d q H' → Dq d q H H' → Q (.int r) H'
theorem ok15 {f : Addr} {fd : FuncData} (D : Df K mg "_law_draw" s15 f fd ["deal", "bound"]) (Z : Zs mg) : FnOk P w K mg base CX0 1 f fd ["deal", "bound"] sp15 := by
  refine D.F.ok sc15 (fun vs H Q E h => ?_) (fun cdv A outer s H vs Q E hr h => ?_)
  · obtain ⟨d, q, n, rfl, _⟩ := h
    rfl
  obtain ⟨d, q, n, rfl, hD, hn0, hn, qq⟩ := h
  have hu := hr.units
  refine ⟨_, pss_cons (ps_while PassesOwn.never (PW.pt (pw_and (pt_cmpR (op_neD hu) (pe_ix ix_list (pv 0) pe_int (fun _ _ => rfl)) (pe_lst pa_nil) (nomark _))
        (pw_and1 (pt_cmpR op_eq (pe_ix ix_list (pe_ix ix_list (pv 0) pe_int (fun _ _ => rfl)) (pe_un un_neg pe_int) (fun _ _ => rfl)) pe_int (nomark _)))))
      (pss_one (ps_expr (pe_bm0 PySem.F.plainAttrs_list PySem.F.slot_list_pop PySem.F.type_list_pop mt_pop (pe_ix ix_list (pv 0) pe_int (fun _ _ => rfl))))))
    (pss_cons (ps_if (pt_cmpR (op_neD hu) (pe_ix ix_list (pv 0) pe_int (fun _ _ => rfl)) (pe_lst pa_nil) (nomark _))
      (pss_cons (ps_set (i := 2) sc15.nd rfl (.inl rfl) (pe_bm0 PySem.F.plainAttrs_list PySem.F.slot_list_pop PySem.F.type_list_pop mt_pop (pe_ix ix_list (pv 0) pe_int (fun _ _ => rfl))))
      (pss_cons (ps_expr (pe_bm PySem.F.plainAttrs_list PySem.F.slot_list_append PySem.F.type_list_append mt_append (pe_ix ix_list (pv 0) pe_int (fun _ _ => rfl)) (pa_cons (pe_op op_fdiv (pv 2) (pv 1)) pa_nil)))
      (pss_one (ps_ret (pe_op op_mod (pe_callTy call_int1 rfl Z.int (by decide +kernel) (pa_cons (pv 2) pa_nil)) (pv 1)))))) pss_nil)
    (pss_cons (ps_asg (pe_op op_mod (pe_callTy call_int1 rfl Z.int (by decide +kernel) (pa_cons (pe_op op_add (pe_op op_mul (pe_ix ix_list (pv 0) pe_int (fun _ _ => rfl)) pe_int) pe_int) pa_nil)) pe_int) (pg_sub (pv 0) pe_int set_list))
    (pss_one (ps_ret (pe_op op_mod (pe_callTy call_int1 rfl Z.int (by decide +kernel) (pa_cons (pe_op op_fdiv (pe_ix ix_list (pv 0) pe_int (fun _ _ => rfl)) pe_int) pa_nil)) (pv 1)))))), ?_⟩
  have dp : ∀ (H1 : Hp) (ds : List Int), H1 q = some (.lst (ds.map V.int)) → Dp K H1 (.ref q) (.list (ds.map PyData.int)) := fun H1 ds e => .lst (SqL.of e) (dp_ints ds)
  have new : ∀ {H1 : Hp} {l : Addr} {o : HO}, H1 l = none → Same H1 (upd H1 l o) := fun h => same_upd h
  refine ⟨fun m σ H' => σ = [some (.ref d), some (.int n), none] ∧ Dq d q H H' ∧ ∃ (b : Int) (ds : List Int), H' d = some (.lst [.ref q, .int b]) ∧ H' q = some (.lst (ds.map V.int)) ∧ (∀ x ∈ ds, 0 ≤ x) ∧ ds.length ≤ 63 ∧ 0 ≤ b ∧ b < 2147483648 ∧ d ≠ q ∧ ds.length = m, ?_, ?_⟩
  · obtain ⟨b, ds, h1, h2, h3, h4, h5, h6, h7⟩ := hD
    exact ⟨ds.length, rfl, Dq.refl _ _ _, b, ds, h1, h2, h3, h4, h5, h6, h7, rfl⟩
  rintro m σ H1 ⟨rfl, k1, b, ds, h1, h2, h3, h4, h5, h6, h7, h8⟩
  refine ⟨_, rfl, d, _, 0, .ref q, rfl, rfl, SqL.of h1, rfl, Nat.zero_le _, fun l hl => ?_⟩
  have s1 := new (o := .lst []) hl
  refine ⟨.list (ds.map PyData.int), .list [], dp _ _ (s1 _ _ h2), .lst (SqL.of upd_same) .nil, shaped_ints ds, shaped_nil, _, rfl, ?_⟩
  rw [eqv_nil, List.isEmpty_map]
  have k2 : Dq d q H (upd H1 l (.lst [])) := k1.trans (.of s1)
  have g1 := s1 _ _ h1
  have g2 := s1 _ _ h2
  revert k2 g1 g2
  generalize upd H1 l (.lst []) = H2
  intro k2 g1 g2
  apply swp
  · intro nx
    by_cases he : ds = []
    · rw [show (!ds.isEmpty) = false by simp [he]]
      refine iteF ?_
      exact nx
    · rw [show (!ds.isEmpty) = true by simp [he]]
      refine iteT ?_
      obtain ⟨z, hz⟩ := last_some he
      refine ⟨_, rfl, d, _, 0, .ref q, rfl, rfl, SqL.of g1, rfl, _, rfl, q, _, -1, _, rfl, rfl, SqL.of g2, at_end hz, rfl, _, rfl, ?_⟩
      by_cases hz0 : z = 0
      · rw [show decide (V.int z = V.int 0) = true by rw [hz0]; decide]
        refine iteT ⟨fun σ' H' => ∃ m', m' < m ∧ (σ' = [some (.ref d), some (.int n), none] ∧ Dq d q H H' ∧ ∃ (b : Int) (ds : List Int), H' d = some (.lst [.ref q, .int b]) ∧ H' q = some (.lst (ds.map V.int)) ∧ (∀ x ∈ ds, 0 ≤ x) ∧ ds.length ≤ 63 ∧ 0 ≤ b ∧ b < 2147483648 ∧ d ≠ q ∧ ds.length = m'), fun _ _ h => h, ?_⟩
        refine ⟨_, rfl, d, _, 0, .ref q, rfl, rfl, SqL.of g1, rfl, .inl ⟨rfl, _, SqL.of g2⟩, ?_⟩
        have hp : 0 < ds.length := List.length_pos_iff.mpr he
        have hlast : (ds.map V.int)[(ds.map V.int).length - 1]? = some (.int z) := by
          rw [List.length_map, List.getElem?_map, ← List.getLast?_eq_getElem?, hz]
          rfl
        refine ⟨q, _, _, rfl, rfl, g2, hlast, ?_⟩
        refine ⟨m - 1, by omega, rfl, k2.trans dq_q, b, ds.dropLast, ?_, ?_, fun x hx => h3 x (List.dropLast_subset _ hx), ?_, h5, h6, h7, ?_⟩
        · rw [upd_ne h7]; exact g1
        · rw [upd_same, List.map_dropLast]
        · rw [List.length_dropLast]; omega
        · rw [List.length_dropLast]; omega
      · rw [show decide (V.int z = V.int 0) = false by simp [hz0]]
        refine iteF ?_
        exact nx
  · refine ⟨_, rfl, d, _, 0, .ref q, rfl, rfl, SqL.of g1, rfl, Nat.zero_le _, fun l2 hl2 => ?_⟩
    have s2 := new (o := .lst []) hl2
    refine ⟨.list (ds.map PyData.int), .list [], dp _ _ (s2 _ _ g2), .lst (SqL.of upd_same) .nil, shaped_ints ds, shaped_nil, _, rfl, ?_⟩
    rw [eqv_nil, List.isEmpty_map]
    have k3 : Dq d q H (upd H2 l2 (.lst [])) := k2.trans (.of s2)
    have f1 := s2 _ _ g1
    have f2 := s2 _ _ g2
    revert k3 f1 f2
    generalize upd H2 l2 (.lst []) = H3
    intro k3 f1 f2
    have hn' : (0 : Int) < (n : Int) := by omega
    have mod_ok : ∀ (a : Int) (H' : Hp), DealAt d q H' → Dq d q H H' → Q (.int (a % (n : Int))) H' := fun a H' h1 h2 => by
      have e : a % (n : Int) = ((a % (n : Int)).toNat : Int) := by
        have := Int.emod_nonneg a (show (n : Int) ≠ 0 by omega)
        omega
      rw [e]
      refine qq _ H' ?_ h1 h2
      have := Int.emod_lt_of_pos a hn'
      have := Int.emod_nonneg a (show (n : Int) ≠ 0 by omega)
      omega
    by_cases he : ds = []
    · rw [show (!ds.isEmpty) = false by simp [he]]
      refine iteF ?_
      refine ⟨_, rfl, d, _, 1, .int b, rfl, rfl, SqL.of f1, rfl, _, _, rfl, rfl, .inl ⟨by omega, by omega⟩, _, _, rfl, rfl, .inl ⟨_, rfl, _, _, rfl, rfl, (by show (0 : Int) < 2147483563; decide), ?_⟩⟩
      have hb := Int.emod_lt_of_pos (b * 40014 + 73) (show (0 : Int) < 2147483563 by decide)
      have hb0 := Int.emod_nonneg (b * 40014 + 73) (show (2147483563 : Int) ≠ 0 by decide)
      refine ⟨_, rfl, d, _, 1, 1, rfl, rfl, f1, rfl, ?_⟩
      have D4 : DealAt d q (upd H3 d (.lst ([V.ref q, V.int b].set 1 (.int ((b * 40014 + 73) % 2147483563))))) := by
        refine ⟨(b * 40014 + 73) % 2147483563, ds, upd_same, ?_, h3, h4, hb0, by omega, h7⟩
        rw [upd_ne (Ne.symm h7)]
        exact f2
      refine ⟨_, rfl, d, _, 1, .int ((b * 40014 + 73) % 2147483563), rfl, rfl, SqL.of upd_same, rfl, _, _, rfl, rfl, ⟨by decide, by decide⟩, .inl ⟨_, rfl, _, rfl, _, _, rfl, rfl, hn', ?_⟩⟩
      exact mod_ok _ _ D4 (k3.trans dq_d)
    · rw [show (!ds.isEmpty) = true by simp [he]]
      refine iteT ?_
      obtain ⟨z, hz⟩ := last_some he
      have hp : 0 < ds.length := List.length_pos_iff.mpr he
      have hlast : (ds.map V.int)[(ds.map V.int).length - 1]? = some (.int z) := by
        rw [List.length_map, List.getElem?_map, ← List.getLast?_eq_getElem?, hz]
        rfl
      have hz0 : 0 ≤ z := h3 z (List.mem_of_getLast? hz)
      refine ⟨_, rfl, d, _, 0, .ref q, rfl, rfl, SqL.of f1, rfl, .inl ⟨rfl, _, SqL.of f2⟩, q, _, _, rfl, rfl, f2, hlast, ?_⟩
      refine ⟨_, rfl, d, _, 0, .ref q, rfl, rfl, SqL.of (by rw [upd_ne h7]; exact f1), rfl, .inl ⟨rfl, _, SqL.of upd_same⟩, _, rfl, _, rfl, _, _, rfl, rfl, ⟨hn', by omega⟩, q, _, _, rfl, rfl, upd_same, ?_, ?_⟩
      · rw [List.length_dropLast, List.length_map]
        exact small1000 (by omega)
      · refine ⟨_, rfl, .inl ⟨_, rfl, _, rfl, _, _, rfl, rfl, hn', ?_⟩⟩
        refine mod_ok _ _ ⟨b, ds.dropLast ++ [z / n], ?_, ?_, fun x hx => ?_, ?_, h5, h6, h7⟩ ((k3.trans dq_q).trans dq_q)
        · rw [upd_ne h7, upd_ne h7]; exact f1
        · rw [upd_same, List.map_append, List.map_dropLast]; rfl
        · rcases List.mem_append.mp hx with hx | hx
          · exact h3 x (List.dropLast_subset _ hx)
          · obtain rfl : x = z / n := by simpa using hx
            exact Int.ediv_nonneg hz0 (by omega)
        · rw [List.length_append, List.length_dropLast]
          show _ + 1 ≤ 63
          omega
end
end K23
namespace K23
open PySem PySem.Spec PyProof.Rows L2
theorem lt_line {n : Nat} (h : n ≤ 1000000) : n < sizeLine := Nat.lt_of_le_of_lt h (by decide)
theorem erase_perm {α : Type} : ∀ {ls : List α} {r : Nat} (h : r < ls.length), (ls[r] :: ls.eraseIdx r).Perm ls
  | [], r, h => absurd h (Nat.not_lt_zero r)
  | a :: ls, 0, _ => List.Perm.refl _
  | a :: ls, r + 1, h => by
    have ih := erase_perm (ls := ls) (r := r) (by simpa using h)
    rw [List.getElem_cons_succ, List.eraseIdx_cons_succ]
    exact (List.Perm.swap _ _ _).trans (ih.cons a)
theorem seq_dq {K : PySem.W.Frag} {d q b : Addr} {H H' : Hp} {xs : List V} (h : SqL K H b xs) (k : Dq d q H H') (n : b ≠ d) (m : b ≠ q) : SqL K H' b xs := by
  rcases h with (h | ⟨o, h⟩) | h
  · exact .inl (.inl (k _ _ h n m))
  · exact .inl (.inr ⟨o, k _ _ h n m⟩)
  · exact .inr h
theorem tup_dq {K : PySem.W.Frag} {d q b : Addr} {H H' : Hp} {xs : List V} (h : SqT K H b xs) (k : Dq d q H H') (n : b ≠ d) (m : b ≠ q) : SqT K H' b xs := by
  rcases h with (h | ⟨o, h⟩) | h
  · exact .inl (.inl (k _ _ h n m))
  · exact .inl (.inr ⟨o, k _ _ h n m⟩)
  · exact .inr h
theorem Dq.new {d q l : Addr} {H H1 : Hp} {o : HO} (k : Dq d q H H1) (h : H l = none) : Dq d q H (upd H1 l o) := fun x u e n m => by
  rw [upd_ne (ne_of_none e h)]
  exact k x u e n m
theorem DealAt.upd {d q l : Addr} {H : Hp} {o : HO} (D : DealAt d q H) (n : l ≠ d) (m : l ≠ q) : DealAt d q (upd H l o) := by
  obtain ⟨b, ds, h1, h2, r⟩ := D
  exact ⟨b, ds, by rw [upd_ne (Ne.symm n)]; exact h1, by rw [upd_ne (Ne.symm m)]; exact h2, r⟩
theorem DealAt.ne {d q l : Addr} {H : Hp} (D : DealAt d q H) (h : H l = none) : l ≠ d ∧ l ≠ q := by
  obtain ⟨b, ds, h1, h2, r⟩ := D
  exact ⟨fun z => (by rw [z, h1] at h; cases h), fun z => (by rw [z, h2] at h; cases h)⟩
/-- data that == looks at -/
def okd (x : PyData) : Prop := x.canLay0 = true ∧ x.depth ≤ 60
def Dm (H : Hp) (xs : List V) : Prop := ∀ v ∈ xs, ∃ x, Dt H v x ∧ okd x
theorem Dm.dpAll {K : PySem.W.Frag} {H : Hp} : ∀ {xs : List V}, Dm H xs → ∃ ds, DpAll K H xs ds ∧ (∀ x ∈ ds, okd x) ∧ ds.length = xs.length
  | [], _ => ⟨[], .nil, by simp, rfl⟩
  | v :: xs, h => by
    obtain ⟨ds, h1, h2, h3⟩ := Dm.dpAll (K := K) (H := H) (xs := xs) fun u hu => h u (List.mem_cons_of_mem _ hu)
    obtain ⟨x, hx, ho⟩ := h v List.mem_cons_self
    refine ⟨x :: ds, .cons hx.dp h1, fun y hy => ?_, by simp [h3]⟩
    rcases List.mem_cons.mp hy with rfl | hy
    · exact ho
    · exact h2 y hy
theorem lay_all : ∀ {ds : List PyData}, (∀ x ∈ ds, okd x) → PyData.canLayAll0 ds = true ∧ PyData.depthAll ds ≤ 60
  | [], _ => by simp [PyData.canLayAll0, PyData.depthAll]
  | x :: ds, h => by
    obtain ⟨h1, h2⟩ := lay_all fun y hy => h y (List.mem_cons_of_mem _ hy)
    obtain ⟨h3, h4⟩ := h x List.mem_cons_self
    simp [PyData.canLayAll0, PyData.depthAll, h1, h3]
    omega
theorem shaped_all {ds : List PyData} (h : ∀ x ∈ ds, okd x) : SeqAt.shaped (.list ds) = true := by
  obtain ⟨h1, h2⟩ := lay_all h
  show ((PyData.list ds).canLay0 && decide ((PyData.list ds).depth ≤ 64)) = true
  rw [Bool.and_eq_true]
  refine ⟨by rw [PyData.canLay0]; exact h1, decide_eq_true ?_⟩
  rw [PyData.depth]
  omega
theorem Dm.mono {H : Hp} {xs ys : List V} (h : Dm H xs) (s : ∀ v ∈ ys, v ∈ xs) : Dm H ys := fun v hv => h v (s v hv)
theorem Dm.kp {H H' : Hp} {xs : List V} (h : Dm H xs) (k : Kp H H') : Dm H' xs := fun v hv => let ⟨x, a, b⟩ := h v hv; ⟨x, a.kp k, b⟩
theorem isEmpty_len {α β : Type} {xs : List α} {ys : List β} (h : xs.length = ys.length) : xs.isEmpty = ys.isEmpty := by
  cases xs <;> cases ys <;> simp at h <;> rfl
section
variable {P : Program} {w : World} {K : PySem.W.Frag} {mg : Str → Option Value} {base : Heap}
/-! _law_pick -/
abbrev s16 : Stmt := top 16
theorem sc16 : FnScope ["deal", "some"] ["deal", "some"] (defScope s16) := ⟨rfl, rfl, rfl, by decide +kernel, rfl, by decide +kernel, by decide +kernel⟩
def sp16 (K : PySem.W.Frag) : Sp := fun vs H Q _ => ∃ (d q b : Addr) (xs : List V), vs = [.ref d, .ref b] ∧ DealAt d q H ∧ Sq K H b xs ∧ xs ≠ [] ∧ xs.length < 1000000 ∧ b ≠ d ∧ b ≠ q ∧ ∀ (x : V) (H' : Hp), x ∈ xs → DealAt d q H' → Dq d q H H' → Q x H'
theorem ok16 {f f1 : Addr} {fd fd1 : FuncData} (D : Df K mg "_law_pick" s16 f fd ["deal", "some"]) (D1 : Df K mg "_law_draw" s15 f1 fd1 ["deal", "bound"]) (Z : Zs mg) : FnOk P w K mg base CX0 2 f fd ["deal", "some"] (sp16 K) := by
  have G : FnOk P w K mg base CX0 1 f1 fd1 ["deal", "bound"] sp15 := ok15 D1 Z
  refine D.F.ok sc16 (fun vs H Q E h => ?_) (fun cdv A outer s H vs Q E hr h => ?_)
  · obtain ⟨d, q, b, xs, rfl, _⟩ := h
    rfl
  obtain ⟨d, q, b, xs, rfl, hD, hb, h0, hl, n1, n2, qq⟩ := h
  refine ⟨_, pss_one (ps_ret (pe_ix (r := rIx K) ix_seq (pv 1) (pe_call G hr rfl D1.g D1.F.kp D1.b .nil pass0 (pa_cons (pv 0) (pa_cons (pe_callB call_len_seq rfl Z.len PySem.boot_len (pa_cons (pv 1) pa_nil)) pa_nil))) (fun _ _ => rfl))), ?_⟩
  have hp : 0 < xs.length := List.length_pos_iff.mpr h0
  refine ⟨_, rfl, _, rfl, _, rfl, b, xs, rfl, hb, d, q, xs.length, rfl, hD, hp, by omega, fun r H' hr hD' hk => ?_⟩
  rcases hb with hb | hb
  · exact .inl ⟨b, xs, _, xs[r], rfl, rfl, seq_dq hb hk n1 n2, atI_nat (List.getElem?_eq_getElem hr), qq _ H' (List.getElem_mem hr) hD' hk⟩
  · exact .inr (.inl ⟨b, xs, _, xs[r], rfl, rfl, tup_dq hb hk n1 n2, atI_nat (List.getElem?_eq_getElem hr), qq _ H' (List.getElem_mem hr) hD' hk⟩)
/-! _law_mixed -/
abbrev s17 : Stmt := top 17
theorem sc17 : FnScope ["deal", "things", "left", "found"] ["deal", "things"] (defScope s17) := ⟨rfl, rfl, rfl, by decide +kernel, rfl, by decide +kernel, by decide +kernel⟩
def sp17 (K : PySem.W.Frag) : Sp := fun vs H Q _ => ∃ (d q b : Addr) (xs : List V), vs = [.ref d, .ref b] ∧ DealAt d q H ∧ SqL K H b xs ∧ Dm H xs ∧ xs.length ≤ 100000 ∧ ∀ (ys : List V) (p : Addr) (H' : Hp), ys.Perm xs → H p = none → H' p = some (.lst ys) → DealAt d q H' → Dq d q H H' → Q (.ref p) H'
theorem ok17 {f f1 : Addr} {fd fd1 : FuncData} (D : Df K mg "_law_mixed" s17 f fd ["deal", "things"]) (D1 : Df K mg "_law_draw" s15 f1 fd1 ["deal", "bound"]) (Z : Zs mg) : FnOk P w K mg base CX0 2 f fd ["deal", "things"] (sp17 K) := by
  have G : FnOk P w K mg base CX0 1 f1 fd1 ["deal", "bound"] sp15 := ok15 D1 Z
  refine D.F.ok sc17 (fun vs H Q E h => ?_) (fun cdv A outer s H vs Q E hr h => ?_)
  · obtain ⟨d, q, b, xs, rfl, _⟩ := h
    rfl
  obtain ⟨d, q, b, xs, rfl, hD, hb, hm, hl, qq⟩ := h
  have hu := hr.units
  refine ⟨_, pss_cons (ps_par (i := 2) (j := 3) (by rfl) sc17.nd rfl rfl (by decide) rfl rfl (pa_cons (pe_callTy call_list_of rfl Z.lst (by decide +kernel) (pa_cons (pv 1) pa_nil)) (pa_cons (pe_lst pa_nil) pa_nil)) (by rfl))
    (pss_cons (ps_while PassesOwn.never (pt_cmpR (op_neD hu) (pv 2) (pe_lst pa_nil) (nomark _))
      (pss_one (ps_expr (pe_bm PySem.F.plainAttrs_list PySem.F.slot_list_append PySem.F.type_list_append mt_append (pv 3) (pa_cons
        (pe_bm PySem.F.plainAttrs_list PySem.F.slot_list_pop PySem.F.type_list_pop mt_popAt (pv 2) (pa_cons (pe_call G hr rfl D1.g D1.F.kp D1.b .nil pass0 (pa_cons (pv 0) (pa_cons (pe_callB call_len_seq rfl Z.len PySem.boot_len (pa_cons (pv 2) pa_nil)) pa_nil))) pa_nil)) pa_nil)))))
    (pss_one (ps_ret (pv 3)))), ?_⟩
  refine ⟨_, rfl, b, xs, rfl, .inl hb, fun lf hlf => ?_⟩
  have sA : Same H (upd H lf (.lst xs)) := same_upd hlf
  refine ⟨Nat.zero_le _, fun fo hfo => ?_⟩
  have sB : Same (upd H lf (.lst xs)) (upd (upd H lf (.lst xs)) fo (.lst [])) := same_upd hfo
  have hfo0 : H fo = none := sA.free hfo
  have nlf : lf ≠ fo := fun z => by rw [z, upd_same] at hfo; cases hfo
  refine ⟨_, _, rfl, ?_⟩
  have ne1 := hD.ne hlf
  have ne2 := hD.ne hfo0
  have hKp : ∀ {H' : Hp}, Dq d q H H' → Dm H' xs := fun k => hm.kp (hD.kp k)
  let W : Nat → L2.St → Hp → Prop := fun m σ H' => σ = [some (.ref d), some (.ref b), some (.ref lf), some (.ref fo)] ∧ Dq d q H H' ∧ DealAt d q H' ∧ ∃ ls fs : List V, H' lf = some (.lst ls) ∧ H' fo = some (.lst fs) ∧ (ls ++ fs).Perm xs ∧ ls.length = m
  refine ⟨W, ⟨xs.length, rfl, (Dq.of (sA.trans sB)), hD.sm (sA.trans sB), xs, [], ?_, upd_same, by simp, rfl⟩, ?_⟩
  · rw [upd_ne nlf, upd_same]
  rintro m σ H1 ⟨rfl, k1, D1', ls, fs, h1, h2, hp, hlen⟩
  refine ⟨_, rfl, Nat.zero_le _, fun l hl => ?_⟩
  have s1 : Same H1 (upd H1 l (.lst [])) := same_upd hl
  have k2 : Dq d q H (upd H1 l (.lst [])) := k1.trans (.of s1)
  have D2 := D1'.sm s1
  have g1 := s1 _ _ h1
  have g2 := s1 _ _ h2
  have e0 : SqL K (upd H1 l (.lst [])) l [] := SqL.of upd_same
  revert k2 D2 g1 g2 e0
  generalize upd H1 l (.lst []) = H2
  intro k2 D2 g1 g2 e0
  obtain ⟨ds, q1, q2, q3⟩ := Dm.dpAll (K := K) ((hKp k2).mono fun v hv => hp.mem_iff.mp (List.mem_append_left fs hv))
  refine ⟨.list ds, .list [], .lst (SqL.of g1) q1, .lst e0 .nil, shaped_all q2, shaped_nil, _, rfl, ?_⟩
  rw [eqv_nil, isEmpty_len q3]
  have hpl := hp.length_eq
  rw [List.length_append] at hpl
  by_cases he : ls = []
  · rw [show (!ls.isEmpty) = false by simp [he]]
    refine iteF ?_
    refine ⟨_, rfl, ?_⟩
    rw [he, List.nil_append] at hp
    exact qq fs fo H2 hp hfo0 g2 D2 k2
  · rw [show (!ls.isEmpty) = true by simp [he]]
    refine iteT ⟨fun σ' H' => ∃ m', m' < m ∧ W m' σ' H', fun _ _ h => h, ?_⟩
    have hp0 : 0 < ls.length := List.length_pos_iff.mpr he
    refine ⟨_, rfl, .inl ⟨rfl, _, SqL.of g2⟩, _, rfl, .inl ⟨rfl, _, SqL.of g1⟩, _, rfl, _, rfl, lf, ls, rfl, .inl (SqL.of g1), d, q, ls.length, rfl, D2, hp0, by omega, fun r H3 hr3 D3 k3 => ?_⟩
    have f1 := k3 _ _ g1 ne1.1 ne1.2
    have f2 := k3 _ _ g2 ne2.1 ne2.2
    refine ⟨lf, ls, _, r, ls[r], rfl, rfl, f1, by omega, by omega, ?_, List.getElem?_eq_getElem hr3, fo, fs, _, rfl, rfl, ?_, ?_, ?_⟩
    · exact (ixN_seq (by unfold ixN; rw [if_pos (by omega), if_pos (by omega)]; rfl)).1
    · rw [upd_ne (Ne.symm nlf)]; exact f2
    · exact lt_line (by omega)
    · refine ⟨m - 1, by omega, rfl, ((k2.trans k3).new hlf).new hfo0, (D3.upd ne1.1 ne1.2).upd ne2.1 ne2.2, ls.eraseIdx r, fs ++ [ls[r]], ?_, upd_same, ?_, ?_⟩
      · rw [upd_ne nlf, upd_same]
      · refine List.Perm.trans ?_ hp
        have e1 : (ls[r] :: ls.eraseIdx r).Perm ls := erase_perm hr3
        refine List.Perm.trans ?_ (e1.append_right fs)
        rw [← List.append_assoc]
        exact (List.perm_append_comm (l₁ := ls.eraseIdx r ++ fs) (l₂ := [ls[r]]))
      · rw [List.length_eraseIdx, if_pos hr3]; omega
end
end K23
namespace K23
open PySem PySem.Spec PyProof.Rows L2
section
variable {P : Program} {w : World} {K : PySem.W.Frag} {mg : Str → Option Value} {base : Heap}
/-! _law_leaves -/
abbrev s18 : Stmt := top 18
theorem sc18 : FnScope ["shape", "found", "child"] ["shape"] (defScope s18) := ⟨rfl, rfl, rfl, by decide +kernel, rfl, by decide +kernel, by decide +kernel⟩
def sp18 (n : Nat) : Sp := fun vs H Q _ => ∃ v t, vs = [v] ∧ Dt H v (enc t) ∧ ok t ∧ (lv t).length ≤ n ∧ n ≤ 100 ∧ ∀ H' p, Same H H' → H p = none → H' p = some (.lst ((lv t).map V.int)) → Q (.ref p) H'
theorem ok18_step {n : Nat} {f : Addr} {fd : FuncData} (D : Df K mg "_law_leaves" s18 f fd ["shape"]) (Z : Zs mg)
    (G : FnOk P w K mg base CX0 (n + 1) f fd ["shape"] (sp18 n)) : FnOk P w K mg base CX0 (n + 2) f fd ["shape"] (sp18 (n + 1)) := by
  refine D.F.ok sc18 (fun vs H Q E h => ?_) (fun cdv A outer s H vs Q E hr h => ?_)
  · obtain ⟨v, t, rfl, _⟩ := h
    rfl
  obtain ⟨v, t, rfl, hd, ho, hl, hn, q⟩ := h
  refine ⟨_, pss_cons (ps_if (pt_truth (pe_callB call_isi rfl Z.isi (by decide +kernel) (pa_cons (pv 0) (pa_cons (pe_bltn (v := .ty "int") rfl Z.int (by decide +kernel) rfl) pa_nil))) (fun _ => rfl)) (pss_one (ps_ret (pe_lst (pa_cons (pv 0) pa_nil)))) pss_nil)
    (pss_cons (ps_set (i := 1) sc18.nd rfl (.inl rfl) (pe_lst pa_nil))
    (pss_cons (ps_for PassesOwn.never rfl (pi_tup (pe_ix ix_tup (pv 0) pe_int (fun _ _ => rfl))) (pg_name (i := 2) sc18.nd rfl (.inl rfl))
      (pss_one (ps_set (i := 1) sc18.nd rfl (.inl rfl) (pe_op op_cat (pv 1) (pe_call G hr rfl D.g D.F.kp D.b .nil pass0 (pa_cons (pv 2) pa_nil))))))
    (pss_one (ps_ret (pv 1))))), ?_⟩
  cases t with
  | leaf m =>
    obtain rfl := dt_leaf hd
    refine ⟨_, rfl, _, _, _, _, true, rfl, .ty _, .base (.int m), kit_ty (by decide +kernel), _, rfl, ?_⟩
    refine iteT ⟨_, rfl, (by show 1 ≤ sizeLine; decide), fun p hp => ?_⟩
    exact q _ p (same_upd hp) hp upd_same
  | knot k cs =>
    obtain ⟨a, b, xs, rfl, ha, hb, hx⟩ := dt_knot hd
    obtain ⟨_, hoc⟩ := ok_knot ho
    refine ⟨_, rfl, _, _, _, _, false, rfl, .ty _, .base (.tup ha), kit_ty (by decide +kernel), _, rfl, ?_⟩
    refine iteF ?_
    refine ⟨Nat.zero_le _, fun l hl' => ?_⟩
    have s0 : Same H (upd H l (.lst [])) := same_upd hl'
    refine ⟨_, rfl, a, _, 1, .ref b, rfl, rfl, SqT.of (s0 _ _ ha), rfl, b, rfl, ⟨_, SqT.of (s0 _ _ hb)⟩, ?_⟩
    have hlx := hx.length
    rw [List.length_map] at hlx
    rw [lv_knot] at hl
    refine for_it (walk_tup (K := K) (xs := xs)) (fun i σ H' => ∃ y l', σ = [some (.ref a), some (.ref l'), y] ∧ Same H H' ∧ H l' = none ∧ H' l' = some (.lst ((lvs (cs.take i)).map V.int)))
      ⟨none, l, rfl, s0, hl', by rw [upd_same]; simp [lvs]⟩ (fun i σ H' _ ⟨_, _, _, sm, _⟩ => SqT.of (sm _ _ hb)) ?_ ?_
    · rintro i x σ H1 H2 hi ⟨y, l', rfl, sm, hl0, hz⟩ ⟨rfl, hxi⟩
      obtain ⟨c, hci, hc, hdt⟩ := child_dt hx hxi
      have hlc := len_less ho hc
      rw [lv_knot] at hlc
      have := lvs_take_len (cs := cs) i
      have := len_child hc
      refine ⟨_, rfl, x, rfl, x, c, rfl, hdt.sm sm, hoc c hc, by omega, by omega, fun H3 p sm3 hp0 hpp => ?_⟩
      refine ⟨l', p, _, _, rfl, rfl, sm3 _ _ hz, hpp, ?_, fun p2 hp2 => ?_⟩
      · rw [List.length_map, List.length_map]
        exact line_big (by omega)
      · refine ⟨some x, p2, rfl, same_upd2 (sm.trans sm3) (sm.free (sm3.free hp2)), sm.free (sm3.free hp2), ?_⟩
        rw [upd_same, lvs_take hci, List.map_append]
    · rintro σ H1 ⟨y, l', rfl, sm, hl0, hz⟩
      refine ⟨_, rfl, ?_⟩
      refine q _ l' sm hl0 ?_
      rw [hlx, List.take_length] at hz
      rw [lv_knot]
      exact hz
theorem none18 {f : Addr} {fd : FuncData} : FnOk P w K mg base CX0 1 f fd ["shape"] (sp18 0) := by
  have no : ∀ vs H Q E, ¬ sp18 0 vs H Q E := fun vs H Q E h => by
    obtain ⟨v, t, _, _, ho, hl, _⟩ := h
    have := lv_ne t ho
    exact this (List.eq_nil_of_length_eq_zero (by omega))
  exact ⟨fun vs H Q E h => absurd h (no vs H Q E), fun A outer s H args us vs Q E _ _ _ _ h => absurd h (no vs H Q E)⟩
theorem ok18 {f : Addr} {fd : FuncData} (D : Df K mg "_law_leaves" s18 f fd ["shape"]) (Z : Zs mg) : ∀ n, FnOk P w K mg base CX0 (n + 1) f fd ["shape"] (sp18 n)
  | 0 => none18
  | n + 1 => ok18_step D Z (ok18 D Z n)
end
end K23
/-! functions made by lambda with parameters, kept as values and called by a local name -/
namespace Lm
open PySem PySem.Spec PyProof.Rows L2
open LamX (Tabs TabB TabS ExtN CodeO)
abbrev lamName : Str := "<lambda>"
/-- the function object of a lambda that captures nothing; its code object stands at c -/
def LamO (f : Addr) (q : Str) (ps : Arguments) (b : Expr) (sc : Scope) (c : Addr) : HO :=
  .ext fun h => ∃ pm ct : Value, h.get? f = some (PySem.W.kla_obj lamName q ps b sc [] pm c ct)
theorem lamO_ne {f : Addr} {q : Str} {ps : Arguments} {b : Expr} {sc : Scope} {c : Addr} (t : Array Value) : LamO f q ps b sc c ≠ .tbl t := fun z => by unfold LamO at z; cases z
section
variable {X : Cx} {pins : List (Addr × Obj)} {σ : L2.St} {H : Hp} {s : Shared}
/-- the push of such an object, told -/
theorem laid_lam {f' : Nat} {g : Heap} {q : Str} {ps : Arguments} {b : Expr} {sc : Scope} {c : Addr} {pm ct : Value} (I : Inv X pins σ H { s with heap := g, toks := f' }) :
    Inv X pins σ (upd H g.objs.size (LamO g.objs.size q ps b sc c)) { s with heap := g.push (PySem.W.kla_obj lamName q ps b sc [] pm c ct), toks := f' } := by
  have e : (g.push (PySem.W.kla_obj lamName q ps b sc [] pm c ct)).get? g.objs.size = some (PySem.W.kla_obj lamName q ps b sc [] pm c ct) := Heap.get?_push_size _ rfl
  refine I.laid (t' := f') (fun _ _ z => Heap.get?_push_of_some _ z) (Nat.le_refl _) ?_
  exact ⟨⟨pm, ct, e⟩, ⟨_, e⟩, fun h1 h2 ⟨pm, ct, z⟩ st => ⟨pm, ct, st _ z⟩⟩
/-- a lambda's evaluation -/
def tLamV (T : List (Addr × Str)) (q : Str) (params : Arguments) (body : Expr) (scope : Scope) : TE := fun _ H Q => Tabs T H ∧ ∀ (f c' : Addr) (H1 : Hp), ExtN H H1 → Tabs T H1 → H f = none → H1 f = some (LamO f q params body scope c') → H1 c' = some (CodeO c' q) → Q (.ref f) H1
theorem pe_lam {T : List (Addr × Str)} {c P : Addr} {params : Arguments} {body : Expr} {scope : Scope} {pos : Pos} (TB : TabB X.base X.mg c P) (hcode : X.env.code = .ref c)
    (hmem : (P, X.env.qual ++ lamName) ∈ T) (huniq : ∀ p ∈ T, p.1 = P → p.2 = X.env.qual ++ lamName) (hdef : defaultsOf params X.env = ([], [])) (hcl : closureFor scope X.env = pure []) :
    PE X (.Lambda params body scope pos) (tLamV T (X.env.qual ++ lamName) params body scope) := by
  refine ⟨fun pins s σ H Q I h => ?_⟩
  obtain ⟨hT, h⟩ := h
  obtain ⟨ps, hP, hok, hall⟩ := hT _ hmem
  refine PySem.W.kla_eval hdef ?_
  have gP : s.heap.get? P = some { cls := .none, data := .fields ps } := I.hok P _ hP
  have gb := TB.bm.keeps I.bk
  cases hfound : codeAmong pos ps.toList with
  | some cv =>
    obtain ⟨c1, rfl, hc1⟩ := hall pos cv hfound
    refine PySem.W.kla_makeFunctionHit (mg := X.mg) (c := c) (P := P) (ps := ps) hcl I.ok.glob (I.mod.glob.keeps I.bk) hcode (TB.code.keeps I.bk) gP hok hfound gb fun ct g tk kp le => ?_
    have J : Inv X pins σ H { s with heap := g, toks := tk } := I.kept kp
    have hfree : H g.objs.size = none := I.hok.fresh le
    refine ⟨.ref g.objs.size, _, laid_lam (s := s) (f' := tk) J, rfl, h _ c1 _ (.of fun b o e => ?_) (fun p hp => (hT p hp).ext fun b o e => ?_) hfree upd_same ?_⟩
    · rw [upd_ne (ne_of_none e hfree)]; exact e
    · rw [upd_ne (ne_of_none e hfree)]; exact e
    · rw [upd_ne (ne_of_none hc1 hfree)]; exact hc1
  | none =>
    refine PySem.W.kla_makeFunction (mg := X.mg) (c := c) (P := P) (ps := ps) hcl I.ok.glob (I.mod.glob.keeps I.bk) hcode (TB.code.keeps I.bk) gP hok hfound TB.gP gb fun c1 ct g tk kp ge lt hrec hm => ?_
    obtain ⟨c2, oc, vs, tq, e2, hoc, hdc, hvc⟩ := hrec
    cases e2
    have le : s.heap.objs.size ≤ g.objs.size := Nat.le_trans ge (Nat.le_of_lt lt)
    have J := LamX.inv_table (t' := tk) (more := #[rawInt pos.line, rawInt pos.col, .ref c1]) (q := X.env.qual ++ lamName) I hP kp hm ge ⟨oc, vs, tq, hoc, hdc, hvc⟩
    have c0 : H c1 = none := I.hok.fresh ge
    have nPc : P ≠ c1 := ne_of_none hP c0
    generalize hH2 : upd (upd H P (.tbl (ps ++ #[rawInt pos.line, rawInt pos.col, .ref c1]))) c1 (CodeO c1 (X.env.qual ++ lamName)) = H2 at J
    have hfree2 : H2 g.objs.size = none := J.hok.fresh (Nat.le_refl _)
    have hfree : H g.objs.size = none := I.hok.fresh le
    have hE : ExtN H H2 := fun b o e n => by
      rw [← hH2, upd_ne (ne_of_none e c0), upd_ne fun z => n ps (Option.some.inj (e.symm.trans (by rw [z]; exact hP)))]
      exact e
    have hP2 : H2 P = some (.tbl (ps ++ #[rawInt pos.line, rawInt pos.col, .ref c1])) := by rw [← hH2, upd_ne nPc, upd_same]
    have hc2 : H2 c1 = some (CodeO c1 (X.env.qual ++ lamName)) := by rw [← hH2, upd_same]
    have hTs : Tabs T H2 := fun p hp => by
      by_cases hb : p.1 = P
      · rw [huniq p hp hb, hb]
        have el : (ps ++ #[rawInt pos.line, rawInt pos.col, Value.ref c1]).toList = ps.toList ++ [rawInt pos.line, rawInt pos.col, .ref c1] := by simp
        refine ⟨_, hP2, by rw [el]; exact PySem.TriplesOk_snoc _ _ _ _ hok, fun p' cv hcv => ?_⟩
        rw [el] at hcv
        rcases LamX.among_app _ hok hcv with z | z
        · obtain ⟨c3, e1, e3⟩ := hall p' cv z
          exact ⟨c3, e1, hE _ _ e3 LamX.codeO_ne⟩
        · exact ⟨c1, z, hc2⟩
      · obtain ⟨qs, a1, a2, a3⟩ := hT p hp
        refine ⟨qs, by rw [← hH2, upd_ne (ne_of_none a1 c0), upd_ne hb]; exact a1, a2, fun p' cv hcv => ?_⟩
        obtain ⟨c3, e1, e3⟩ := a3 p' cv hcv
        exact ⟨c3, e1, hE _ _ e3 LamX.codeO_ne⟩
    have up : ∀ b o, H2 b = some o → upd H2 g.objs.size (LamO g.objs.size (X.env.qual ++ lamName) params body scope c1) b = some o := fun b o e => by rw [upd_ne (ne_of_none e hfree2)]; exact e
    exact ⟨.ref g.objs.size, _, laid_lam (s := s) (f' := tk) J, rfl, h _ c1 _ (hE.trans (.of up)) (hTs.ext up) hfree upd_same (up _ _ hc2)⟩
end
/-- what a call of such a function does -/
structure LmOk (P : Program) (w : World) (K : PySem.W.Frag) (mg : Str → Option Value) (base : Heap) (k : Nat) (q : Str) (params : Arguments) (body : Expr) (scope : Scope) (sp : Sp) : Prop where
  run : ∀ (A : Around) (outer : List Env) (s : Shared) (H : Hp) (f c' : Addr) (us : List Value) (vs : List V) (Q : VK), Room k A → Env0 P w K mg base A outer s H → H f = some (LamO f q params body scope c') → H c' = some (CodeO c' q) →
    Vals vs us → sp vs H Q E0 → codeAny (model P w) A (.call (.ref f) ⟨us, []⟩) (CR CX0 outer P w H s Q E0) s
theorem lm_of {P : Program} {w : World} {K : PySem.W.Frag} {mg : Str → Option Value} {base : Heap} {k : Nat} {q : Str} {params : Arguments} {body : Expr} {scope : Scope} {N ps : List Str} {sp : Sp} (S : FnScope N ps scope) (len : ∀ vs H Q E, sp vs H Q E → vs.length = ps.length)
    (hbind : ∀ (cl : List (Str × Addr)) (pm cv ct : Value) (us : List Value), us.length = ps.length → bindArgs (PySem.W.kla_fn lamName q params body scope cl pm cv ct) ⟨us, []⟩ = pure (ps.zip us))
    (hbody : ∀ (A : Around) (outer : List Env) (s : Shared) (H : Hp) (f c' : Addr) (vs : List V) (Q : VK), Room k (A.deeper (envOfC q scope s.heap.objs.size f (.ref c'))) → sp vs H Q E0 →
      ∃ t, PE (cxOf CX0 P w K mg base N q scope f (.ref c') A outer s H E0) body t ∧ t (start N vs) H Q) : LmOk P w K mg base (k + 1) q params body scope sp := by
  refine ⟨fun A outer s H f c' us vs Q hr e0 hf hc r h => ?_⟩
  have hl := len _ _ _ _ h
  obtain ⟨⟨pm, ct, hobj⟩, _, _⟩ := e0.hok f _ hf
  obtain ⟨⟨oc, fs, tq, hoc, hdc, hvc⟩, _, _⟩ := e0.hok c' _ hc
  have lim : s.heap.NoLimit := e0.mod.nolimit.keeps fun b o e => (e0.bs b o e).1
  refine PySem.W.kla_callFunE hr.depth hobj rfl S.co S.gen rfl ⟨c', oc, fs, tq, rfl, hoc, hdc, hvc⟩ ?_
  rw [hbind _ _ _ _ us (by rw [← r.length]; exact hl)]
  refine wpAny_pure (wpAny_newFunctionEnv_cells S.kind (fun ⟨n, v⟩ hy => ?_) fun env he s1 x => ?_)
  · rcases S.par n (List.of_mem_zip hy).1 with z | z
    · exact .inl z
    · exact .inr ⟨z, PySem.W.cellsFrom_some _ _ _ (.inl z)⟩
  subst he
  refine ⟨lim.keeps x.toInCall.keep, PySem.W.kla_codeExpr ?_⟩
  obtain ⟨t, ht, hq⟩ := hbody A outer s H f c' vs Q (hr.deeper _) h
  have J : Inv (cxOf CX0 P w K mg base N q scope f (.ref c') A outer s H E0) [] (start N vs) H s1 := inv_start S hr.hd e0 hl r x
  refine wpAny_mono (ht.run [] s1 (start N vs) H _ J hq) (fun v s' hv => ?_) fun e s' he => he
  obtain ⟨v', H', J', rv, qv⟩ := hv
  exact ⟨v', H', J'.os, J'.bare, J'.base, J'.hok, rv, qv⟩
/-- a(e, ..), the local name a holds such a function -/
def tCallLm (P : Program) (w : World) (K : PySem.W.Frag) (mg : Str → Option Value) (base : Heap) (k i : Nat) (t : TA) : TE := fun σ H Q => ∃ (f : Addr) (q : Str) (params : Arguments) (body : Expr) (scope : Scope) (c' : Addr) (sp : Sp), σ[i]? = some (some (.ref f)) ∧
  LmOk P w K mg base k q params body scope sp ∧ H f = some (LamO f q params body scope c') ∧ t σ H fun vs H1 => H1 f = some (LamO f q params body scope c') ∧ H1 c' = some (CodeO c' q) ∧ sp vs H1 Q E0
section
variable {X : Cx} {k i : Nat} {x : Str} {p pos : Pos} {e : Expr} {es : List Expr} {t : TA}
theorem pe_callLm (hr : Room k X.A) (hN : X.N[i]? = some x) (hv : Vis X.env.scope x) (ha : PA X (e :: es) t) (hdb : (x == ("__debug__" : Str)) = false := by decide) (hcd : (x == ("__classdict__" : Str)) = false := by decide)
    (he : starEach (e :: es) X.env = (false, eval e X.env) :: starEach es X.env := by rfl) (hpl : (backTo pos (starEach es X.env)).any (·.1) = false := by rfl) :
    PE X (.Call (.Name x p) (e :: es) [] pos) (tCallLm X.prog X.w X.K X.mg X.base k i t) := by
  refine ⟨fun pins s σ H Q I h => ?_⟩
  obtain ⟨f, q, params, body, scope, c', sp, hs, L, hf, ht⟩ := h
  refine wpAny_Call_Name_kw (thn ((pe_var (pos := p) hN hv hdb hcd).run pins s σ H (fun v H1 => v = .ref f ∧ H1 = H) I ⟨.ref f, hs, rfl, rfl⟩) fun u s1 ⟨v, H1, I1, r1, q1⟩ => ?_)
  obtain ⟨rfl, rfl⟩ := q1
  cases r1
  have at_ : ∀ {σ' : L2.St} {H' : Hp} {s' : Shared}, Inv X pins σ' H' s' → H' f = some (LamO f q params body scope c') → PySem.W.FnAt f s'.heap := fun I' hf' => by
    obtain ⟨⟨pm, ct, z⟩, _, _⟩ := I'.hok f _ hf'
    exact ⟨_, _, _, _, z⟩
  refine PySem.W.callWith_F (at_ I1 hf) (thn (ha.run pos pins s1 σ _ _ I1 ht) fun us s2 ⟨vs, H2, I2, r, hf2, hc2, q2⟩ => ⟨at_ I2 hf2, ?_⟩) he hpl
  show wpAny _ _ (call (.ref f) us) _ _ _
  refine wpAny_call (codeAny_mono (L.run X.A X.stack s2 H2 f c' us vs Q hr I2.env0 hf2 hc2 r q2) fun o s3 hq => ?_)
  cases o with
  | error er => exact (pass0 (X := X)) pins σ H2 s2 er s3 I2 hq
  | ok fl =>
    cases fl with
    | ret u => exact I2.after hq
    | next => exact False.elim hq
    | brk => exact False.elim hq
    | cont => exact False.elim hq
end
end Lm
namespace K23
open PySem PySem.Spec PyProof.Rows L2
/-! ### knots as data -/
def ktD (z : List Int × Kd × List (List Int)) : PyData := .tuple [lotD z.1, .str (kname z.2.1), lotsD z.2.2]
theorem knt_len : ∀ t : Tr, ok t → (knt t).length + 1 ≤ (lv t).length := Tr.ind (fun n _ => by simp [knt, lv]) fun k cs ih o => by
  obtain ⟨h2, ho⟩ := ok_knot o
  have key : ∀ ds : List Tr, (∀ d ∈ ds, d ∈ cs) → (knts ds).length + ds.length ≤ (lvs ds).length := by
    intro ds
    induction ds with
    | nil => intro _; simp [knts, lvs]
    | cons d ds ih2 =>
      intro h
      have h1 := ih d (h d List.mem_cons_self) (ho d (h d List.mem_cons_self))
      have h3 := ih2 fun e he => h e (List.mem_cons_of_mem _ he)
      simp only [knts, lvs, List.length_append, List.length_cons]
      omega
  have := key cs fun d hd => hd
  rw [lv_knot, knt_knot, List.length_append, List.length_singleton]
  omega
theorem knts_take {cs : List Tr} {i : Nat} {c : Tr} (h : cs[i]? = some c) : knts (cs.take (i + 1)) = knts (cs.take i) ++ knt c := by
  rw [knts_flat, knts_flat, List.take_add_one, h]
  simp
theorem knts_take_len {cs : List Tr} (i : Nat) : (knts (cs.take i)).length ≤ (knts cs).length := by
  induction cs generalizing i with
  | nil => simp [knts]
  | cons d cs ih =>
    cases i with
    | zero => simp [knts]
    | succ i =>
      have := ih i
      simp only [List.take_succ_cons, knts, List.length_append]
      omega
theorem knts_mem_len {cs : List Tr} {c : Tr} (hc : c ∈ cs) : (knt c).length ≤ (knts cs).length := by
  induction cs with
  | nil => exact absurd hc (by simp)
  | cons d cs ih =>
    simp only [knts, List.length_append]
    rcases List.mem_cons.mp hc with e | e
    · rw [e]; omega
    · have := ih e
      omega
/-- tuple of a list or a tuple, K told -/
abbrev rTup (K : PySem.W.Frag) : List V → Hp → VK → Prop := fun xs H Q => ∃ p ys, xs = [V.ref p] ∧ ((SqL K H p ys ∧ ∀ l, H l = none → Q (V.ref l) (upd H l (.tup ys))) ∨ (SqT K H p ys ∧ Q (V.ref p) H))
section
variable {P : Program} {w : World} {K : PySem.W.Frag} {mg : Str → Option Value} {base : Heap}
/-! _law_knots -/
abbrev s21 : Stmt := top 21
abbrev N21 : List Str := ["shape", "found", "child", "lots"]
theorem sc21 : FnScope N21 ["shape"] (defScope s21) := ⟨rfl, rfl, rfl, by decide +kernel, rfl, by decide +kernel, by decide +kernel⟩
def sp21 (n : Nat) : Sp := fun vs H Q _ => ∃ v t, vs = [v] ∧ Dt H v (enc t) ∧ ok t ∧ (lv t).length ≤ n ∧ n ≤ 100 ∧ ∀ H' p zs, Same H H' → H p = none → H' p = some (.lst zs) → Dts H' zs ((knt t).map ktD) → Q (.ref p) H'
set_option maxHeartbeats 1000000 in
theorem ok21_step {n : Nat} {f f18 : Addr} {fd fd18 : FuncData} (D : Df K mg "_law_knots" s21 f fd ["shape"]) (D18 : Df K mg "_law_leaves" s18 f18 fd18 ["shape"]) (Z : Zs mg)
    (G : FnOk P w K mg base CX0 (n + 2) f fd ["shape"] (sp21 n)) : FnOk P w K mg base CX0 (n + 3) f fd ["shape"] (sp21 (n + 1)) := by
  have G18 : FnOk P w K mg base CX0 (n + 2) f18 fd18 ["shape"] (sp18 (n + 1)) := ok18 D18 Z (n + 1)
  refine D.F.ok sc21 (fun vs H Q E h => ?_) (fun cdv A outer s H vs Q E hr h => ?_)
  · obtain ⟨v, t, rfl, _⟩ := h
    rfl
  obtain ⟨v, t, rfl, hd, ho, hl, hn, q⟩ := h
  refine ⟨_, pss_cons (ps_if (pt_truth (pe_callB call_isi rfl Z.isi (by decide +kernel) (pa_cons (pv 0) (pa_cons (pe_bltn (v := .ty "int") rfl Z.int (by decide +kernel) rfl) pa_nil))) (fun _ => rfl)) (pss_one (ps_ret (pe_lst pa_nil))) pss_nil)
    (pss_cons (ps_set (i := 1) sc21.nd rfl (.inl rfl) (pe_lst pa_nil))
    (pss_cons (ps_for PassesOwn.never rfl (pi_tup (pe_ix ix_tup (pv 0) pe_int (fun _ _ => rfl))) (pg_name (i := 2) sc21.nd rfl (.inl rfl))
      (pss_one (ps_set (i := 1) sc21.nd rfl (.inl rfl) (pe_op op_cat (pv 1) (pe_call G hr rfl D.g D.F.kp D.b .nil pass0 (pa_cons (pv 2) pa_nil))))))
    (pss_cons (ps_setLc (i := 3) (own := [("child", 2)]) (g := gName 2) (tt := tYes) rfl sc21.nd rfl rfl (sw_true rfl rfl rfl (by decide +kernel)) (pi_tup (pe_ix ix_tup (pv 0) pe_int (fun _ _ => rfl))) (blkOk_by (N := N21) (sc := defScope s21) (by decide +kernel))
        (fun _ _ _ _ _ => pg_name (i := 2) sc21.nd rfl (.inl rfl)) (fun _ _ _ _ _ => pts_nil) (fun _ _ _ _ _ => pe_callTy (T := "tuple") (r := rTup K) call_tuple_of rfl Z.tup (by decide +kernel) (pa_cons (pe_callB (r := rSortedI K) cr_sortedI rfl Z.sorted boot_sorted (pa_cons
          (pe_call G18 hr rfl D18.g D18.F.kp D18.b .nil pass0 (pa_cons (pv 2) pa_nil)) pa_nil)) pa_nil)))
    (pss_one (ps_ret (pe_op op_cat (pv 1) (pe_lst (pa_cons (pe_tup (pa_cons
        (pe_callTy call_tuple_of rfl Z.tup (by decide +kernel) (pa_cons (pe_callB cr_sortedI rfl Z.sorted boot_sorted (pa_cons
          (pe_call G18 hr rfl D18.g D18.F.kp D18.b .nil pass0 (pa_cons (pv 0) pa_nil)) pa_nil)) pa_nil))
        (pa_cons (pe_ix ix_tup (pv 0) pe_int (fun _ _ => rfl)) (pa_cons (pe_callTy call_tuple_of rfl Z.tup (by decide +kernel) (pa_cons (pv 3) pa_nil)) pa_nil)))) pa_nil)))))))), ?_⟩
  cases t with
  | leaf m =>
    obtain rfl := dt_leaf hd
    refine ⟨_, rfl, _, _, _, _, true, rfl, .ty _, .base (.int m), kit_ty (by decide +kernel), _, rfl, ?_⟩
    refine iteT ⟨Nat.zero_le _, fun p hp => ?_⟩
    exact q _ p [] (same_upd hp) hp upd_same (by rw [knt]; exact .nil)
  | knot k cs =>
    obtain ⟨a, b, xs, rfl, ha, hb, hx⟩ := dt_knot hd
    obtain ⟨h2c, hoc⟩ := ok_knot ho
    refine ⟨_, rfl, _, _, _, _, false, rfl, .ty _, .base (.tup ha), kit_ty (by decide +kernel), _, rfl, ?_⟩
    refine iteF ?_
    refine ⟨Nat.zero_le _, fun l hl' => ?_⟩
    have s0 : Same H (upd H l (.lst [])) := same_upd hl'
    refine ⟨_, rfl, a, _, 1, .ref b, rfl, rfl, SqT.of (s0 _ _ ha), rfl, b, rfl, ⟨_, SqT.of (s0 _ _ hb)⟩, ?_⟩
    have hlx := hx.length
    rw [List.length_map] at hlx
    have hkl := knt_len _ ho
    rw [knt_knot, List.length_append, List.length_singleton, lv_knot] at hkl
    refine for_it (walk_tup (K := K) (xs := xs)) (fun i σ H' => ∃ y l', σ = [some (.ref a), some (.ref l'), y, none] ∧ Same H H' ∧ H l' = none ∧ ∃ zs, H' l' = some (.lst zs) ∧ Dts H' zs ((knts (cs.take i)).map ktD))
      ⟨none, l, rfl, s0, hl', [], upd_same, by simpa [knts] using Dts.nil⟩ (fun i σ H' _ ⟨_, _, _, sm, _⟩ => SqT.of (sm _ _ hb)) ?_ ?_
    · rintro i x σ H1 H2 hi ⟨y, l', rfl, sm, hl0, zs, hz, hzs⟩ ⟨rfl, hxi⟩
      obtain ⟨c, hci, hc, hdt⟩ := child_dt hx hxi
      have hlc := len_less ho hc
      refine ⟨_, rfl, x, rfl, x, c, rfl, hdt.sm sm, hoc c hc, by omega, by omega, fun H3 p ws sm3 hp0 hpp hws => ?_⟩
      refine ⟨l', p, _, _, rfl, rfl, sm3 _ _ hz, hpp, ?_, fun p2 hp2 => ?_⟩
      · have l1 := hzs.length
        have l2 := hws.length
        rw [List.length_map] at l1 l2
        rw [lv_knot] at hl
        have h1 := knts_take_len (cs := cs) i
        have h2 := knts_mem_len hc
        exact line_big (by omega)
      · refine ⟨some x, p2, rfl, same_upd2 (sm.trans sm3) (sm.free (sm3.free hp2)), sm.free (sm3.free hp2), zs ++ ws, upd_same, ?_⟩
        rw [knts_take hci, List.map_append]
        exact ((hzs.sm sm3).app hws).sm (same_upd hp2)
    · rintro σ H1 ⟨y, l', rfl, sm, hl0, zs, hz, hzs⟩
      rw [hlx, List.take_length] at hzs
      refine ⟨_, rfl, a, _, 1, .ref b, rfl, rfl, SqT.of (sm _ _ ha), rfl, b, rfl, ⟨_, SqT.of (sm _ _ hb)⟩, fun dd hdd => ?_⟩
      have hcl := cs_len hoc
      rw [lv_knot] at hl
      have hzl := hzs.length
      refine lc_it (walk_tup (K := K) (xs := xs)) (fun j H' => Same H1 H' ∧ ∃ ws, H' dd = some (.lst ws) ∧ ws.length = j ∧ j ≤ xs.length ∧ Dts H' ws (((cs.take j).map parts).map lotD)) ⟨same_upd hdd, [], upd_same, rfl, Nat.zero_le _, by simpa using Dts.nil⟩ (fun j H' _ ⟨s5, _⟩ => SqT.of (s5 _ _ (sm _ _ hb))) ?_ ?_
      · rintro j u H0 H5 hj ⟨s5, ws, hws, hwl, _, hwd⟩ ⟨rfl, hu⟩
        obtain ⟨c, hcj, hc, hcd⟩ := child_dt (hx.sm sm) hu
        have := len_child hc
        refine ⟨rfl, ?_⟩
        refine iteT (B := True) ?_
        refine ⟨_, rfl, u, c, rfl, hcd.sm s5, hoc c hc, by omega, by omega, fun H6 p6 s6 hp60 hp6 => ⟨p6, lv c, rfl, SqL.of hp6, fun ns' p7 pm so hp70 => ⟨p7, _, rfl, .inl ⟨SqL.of upd_same, fun p8 hp8 => ?_⟩⟩⟩⟩
        obtain rfl : ns' = parts c := srt_uniq pm so
        have s67 : Same H6 (upd H6 p7 (.lst ((parts c).map V.int))) := same_upd hp70
        have s78 : Same (upd H6 p7 (.lst ((parts c).map V.int))) (upd (upd H6 p7 (.lst ((parts c).map V.int))) p8 (.tup ((parts c).map V.int))) := same_upd hp8
        have s58 := s6.trans (s67.trans s78)
        refine ⟨ws, s58 _ _ hws, small1000 (by omega), same_upd2 (s5.trans s58) hdd, ws ++ [.ref p8], upd_same, by rw [List.length_append, hwl]; rfl, hj, ?_⟩
        rw [take_snoc hcj, List.map_append, List.map_append]
        exact ((hwd.sm s58).app (.one (dt_lot_mk upd_same))).kp (kp_list (H1 := H6) (s58 _ _ hws))
      · rintro H5 ⟨s5, ws, hws, hwl, _, hwd⟩
        rw [hlx, List.take_length] at hwd
        have s05 := sm.trans s5
        refine ⟨_, rfl, _, rfl, _, _, rfl, hd.sm s05, ho, by rw [lv_knot]; omega, by omega, fun H6 p6 s6 hp60 hp6 => ⟨p6, lv (.knot k cs), rfl, SqL.of hp6, fun ns' p7 pm so hp70 => ⟨p7, _, rfl, .inl ⟨SqL.of upd_same, fun p8 hp8 => ?_⟩⟩⟩⟩
        obtain rfl : ns' = parts (.knot k cs) := srt_uniq pm so
        have s67 : Same H6 (upd H6 p7 (.lst ((parts (.knot k cs)).map V.int))) := same_upd hp70
        have s78 : Same (upd H6 p7 (.lst ((parts (.knot k cs)).map V.int))) (upd (upd H6 p7 (.lst ((parts (.knot k cs)).map V.int))) p8 (.tup ((parts (.knot k cs)).map V.int))) := same_upd hp8
        have s58 := s6.trans (s67.trans s78)
        have h8 : upd (upd H6 p7 (.lst ((parts (.knot k cs)).map V.int))) p8 (.tup ((parts (.knot k cs)).map V.int)) p8 = some (.tup ((parts (.knot k cs)).map V.int)) := upd_same
        revert s58 h8
        generalize upd (upd H6 p7 (.lst ((parts (.knot k cs)).map V.int))) p8 (.tup ((parts (.knot k cs)).map V.int)) = H8
        intro s58 h8
        refine ⟨_, rfl, a, _, 0, .str (kname k), rfl, rfl, SqT.of (s58 _ _ (s05 _ _ ha)), rfl, _, rfl, dd, ws, rfl, .inl ⟨SqL.of (s58 _ _ hws), fun p9 hp9 => ⟨(by show 3 ≤ sizeLine; decide), fun p10 hp10 => ⟨(by show 1 ≤ sizeLine; decide), fun p11 hp11 => ?_⟩⟩⟩⟩
        have t9 : Same H8 (upd H8 p9 (.tup ws)) := same_upd hp9
        have t10 : Same (upd H8 p9 (.tup ws)) (upd (upd H8 p9 (.tup ws)) p10 (.tup [.ref p8, .str (kname k), .ref p9])) := same_upd hp10
        have hdat : Dt (upd (upd H8 p9 (.tup ws)) p10 (.tup [.ref p8, .str (kname k), .ref p9])) (.ref p10) (ktD (parts (.knot k cs), k, cs.map parts)) := by
          refine .tup upd_same (.cons (dt_lot_mk (t10 _ _ (t9 _ _ h8))) (.cons (.str _) (.cons ?_ .nil)))
          exact .tup (t10 _ _ upd_same) (((hwd.sm s58).sm t9).sm t10)
        revert hdat hp11 t10
        generalize upd (upd H8 p9 (.tup ws)) p10 (.tup [.ref p8, .str (kname k), .ref p9]) = H10
        intro hp11 t10 hdat
        have t11 : Same H10 (upd H10 p11 (.lst [.ref p10])) := same_upd hp11
        have s1 : Same H1 (upd H10 p11 (.lst [.ref p10])) := s5.trans (s58.trans (t9.trans (t10.trans t11)))
        refine ⟨l', p11, _, _, rfl, rfl, s1 _ _ hz, upd_same, ?_, fun p12 hp12 => ?_⟩
        · have l1 := hzs.length
          rw [List.length_map] at l1
          exact line_big (by rw [List.length_singleton]; omega)
        have s2 := (sm.trans s1).trans (same_upd (o := .lst (zs ++ [.ref p10])) hp12)
        refine q _ p12 _ s2 (sm.free (s1.free hp12)) upd_same ?_
        rw [knt_knot, List.map_append]
        exact ((hzs.sm s1).app (.one (hdat.sm t11))).sm (same_upd hp12)
theorem none21 {f : Addr} {fd : FuncData} : FnOk P w K mg base CX0 2 f fd ["shape"] (sp21 0) := by
  have no : ∀ vs H Q E, ¬ sp21 0 vs H Q E := fun vs H Q E h => by
    obtain ⟨v, t, _, _, ho, hl, _⟩ := h
    have := lv_ne t ho
    exact this (List.eq_nil_of_length_eq_zero (by omega))
  exact ⟨fun vs H Q E h => absurd h (no vs H Q E), fun A outer s H args us vs Q E _ _ _ _ h => absurd h (no vs H Q E)⟩
theorem ok21 {f f18 : Addr} {fd fd18 : FuncData} (D : Df K mg "_law_knots" s21 f fd ["shape"]) (D18 : Df K mg "_law_leaves" s18 f18 fd18 ["shape"]) (Z : Zs mg) : ∀ n, FnOk P w K mg base CX0 (n + 2) f fd ["shape"] (sp21 n)
  | 0 => none21
  | n + 1 => ok21_step D D18 Z (ok21 D D18 Z n)
end
end K23
namespace K23
open PySem PySem.Spec PyProof.Rows L2
theorem kl_list {H : Hp} {l : Addr} {zs ys : List V} (h : H l = some (.lst zs)) : Kl H (upd H l (.lst ys)) := fun b o e n => by
  by_cases hb : b = l
  · subst hb
    rw [h] at e
    exact .inr ⟨zs, ys, (Option.some.inj e).symm, upd_same⟩
  · exact .inl (by rw [upd_ne hb]; exact e)
theorem dq_kl {d q : Addr} {H H' : Hp} (D : DealAt d q H) (D' : DealAt d q H') (k : Dq d q H H') : Kl H H' := fun b o e n => by
  obtain ⟨x, ds, h1, h2, r⟩ := D
  obtain ⟨x', ds', h1', h2', r'⟩ := D'
  by_cases hd : b = d
  · subst hd
    rw [h1] at e
    exact .inr ⟨_, _, (Option.some.inj e).symm, h1'⟩
  · by_cases hq : b = q
    · subst hq
      rw [h2] at e
      exact .inr ⟨_, _, (Option.some.inj e).symm, h2'⟩
    · exact .inl (k b o e hd hq)
theorem DealAt.keep {d q : Addr} {H H' : Hp} (D : DealAt d q H) (k : Dq d q H H') {b : Addr} {o : HO} (h : H b = some o) (n : ∀ xs, o ≠ .lst xs) : H' b = some o := by
  obtain ⟨x, ds, h1, h2, r⟩ := D
  refine k b o h (fun z => ?_) fun z => ?_
  · rw [z, h1] at h
    exact n _ (Option.some.inj h).symm
  · rw [z, h2] at h
    exact n _ (Option.some.inj h).symm
theorem ixN_at {n j : Nat} (hj : j < n) : ixN n (j : Int) = some j := by
  unfold ixN
  rw [if_pos (by omega), if_pos (by omega)]
  rfl
/-- what is made of the children, one of them another -/
theorem vd_made {H : Hp} {a b : Addr} {k : Kd} {xs : List V} {ds : List Va} (ha : H a = some (.tup [.str (kname k), .ref b])) (hb : H b = some (.tup xs)) (h : Vds H xs ds) : Vd H (.ref a) (.tup [.str (kname k), .tup ds]) :=
  .tup ha (.cons (.str _) (.cons (.tup hb h) .nil))
section
variable {P : Program} {w : World} {K : PySem.W.Frag} {mg : Str → Option Value} {base : Heap}
/-! _law_at_leaf -/
abbrev s22 : Stmt := top 22
abbrev N22 : List Str := ["deal", "shape", "value", "children", "at"]
theorem sc22 : FnScope N22 ["deal", "shape", "value"] (defScope s22) := ⟨rfl, rfl, rfl, by decide +kernel, rfl, by decide +kernel, by decide +kernel⟩
def sp22 (n : Nat) : Sp := fun vs H Q _ => ∃ (d q : Addr) (v u : V) (t : Tr) (x : Va), vs = [.ref d, v, u] ∧ DealAt d q H ∧ Dt H v (enc t) ∧ Vd H u x ∧ ok t ∧ (lv t).length ≤ n ∧ n ≤ 8 ∧
  ∀ (H' : Hp) (z : V) (e : Va), DealAt d q H' → Dq d q H H' → Vd H' z e → AtL x t e → Q z H'
theorem ok22_step {n : Nat} {f f15 : Addr} {fd fd15 : FuncData} (D : Df K mg "_law_at_leaf" s22 f fd ["deal", "shape", "value"]) (D15 : Df K mg "_law_draw" s15 f15 fd15 ["deal", "bound"]) (Z : Zs mg)
    (G : FnOk P w K mg base CX0 (n + 1) f fd ["deal", "shape", "value"] (sp22 n)) : FnOk P w K mg base CX0 (n + 2) f fd ["deal", "shape", "value"] (sp22 (n + 1)) := by
  have G15 : FnOk P w K mg base CX0 1 f15 fd15 ["deal", "bound"] sp15 := ok15 D15 Z
  refine D.F.ok sc22 (fun vs H Q E h => ?_) (fun cdv A outer s H vs Q E hr h => ?_)
  · obtain ⟨d, q, v, u, t, x, rfl, _⟩ := h
    rfl
  obtain ⟨d, q, v, u, t, x, rfl, hD, hd, hx, ho, hl, hn, qq⟩ := h
  have r1 : Room 1 _ := hr.mono (by omega)
  refine ⟨_, pss_cons (ps_if (pt_truth (pe_callB call_isi rfl Z.isi (by decide +kernel) (pa_cons (pv 1) (pa_cons (pe_bltn (v := .ty "int") rfl Z.int (by decide +kernel) rfl) pa_nil))) (fun _ => rfl)) (pss_one (ps_ret (pv 2))) pss_nil)
    (pss_cons (ps_set (i := 3) sc22.nd rfl (.inl rfl) (pe_callTy call_list_of rfl Z.lst (by decide +kernel) (pa_cons (pe_ix ix_tup (pv 1) pe_int (fun _ _ => rfl)) pa_nil)))
    (pss_cons (ps_set (i := 4) sc22.nd rfl (.inl rfl) (pe_call G15 r1 rfl D15.g D15.F.kp D15.b .nil pass0 (pa_cons (pv 0) (pa_cons (pe_callB call_len_seq rfl Z.len PySem.boot_len (pa_cons (pv 3) pa_nil)) pa_nil))))
    (pss_cons (ps_asg (pe_call G hr rfl D.g D.F.kp D.b .nil pass0 (pa_cons (pv 0) (pa_cons (pe_ix ix_list (pv 3) (pv 4) (fun _ _ => rfl)) (pa_cons (pv 2) pa_nil)))) (pg_sub (pv 3) (pv 4) set_list))
    (pss_one (ps_ret (pe_tup (pa_cons (pe_ix ix_tup (pv 1) pe_int (fun _ _ => rfl)) (pa_cons (pe_callTy call_tuple_of rfl Z.tup (by decide +kernel) (pa_cons (pv 3) pa_nil)) pa_nil)))))))), ?_⟩
  cases t with
  | leaf m =>
    obtain rfl := dt_leaf hd
    refine ⟨_, rfl, _, _, _, _, true, rfl, .ty _, .base (.int m), kit_ty (by decide +kernel), _, rfl, ?_⟩
    exact iteT ⟨_, rfl, qq H u x hD (Dq.refl _ _ _) hx (.here m)⟩
  | knot k cs =>
    obtain ⟨a, b, xs, rfl, ha, hb, hxs⟩ := dt_knot hd
    obtain ⟨h2c, hoc⟩ := ok_knot ho
    have hlx := hxs.length
    rw [List.length_map] at hlx
    have hcl := cs_len hoc
    have hl' := hl
    rw [lv_knot] at hl'
    refine ⟨_, rfl, _, _, _, _, false, rfl, .ty _, .base (.tup ha), kit_ty (by decide +kernel), _, rfl, ?_⟩
    refine iteF ?_
    refine ⟨_, rfl, a, _, 1, .ref b, rfl, rfl, SqT.of ha, rfl, b, xs, rfl, .inr (SqT.of hb), fun l hl0 => ?_⟩
    have s1 : Same H (upd H l (.lst xs)) := same_upd hl0
    have nl := hD.ne hl0
    refine ⟨_, rfl, _, rfl, l, xs, rfl, .inl (SqL.of upd_same), d, q, xs.length, rfl, hD.sm s1, by omega, by omega, fun r H2 hr2 D2 k2 => ?_⟩
    have k02 : Dq d q H H2 := (Dq.of s1).trans k2
    have h2 := k2 _ _ upd_same nl.1 nl.2
    have hd2 := hxs.kp (hD.kp k02)
    have hxr : xs[r]? = some xs[r] := List.getElem?_eq_getElem hr2
    obtain ⟨c, hcr, hc, hcd⟩ := child_dt hd2 hxr
    have := len_less ho hc
    refine ⟨_, rfl, _, rfl, _, rfl, l, xs, _, xs[r], rfl, rfl, SqL.of h2, atI_nat hxr, _, rfl, d, q, xs[r], u, c, x, rfl, D2, hcd, hx.kl (dq_kl hD D2 k02), hoc c hc, by omega, by omega, fun H3 z e D3 k3 hz hat => ?_⟩
    have h3 := k3 _ _ h2 nl.1 nl.2
    have k03 := k02.trans k3
    refine ⟨_, rfl, _, rfl, l, xs, _, r, rfl, rfl, h3, ixN_at hr2, ?_⟩
    have k4 := kl_list (ys := xs.set r z) h3
    have D4 := D3.upd (o := .lst (xs.set r z)) nl.1 nl.2
    have k04 : Dq d q H (upd H3 l (.lst (xs.set r z))) := k03.new hl0
    have ha4 := hD.keep k04 ha (fun _ q => by cases q)
    have hb4 := hD.keep k04 hb (fun _ q => by cases q)
    have hv4 : Vds (upd H3 l (.lst (xs.set r z))) (xs.set r z) ((cs.map encV).set r e) := Vds.set (hz.kl k4) ((dts_vds (fun c _ v => dt_vd c v) (hxs.kp (hD.kp k03))).kl k4)
    have h4 : upd H3 l (.lst (xs.set r z)) l = some (.lst (xs.set r z)) := upd_same
    revert D4 k04 ha4 hb4 hv4 h4
    generalize upd H3 l (.lst (xs.set r z)) = H4
    intro D4 k04 ha4 hb4 hv4 h4
    refine ⟨_, rfl, a, _, 0, .str (kname k), rfl, rfl, SqT.of ha4, rfl, _, rfl, l, _, rfl, .inl ⟨SqL.of h4, fun p1 hp1 => ⟨(by show 2 ≤ sizeLine; decide), fun p2 hp2 => ?_⟩⟩⟩
    have t1 : Same H4 (upd H4 p1 (.tup (xs.set r z))) := same_upd hp1
    have t2 : Same (upd H4 p1 (.tup (xs.set r z))) (upd (upd H4 p1 (.tup (xs.set r z))) p2 (.tup [.str (kname k), .ref p1])) := same_upd hp2
    have t := t1.trans t2
    exact qq _ _ _ (D4.sm t) (k04.trans (.of t)) (vd_made upd_same (t2 _ _ upd_same) (hv4.sm t)) (.there hcr hat)
theorem none22 {k : Nat} {f : Addr} {fd : FuncData} : FnOk P w K mg base CX0 k f fd ["deal", "shape", "value"] (sp22 0) := by
  have no : ∀ vs H Q E, ¬ sp22 0 vs H Q E := fun vs H Q E h => by
    obtain ⟨d, q, v, u, t, x, _, _, _, _, ho, hl, _⟩ := h
    exact lv_ne t ho (List.eq_nil_of_length_eq_zero (by omega))
  exact ⟨fun vs H Q E h => absurd h (no vs H Q E), fun A outer s H args us vs Q E _ _ _ _ h => absurd h (no vs H Q E)⟩
theorem ok22 {f f15 : Addr} {fd fd15 : FuncData} (D : Df K mg "_law_at_leaf" s22 f fd ["deal", "shape", "value"]) (D15 : Df K mg "_law_draw" s15 f15 fd15 ["deal", "bound"]) (Z : Zs mg) : ∀ n, FnOk P w K mg base CX0 (n + 1) f fd ["deal", "shape", "value"] (sp22 n)
  | 0 => none22
  | n + 1 => ok22_step D D15 Z (ok22 D D15 Z n)
end
end K23
namespace K23
open PySem PySem.Spec PyProof.Rows L2
/-- what a bend is called with, and what it gives -/
def spB (R : Kd → List Tr → Va → Prop) : Sp := fun vs H Q _ => ∃ v k cs, vs = [v] ∧ Dt H v (enc (.knot k cs)) ∧ gd (.knot k cs) ∧ (lv (.knot k cs)).length ≤ 6 ∧ ∀ H' z d, Same H H' → Vd H' z d → R k cs d → Q z H'
/-- a bend that stands in the heap -/
structure BendAt (P : Program) (w : World) (K : PySem.W.Frag) (mg : Str → Option Value) (base : Heap) (R : Kd → List Tr → Va → Prop) (fb : Addr) (H : Hp) : Prop where
  ex : ∃ (qn : Str) (params : Arguments) (body : Expr) (scope : Scope) (c' : Addr), H fb = some (Lm.LamO fb qn params body scope c') ∧ H c' = some (LamX.CodeO c' qn) ∧ Lm.LmOk P w K mg base 1 qn params body scope (spB R)
theorem lam_nl {f : Addr} {q : Str} {ps : Arguments} {b : Expr} {sc : Scope} {c : Addr} (t : List V) : Lm.LamO f q ps b sc c ≠ .lst t := fun z => by unfold Lm.LamO at z; cases z
theorem code_nl {c : Addr} {q : Str} (t : List V) : LamX.CodeO c q ≠ .lst t := fun z => by unfold LamX.CodeO at z; cases z
theorem BendAt.dq {P : Program} {w : World} {K : PySem.W.Frag} {mg : Str → Option Value} {base : Heap} {R : Kd → List Tr → Va → Prop} {fb d q : Addr} {H H' : Hp} (B : BendAt P w K mg base R fb H) (D : DealAt d q H) (k : Dq d q H H') : BendAt P w K mg base R fb H' := by
  obtain ⟨qn, ps, b, sc, c', h1, h2, L⟩ := B.ex
  exact ⟨qn, ps, b, sc, c', D.keep k h1 lam_nl, D.keep k h2 code_nl, L⟩
theorem BendAt.sm {P : Program} {w : World} {K : PySem.W.Frag} {mg : Str → Option Value} {base : Heap} {R : Kd → List Tr → Va → Prop} {fb : Addr} {H H' : Hp} (B : BendAt P w K mg base R fb H) (s : Same H H') : BendAt P w K mg base R fb H' := by
  obtain ⟨qn, ps, b, sc, c', h1, h2, L⟩ := B.ex
  exact ⟨qn, ps, b, sc, c', s _ _ h1, s _ _ h2, L⟩
theorem range_filter (p : Nat → Bool) (j : Nat) : (List.range (j + 1)).filter p = (List.range j).filter p ++ (if p j = true then [j] else []) := by
  rw [List.range_succ, List.filter_append]
  congr 1
  by_cases q : p j = true
  · simp [q]
  · simp [q]
theorem gd_child {k : Kd} {cs : List Tr} (g : gd (.knot k cs)) {c : Tr} (h : c ∈ cs) : gd c := (gd_knot.mp g).2 c h
/-- a value's truth, K told -/
abbrev tTru (K : PySem.W.Frag) (t : TE) : TT := fun σ H Q => t σ H fun x H' => ∃ k, TruV K x H' k ∧ Q k H'
section
variable {P : Program} {w : World} {K : PySem.W.Frag} {mg : Str → Option Value} {base : Heap}
/-! _law_at_knot -/
abbrev s23 : Stmt := top 23
abbrev N23 : List Str := ["deal", "shape", "bend", "at", "knots", "children", "child"]
theorem sc23 : FnScope N23 ["deal", "shape", "bend"] (defScope s23) := ⟨rfl, rfl, rfl, by decide +kernel, rfl, by decide +kernel, by decide +kernel⟩
def sp23 (P : Program) (w : World) (K : PySem.W.Frag) (mg : Str → Option Value) (base : Heap) (R : Kd → List Tr → Va → Prop) (n : Nat) : Sp := fun vs H Q _ => ∃ (d q : Addr) (v : V) (fb : Addr) (t : Tr), vs = [.ref d, v, .ref fb] ∧ DealAt d q H ∧ Dt H v (enc t) ∧ BendAt P w K mg base R fb H ∧ gd t ∧ isLf t = false ∧ (lv t).length ≤ n ∧ n ≤ 6 ∧
  ∀ (H' : Hp) (z : V) (e : Va), DealAt d q H' → Dq d q H H' → Vd H' z e → AtK R t e → Q z H'
set_option maxHeartbeats 1000000 in
theorem ok23_step {R : Kd → List Tr → Va → Prop} {n : Nat} {f f15 f16 : Addr} {fd fd15 fd16 : FuncData} (D : Df K mg "_law_at_knot" s23 f fd ["deal", "shape", "bend"]) (D15 : Df K mg "_law_draw" s15 f15 fd15 ["deal", "bound"]) (D16 : Df K mg "_law_pick" s16 f16 fd16 ["deal", "some"]) (Z : Zs mg)
    (G : FnOk P w K mg base CX0 (n + 2) f fd ["deal", "shape", "bend"] (sp23 P w K mg base R n)) : FnOk P w K mg base CX0 (n + 3) f fd ["deal", "shape", "bend"] (sp23 P w K mg base R (n + 1)) := by
  have G15 : FnOk P w K mg base CX0 1 f15 fd15 ["deal", "bound"] sp15 := ok15 D15 Z
  have G16 : FnOk P w K mg base CX0 2 f16 fd16 ["deal", "some"] (sp16 K) := ok16 D16 D15 Z
  refine D.F.ok sc23 (fun vs H Q E h => ?_) (fun cdv A outer s H vs Q E hr h => ?_)
  · obtain ⟨d, q, v, fb, t, rfl, _⟩ := h
    rfl
  obtain ⟨d, q, v, fb, t, rfl, hD, hd, hB, hg, hlf, hl, hn, qq⟩ := h
  have r1 : Room 1 _ := hr.mono (by omega)
  have r2 : Room 2 _ := hr.mono (by omega)
  have hu := hr.units
  refine ⟨_, pss_cons (ps_setLc (i := 4) (own := [("at", 3), ("child", 6)]) (g := gTup K 2 (gCons (gName 3) (gCons (gName 6) gNil))) (tt := tNot (tTru K (tCB (rIsi K) (tCons (tVar 6) (tCons (tC (.ty "int")) tNil))))) rfl sc23.nd rfl rfl (sw_true rfl rfl rfl (by decide +kernel)) (pi_enumT rfl Z.enum (pa_cons (pe_ix ix_tup (pv 1) pe_int (fun _ _ => rfl)) pa_nil)) (blkOk_by (N := N23) (sc := defScope s23) (by decide +kernel))
        (fun _ _ _ _ _ => pg_tup rfl (pgs_cons (pg_name (i := 3) sc23.nd rfl (.inl rfl)) (pgs_cons (pg_name (i := 6) sc23.nd rfl (.inl rfl)) pgs_nil)))
        (fun _ _ _ _ _ => pts_one (pt_not (pt_truth (pe_callB (r := rIsi K) call_isi rfl Z.isi (by decide +kernel) (pa_cons (pv 6) (pa_cons (pe_bltn (v := .ty "int") rfl Z.int (by decide +kernel) rfl) pa_nil))) (fun _ => rfl)))) (fun _ _ _ _ _ => pv 3))
    (pss_cons (ps_if (PW.pt (pw_or (pt_cmpR (op_eqD hu) (pv 4) (pe_lst pa_nil) (nomark _))
        (pw_or1 (pt_cmpR op_eq (pe_call G15 r1 rfl D15.g D15.F.kp D15.b .nil pass0 (pa_cons (pv 0) (pa_cons pe_int pa_nil))) pe_int (nomark _)))))
      (pss_one (ps_ret (Lm.pe_callLm (k := 1) (i := 2) r1 rfl (.inl rfl) (pa_cons (pv 1) pa_nil)))) pss_nil)
    (pss_cons (ps_set (i := 5) sc23.nd rfl (.inl rfl) (pe_callTy call_list_of rfl Z.lst (by decide +kernel) (pa_cons (pe_ix ix_tup (pv 1) pe_int (fun _ _ => rfl)) pa_nil)))
    (pss_cons (ps_set (i := 3) sc23.nd rfl (.inl rfl) (pe_call G16 r2 rfl D16.g D16.F.kp D16.b .nil pass0 (pa_cons (pv 0) (pa_cons (pv 4) pa_nil))))
    (pss_cons (ps_asg (pe_call G hr rfl D.g D.F.kp D.b .nil pass0 (pa_cons (pv 0) (pa_cons (pe_ix ix_list (pv 5) (pv 3) (fun _ _ => rfl)) (pa_cons (pv 2) pa_nil)))) (pg_sub (pv 5) (pv 3) set_list))
    (pss_one (ps_ret (pe_tup (pa_cons (pe_ix ix_tup (pv 1) pe_int (fun _ _ => rfl)) (pa_cons (pe_callTy call_tuple_of rfl Z.tup (by decide +kernel) (pa_cons (pv 5) pa_nil)) pa_nil))))))))), ?_⟩
  cases t with
  | leaf m => cases hlf
  | knot k cs =>
    have ho := hg.ok
    obtain ⟨a, b, xs, rfl, ha, hb, hxs⟩ := dt_knot hd
    obtain ⟨h2c, hoc⟩ := ok_knot ho
    have hlx := hxs.length
    rw [List.length_map] at hlx
    have hcl := cs_len hoc
    have hl' := hl
    rw [lv_knot] at hl'
    refine ⟨_, rfl, a, _, 1, .ref b, rfl, rfl, SqT.of ha, rfl, b, xs, rfl, SqT.of hb, fun dd hdd => ?_⟩
    refine lc_it (walk_enumT (K := K) (xs := xs)) (fun j H' => Same H H' ∧ j ≤ xs.length ∧ H' dd = some (.lst ((ixs ((List.range j).filter fun i => !isLf (child cs i))).map V.int))) ⟨same_upd hdd, Nat.zero_le _, upd_same⟩ (fun j H' _ ⟨s5, _⟩ => SqT.of (s5 _ _ hb)) ?_ ?_
    · rintro j u H0 H1 hj ⟨s0, _, hz⟩ ⟨T, x1, x2, rfl, hT, rfl, e1, e2⟩
      have e1' : V.int (j : Nat) = x1 := Option.some.inj e1
      subst e1'
      obtain ⟨c, hcj, hc, hdt⟩ := child_dt hxs e2
      have sT : Same H0 (upd H0 T (.tup [.int (j : Nat), x2])) := same_upd hT
      have s1 := s0.trans sT
      have hz1 := sT _ _ hz
      have hcj' : child cs j = c := child_of hcj
      refine ⟨T, _, rfl, .inl (.inl upd_same), rfl, _, [x2], rfl, x2, [], rfl, rfl, rfl, ?_⟩
      cases c with
      | leaf m =>
        obtain rfl := dt_leaf hdt
        refine ⟨_, rfl, _, _, _, _, true, rfl, .ty _, .base (.int m), kit_ty (by decide +kernel), _, rfl, ?_⟩
        refine itF (by decide) ⟨s1, hj, ?_⟩
        rw [hz1, range_filter, hcj']
        simp [isLf]
      | knot k' cs' =>
        obtain ⟨a', b', xs', rfl, ha', _, _⟩ := dt_knot hdt
        refine ⟨_, rfl, _, _, _, _, false, rfl, .ty _, .base (.tup (s1 _ _ ha')), kit_ty (by decide +kernel), _, rfl, ?_⟩
        refine itT rfl ⟨_, rfl, _, hz1, ?_, same_upd2 s1 hdd, hj, ?_⟩
        · rw [List.length_map, ixs, List.length_map]
          have := List.length_filter_le (fun i => !isLf (child cs i)) (List.range j)
          rw [List.length_range] at this
          exact small1000 (by omega)
        · rw [upd_same, range_filter, hcj']
          simp [isLf, ixs]
    rintro H1 ⟨s1, _, hz⟩
    rw [hlx] at hz
    have D1 := hD.sm s1
    have B1 := hB.sm s1
    have ndd := hD.ne hdd
    have hks : ∀ j ∈ (List.range cs.length).filter (fun i => !isLf (child cs i)), j < cs.length ∧ isLf (child cs j) = false := fun j hj => by
      have := List.mem_filter.mp hj
      exact ⟨List.mem_range.mp this.1, by simpa using this.2⟩
    have hkl := List.length_filter_le (fun i => !isLf (child cs i)) (List.range cs.length)
    rw [List.length_range] at hkl
    revert hz hks hkl
    generalize (List.range cs.length).filter (fun i => !isLf (child cs i)) = ks
    intro hz hks hkl
    refine ⟨_, rfl, Nat.zero_le _, fun l2 hl2 => ?_⟩
    have s2 : Same H1 (upd H1 l2 (.lst [])) := same_upd hl2
    refine ⟨.list ((ixs ks).map PyData.int), .list [], .lst (SqL.of (s2 _ _ hz)) (dp_ints _), .lst (SqL.of upd_same) .nil, shaped_ints _, shaped_nil, _, rfl, ?_⟩
    rw [eqv_nil, List.isEmpty_map]
    have D2 := D1.sm s2
    have B2 := B1.sm s2
    have s02 := s1.trans s2
    have hz2 := s2 _ _ hz
    clear s2 hl2
    revert D2 B2 s02 hz2
    generalize upd H1 l2 (.lst []) = H2
    intro D2 B2 s02 hz2
    by_cases he : ixs ks = []
    · refine itT (by rw [he]; rfl) ?_
      obtain ⟨qn, ps, bo, sc, c', h1, h2, L⟩ := B2.ex
      refine ⟨fb, qn, ps, bo, sc, c', spB R, rfl, L, h1, _, rfl, h1, h2, _, k, cs, rfl, hd.sm s02, hg, by omega, fun H3 z e s3 hz3 hr3 => ?_⟩
      exact qq H3 z e (D2.sm s3) (.of (s02.trans s3)) hz3 (.here hr3)
    · refine itF (by simp [he]) ?_
      refine ⟨_, rfl, d, q, 3, rfl, D2, by decide, by decide, fun r H3 hr3 D3 k3 => ⟨rfl, _, rfl, ?_⟩⟩
      have k03 : Dq d q H H3 := (Dq.of s02).trans k3
      refine ite2 (fun _ => ?_) (fun _ => ?_)
      · obtain ⟨qn, ps, bo, sc, c', h1, h2, L⟩ := (B2.dq D2 k3).ex
        refine ⟨fb, qn, ps, bo, sc, c', spB R, rfl, L, h1, _, rfl, h1, h2, _, k, cs, rfl, hd.kp (hD.kp k03), hg, by omega, fun H4 z e s4 hz4 hr4 => ?_⟩
        exact qq H4 z e (D3.sm s4) (k03.trans (.of s4)) hz4 (.here hr4)
      have hz3 := k3 _ _ hz2 ndd.1 ndd.2
      have ha3 := hD.keep k03 ha (fun _ q => by cases q)
      have hb3 := hD.keep k03 hb (fun _ q => by cases q)
      refine ⟨_, rfl, a, _, 1, .ref b, rfl, rfl, SqT.of ha3, rfl, b, xs, rfl, .inr (SqT.of hb3), fun l hl0 => ?_⟩
      have s4 : Same H3 (upd H3 l (.lst xs)) := same_upd hl0
      have nl := D3.ne hl0
      have hl00 : H l = none := by
        cases hh : H l with
        | none => rfl
        | some o => rw [k03 _ _ hh nl.1 nl.2] at hl0; cases hl0
      refine ⟨_, rfl, _, rfl, d, q, dd, _, rfl, D3.sm s4, .inl (SqL.of (s4 _ _ hz3)), (fun z => he (List.map_eq_nil_iff.mp z)), ?_, ndd.1, ndd.2, fun x H5 hx D5 k5 => ?_⟩
      · rw [List.length_map, ixs, List.length_map]
        omega
      obtain ⟨j0, hj0, rfl⟩ := List.mem_map.mp hx
      obtain ⟨r5, hr5, rfl⟩ := List.mem_map.mp hj0
      obtain ⟨hrl, hrk⟩ := hks r5 hr5
      have k05 : Dq d q H H5 := k03.trans ((Dq.of s4).trans k5)
      have h5 := k5 _ _ upd_same nl.1 nl.2
      have hr6 : r5 < xs.length := by omega
      have hxr : xs[r5]? = some xs[r5] := List.getElem?_eq_getElem hr6
      obtain ⟨c, hcr, hc, hcd⟩ := child_dt (hxs.kp (hD.kp k05)) hxr
      have hcc : child cs r5 = c := child_of hcr
      rw [hcc] at hrk
      have := len_less ho hc
      refine ⟨_, rfl, _, rfl, _, rfl, l, xs, _, xs[r5], rfl, rfl, SqL.of h5, atI_nat hxr, _, rfl, d, q, xs[r5], fb, c, rfl, D5, hcd, hB.dq hD k05, gd_child hg hc, hrk, by omega, by omega, fun H6 z e D6 k6 hz6 hat => ?_⟩
      have h6 := k6 _ _ h5 nl.1 nl.2
      have k06 := k05.trans k6
      refine ⟨_, rfl, _, rfl, l, xs, _, r5, rfl, rfl, h6, ixN_at hr6, ?_⟩
      have k7 := kl_list (ys := xs.set r5 z) h6
      have D7 := D6.upd (o := .lst (xs.set r5 z)) nl.1 nl.2
      have k07 : Dq d q H (upd H6 l (.lst (xs.set r5 z))) := k06.new hl00
      have ha7 := hD.keep k07 ha (fun _ q => by cases q)
      have hv7 : Vds (upd H6 l (.lst (xs.set r5 z))) (xs.set r5 z) ((cs.map encV).set r5 e) := Vds.set (hz6.kl k7) ((dts_vds (fun c _ v => dt_vd c v) (hxs.kp (hD.kp k06))).kl k7)
      have h7 : upd H6 l (.lst (xs.set r5 z)) l = some (.lst (xs.set r5 z)) := upd_same
      revert D7 k07 ha7 hv7 h7
      generalize upd H6 l (.lst (xs.set r5 z)) = H7
      intro D7 k07 ha7 hv7 h7
      refine ⟨_, rfl, a, _, 0, .str (kname k), rfl, rfl, SqT.of ha7, rfl, _, rfl, l, _, rfl, .inl ⟨SqL.of h7, fun p1 hp1 => ⟨(by show 2 ≤ sizeLine; decide), fun p2 hp2 => ?_⟩⟩⟩
      have t1 : Same H7 (upd H7 p1 (.tup (xs.set r5 z))) := same_upd hp1
      have t2 : Same (upd H7 p1 (.tup (xs.set r5 z))) (upd (upd H7 p1 (.tup (xs.set r5 z))) p2 (.tup [.str (kname k), .ref p1])) := same_upd hp2
      have t := t1.trans t2
      exact qq _ _ _ (D7.sm t) (k07.trans (.of t)) (vd_made upd_same (t2 _ _ upd_same) (hv7.sm t)) (.there hcr hat)
theorem none23 {R : Kd → List Tr → Va → Prop} {k : Nat} {f : Addr} {fd : FuncData} : FnOk P w K mg base CX0 k f fd ["deal", "shape", "bend"] (sp23 P w K mg base R 0) := by
  have no : ∀ vs H Q E, ¬ sp23 P w K mg base R 0 vs H Q E := fun vs H Q E h => by
    obtain ⟨d, q, v, fb, t, _, _, _, _, g, _, hl, _⟩ := h
    exact lv_ne t g.ok (List.eq_nil_of_length_eq_zero (by omega))
  exact ⟨fun vs H Q E h => absurd h (no vs H Q E), fun A outer s H args us vs Q E _ _ _ _ h => absurd h (no vs H Q E)⟩
theorem ok23 {R : Kd → List Tr → Va → Prop} {f f15 f16 : Addr} {fd fd15 fd16 : FuncData} (D : Df K mg "_law_at_knot" s23 f fd ["deal", "shape", "bend"]) (D15 : Df K mg "_law_draw" s15 f15 fd15 ["deal", "bound"]) (D16 : Df K mg "_law_pick" s16 f16 fd16 ["deal", "some"]) (Z : Zs mg) :
    ∀ n, FnOk P w K mg base CX0 (n + 2) f fd ["deal", "shape", "bend"] (sp23 P w K mg base R n)
  | 0 => none23
  | n + 1 => ok23_step D D15 D16 Z (ok23 D D15 D16 Z n)
end
end K23
namespace K23
open PySem PySem.Spec PyProof.Rows L2
open LamX (Tabs TabB ExtN)
/-! ### lambdas -/
def lamP : Expr → Arguments
  | .Lambda p _ _ _ => p
  | _ => ⟨[], [], none, [], [], none, []⟩
def lamB : Expr → Expr
  | .Lambda _ b _ _ => b
  | e => e
def lamS : Expr → Scope
  | .Lambda _ _ s _ => s
  | _ => defScope (top 25)
def lamE (i : Nat) : Expr := match defBody (top 25) with
  | [.Return (some (.List es _)) _] => es.getD i (.Constant .none 0 ⟨0, 0, 0, 0⟩)
  | _ => .Constant .none 0 ⟨0, 0, 0, 0⟩
abbrev nm25 : Str := "_law_bends" ++ ".<locals>." ++ "<lambda>"
/-- no shape, of some depth -/
def Bent (_ : Kd) (_ : List Tr) (d : Va) : Prop := ¬ Blt d ∧ Sm 14 d
theorem bent_two {x y : Va} (h : ∀ k ds, x = .str (kname k) → y = .tup ds → ds.length < few k) : ¬ Blt (.tup [x, y]) := fun z => by
  obtain ⟨k, ds, e, hl, _⟩ := blt_tup.mp z
  injection e with e1 e2
  injection e2 with e2 _
  have := h k ds e1 e2
  omega
theorem bent_len {l : List Va} (h : l.length ≠ 2) : ¬ Blt (.tup l) := fun z => by
  obtain ⟨k, ds, e, _⟩ := blt_tup.mp z
  rw [e] at h
  exact h rfl
theorem kn_sm {k : Kd} {cs : List Tr} (g : gd (.knot k cs)) (hl : (lv (.knot k cs)).length ≤ 6) : Sm 11 (.tup (cs.map encV)) := by
  have h := sm_enc _ g.ok 6 hl (by decide)
  rw [encV_knot] at h
  exact (smt.mp h).2 _ (by simp)
theorem take_sm {n : Nat} {l : List Va} (m : Nat) (h : Sm (n + 1) (.tup l)) : Sm (n + 1) (.tup (l.take m)) := by
  obtain ⟨h1, h2⟩ := smt.mp h
  exact smt.mpr ⟨by rw [List.length_take]; omega, fun c hc => h2 c (List.mem_of_mem_take hc)⟩
theorem sm_list {n : Nat} {l : List Va} (hl : l.length ≤ 100) (h : ∀ c ∈ l, Sm n c) : Sm (n + 1) (.tup l) := smt.mpr ⟨hl, h⟩
theorem cut_front (xs : List V) (m : Nat) : cutV xs none (some (m : Int)) = xs.take (min m xs.length) := by
  unfold cutV
  rw [HT.sIx_nat, HT.sIx_none, List.drop_zero]
  rfl
section
variable {P : Program} {w : World} {K : PySem.W.Frag} {mg : Str → Option Value} {base : Heap}
abbrev LamOk (P : Program) (w : World) (K : PySem.W.Frag) (mg : Str → Option Value) (base : Heap) (R : Kd → List Tr → Va → Prop) (q : Str) (e : Expr) : Prop := Lm.LmOk P w K mg base 1 q (lamP e) (lamB e) (lamS e) (spB R)
theorem spB_len {R : Kd → List Tr → Va → Prop} : ∀ vs H Q E, spB R vs H Q E → vs.length = ["knot"].length := fun vs H Q E h => by
  obtain ⟨v, k, cs, rfl, _⟩ := h
  rfl
theorem str_fits (k : Kd) : (kname k).length + (Str.ofString " ").length ≤ sizeLine := by cases k <;> decide +kernel
theorem kn_fits (k : Kd) : (kname k).length ≤ sizeLine := by cases k <;> decide +kernel
theorem blank_no (k k' : Kd) : kname k ++ Str.ofString " " ≠ kname k' := by cases k <;> cases k' <;> decide +kernel
theorem cut_no (k k' : Kd) : cutS (kname k) none (some (-1)) ≠ kname k' := by cases k <;> cases k' <;> decide +kernel
theorem empty_no (k' : Kd) : Str.ofString "" ≠ kname k' := by cases k' <;> decide +kernel
theorem leaf_no (k' : Kd) : Str.ofString "leaf" ≠ kname k' := by cases k' <;> decide +kernel
theorem bend0 (Z : Zs mg) : LamOk P w K mg base Bent nm25 (lamE 0) := by
  refine Lm.lm_of (N := ["knot"]) (ps := ["knot"]) ⟨rfl, rfl, rfl, by decide +kernel, rfl, by decide +kernel, by decide +kernel⟩ spB_len (fun cl pm cv ct us hl => match us, hl with | [u], _ => rfl) fun A outer s H f c' vs Q hr h => ?_
  obtain ⟨v, k, cs, rfl, hd, g, hl, q⟩ := h
  obtain ⟨a, b, xs, rfl, ha, hb, hxs⟩ := dt_knot hd
  have hxv : Vds H xs (cs.map encV) := dts_vds (fun c _ v => dt_vd c v) hxs
  have hbv : Vd H (.ref b) (.tup (cs.map encV)) := .tup hb hxv
  have hsm := kn_sm g hl
  refine ⟨_, pe_tup (pa_cons (pe_ix ix_tup (pv 0) pe_int (fun _ _ => rfl)) (pa_cons (pe_callTy call_list_of rfl Z.lst (by decide +kernel) (pa_cons (pe_ix ix_tup (pv 0) pe_int (fun _ _ => rfl)) pa_nil)) pa_nil)), ?_⟩
  refine ⟨_, rfl, a, _, 0, .str (kname k), rfl, rfl, SqT.of ha, rfl, _, rfl, a, _, 1, .ref b, rfl, rfl, SqT.of ha, rfl, b, xs, rfl, .inr (SqT.of hb), fun l hl0 => ⟨(by show 2 ≤ sizeLine; decide), fun p hp => ?_⟩⟩
  have s1 := same_upd (o := .lst xs) hl0
  have s2 := same_upd (o := .tup [.str (kname k), .ref l]) hp
  exact q _ _ (.tup [.str (kname k), .oth]) (s1.trans s2) (.tup upd_same (.cons (.str _) (.cons (.lst (s2 _ _ upd_same)) .nil))) ⟨bent_two fun _ _ _ e => (by cases e), (sm_two (sm_str 12 _) (sm_oth 12)).mono (by decide)⟩
theorem bend1 (Z : Zs mg) : LamOk P w K mg base Bent nm25 (lamE 1) := by
  refine Lm.lm_of (N := ["knot"]) (ps := ["knot"]) ⟨rfl, rfl, rfl, by decide +kernel, rfl, by decide +kernel, by decide +kernel⟩ spB_len (fun cl pm cv ct us hl => match us, hl with | [u], _ => rfl) fun A outer s H f c' vs Q hr h => ?_
  obtain ⟨v, k, cs, rfl, hd, g, hl, q⟩ := h
  obtain ⟨a, b, xs, rfl, ha, hb, hxs⟩ := dt_knot hd
  have hxv : Vds H xs (cs.map encV) := dts_vds (fun c _ v => dt_vd c v) hxs
  have hbv : Vd H (.ref b) (.tup (cs.map encV)) := .tup hb hxv
  have hsm := kn_sm g hl
  refine ⟨_, pe_callTy call_list_of rfl Z.lst (by decide +kernel) (pa_cons (pv 0) pa_nil), ?_⟩
  refine ⟨_, rfl, a, _, rfl, .inr (SqT.of ha), fun l hl0 => ?_⟩
  exact q _ _ .oth (same_upd hl0) (.lst upd_same) ⟨blt_oth, sm_oth _⟩
theorem bend2 (Z : Zs mg) : LamOk P w K mg base Bent nm25 (lamE 2) := by
  refine Lm.lm_of (N := ["knot"]) (ps := ["knot"]) ⟨rfl, rfl, rfl, by decide +kernel, rfl, by decide +kernel, by decide +kernel⟩ spB_len (fun cl pm cv ct us hl => match us, hl with | [u], _ => rfl) fun A outer s H f c' vs Q hr h => ?_
  obtain ⟨v, k, cs, rfl, hd, g, hl, q⟩ := h
  obtain ⟨a, b, xs, rfl, ha, hb, hxs⟩ := dt_knot hd
  have hxv : Vds H xs (cs.map encV) := dts_vds (fun c _ v => dt_vd c v) hxs
  have hbv : Vd H (.ref b) (.tup (cs.map encV)) := .tup hb hxv
  have hsm := kn_sm g hl
  refine ⟨_, pe_tup (pa_cons (pe_ix ix_tup (pv 0) pe_int (fun _ _ => rfl)) (pa_cons (pe_ix ix_tup (pv 0) pe_int (fun _ _ => rfl)) (pa_cons (pe_tup pa_nil) pa_nil))), ?_⟩
  refine ⟨_, rfl, a, _, 0, .str (kname k), rfl, rfl, SqT.of ha, rfl, _, rfl, a, _, 1, .ref b, rfl, rfl, SqT.of ha, rfl, Nat.zero_le _, fun l hl0 => ⟨(by show 3 ≤ sizeLine; decide), fun p hp => ?_⟩⟩
  have s1 := same_upd (o := .tup []) hl0
  have s2 := same_upd (o := .tup [.str (kname k), .ref b, .ref l]) hp
  refine q _ _ (.tup [.str (kname k), .tup (cs.map encV), .tup []]) (s1.trans s2) (.tup upd_same (.cons (.str _) (.cons ((hbv.sm s1).sm s2) (.cons (.tup (s2 _ _ upd_same) .nil) .nil)))) ⟨bent_len (by simp), sm_list (by simp) fun c hc => ?_⟩
  have : c = .str (kname k) ∨ c = .tup (cs.map encV) ∨ c = .tup [] := by simpa using hc
  rcases this with rfl | rfl | rfl
  · exact sm_str _ _
  · exact hsm.mono (by decide)
  · exact smt.mpr ⟨by simp, by simp⟩
theorem bend3 (Z : Zs mg) : LamOk P w K mg base Bent nm25 (lamE 3) := by
  refine Lm.lm_of (N := ["knot"]) (ps := ["knot"]) ⟨rfl, rfl, rfl, by decide +kernel, rfl, by decide +kernel, by decide +kernel⟩ spB_len (fun cl pm cv ct us hl => match us, hl with | [u], _ => rfl) fun A outer s H f c' vs Q hr h => ?_
  obtain ⟨v, k, cs, rfl, hd, g, hl, q⟩ := h
  obtain ⟨a, b, xs, rfl, ha, hb, hxs⟩ := dt_knot hd
  have hxv : Vds H xs (cs.map encV) := dts_vds (fun c _ v => dt_vd c v) hxs
  have hbv : Vd H (.ref b) (.tup (cs.map encV)) := .tup hb hxv
  have hsm := kn_sm g hl
  refine ⟨_, pe_tup (pa_cons (pe_ix ix_tup (pv 0) pe_int (fun _ _ => rfl)) pa_nil), ?_⟩
  refine ⟨_, rfl, a, _, 0, .str (kname k), rfl, rfl, SqT.of ha, rfl, (by show 1 ≤ sizeLine; decide), fun p hp => ?_⟩
  refine q _ _ (.tup [.str (kname k)]) (same_upd hp) (.tup upd_same (.cons (.str _) .nil)) ⟨bent_len (by simp), sm_list (by simp) fun c hc => ?_⟩
  obtain rfl : c = .str (kname k) := by simpa using hc
  exact sm_str _ _
theorem bend4 (Z : Zs mg) : LamOk P w K mg base Bent nm25 (lamE 4) := by
  refine Lm.lm_of (N := ["knot"]) (ps := ["knot"]) ⟨rfl, rfl, rfl, by decide +kernel, rfl, by decide +kernel, by decide +kernel⟩ spB_len (fun cl pm cv ct us hl => match us, hl with | [u], _ => rfl) fun A outer s H f c' vs Q hr h => ?_
  obtain ⟨v, k, cs, rfl, hd, g, hl, q⟩ := h
  obtain ⟨a, b, xs, rfl, ha, hb, hxs⟩ := dt_knot hd
  have hxv : Vds H xs (cs.map encV) := dts_vds (fun c _ v => dt_vd c v) hxs
  have hbv : Vd H (.ref b) (.tup (cs.map encV)) := .tup hb hxv
  have hsm := kn_sm g hl
  refine ⟨_, pe_tup (pa_cons (pe_op op_add_str (pe_ix ix_tup (pv 0) pe_int (fun _ _ => rfl)) pe_str) (pa_cons (pe_ix ix_tup (pv 0) pe_int (fun _ _ => rfl)) pa_nil)), ?_⟩
  refine ⟨_, rfl, a, _, 0, .str (kname k), rfl, rfl, SqT.of ha, rfl, kname k, Str.ofString " ", rfl, rfl, str_fits k, _, rfl, a, _, 1, .ref b, rfl, rfl, SqT.of ha, rfl, (by show 2 ≤ sizeLine; decide), fun p hp => ?_⟩
  have s1 := same_upd (o := .tup [V.str (kname k ++ Str.ofString " "), .ref b]) hp
  exact q _ _ (.tup [.str (kname k ++ Str.ofString " "), .tup (cs.map encV)]) s1 (.tup upd_same (.cons (.str _) (.cons (hbv.sm s1) .nil))) ⟨bent_two fun k' _ e _ => (by injection e with e; exact absurd e (blank_no k k')), (sm_two (sm_str 13 _) (hsm.mono (by decide : 11 ≤ 13)))⟩
theorem bend5 (Z : Zs mg) : LamOk P w K mg base Bent nm25 (lamE 5) := by
  refine Lm.lm_of (N := ["knot"]) (ps := ["knot"]) ⟨rfl, rfl, rfl, by decide +kernel, rfl, by decide +kernel, by decide +kernel⟩ spB_len (fun cl pm cv ct us hl => match us, hl with | [u], _ => rfl) fun A outer s H f c' vs Q hr h => ?_
  obtain ⟨v, k, cs, rfl, hd, g, hl, q⟩ := h
  obtain ⟨a, b, xs, rfl, ha, hb, hxs⟩ := dt_knot hd
  have hxv : Vds H xs (cs.map encV) := dts_vds (fun c _ v => dt_vd c v) hxs
  have hbv : Vd H (.ref b) (.tup (cs.map encV)) := .tup hb hxv
  have hsm := kn_sm g hl
  refine ⟨_, pe_tup (pa_cons pe_str (pa_cons (pe_ix ix_tup (pv 0) pe_int (fun _ _ => rfl)) pa_nil)), ?_⟩
  refine ⟨_, rfl, a, _, 1, .ref b, rfl, rfl, SqT.of ha, rfl, (by show 2 ≤ sizeLine; decide), fun p hp => ?_⟩
  have s1 := same_upd (o := .tup [V.str (Str.ofString ""), .ref b]) hp
  exact q _ _ (.tup [.str (Str.ofString ""), .tup (cs.map encV)]) s1 (.tup upd_same (.cons (.str _) (.cons (hbv.sm s1) .nil))) ⟨bent_two fun k' _ e _ => (by injection e with e; exact absurd e (empty_no k')), (sm_two (sm_str 13 _) (hsm.mono (by decide : 11 ≤ 13)))⟩
theorem bend6 (Z : Zs mg) : LamOk P w K mg base Bent nm25 (lamE 6) := by
  refine Lm.lm_of (N := ["knot"]) (ps := ["knot"]) ⟨rfl, rfl, rfl, by decide +kernel, rfl, by decide +kernel, by decide +kernel⟩ spB_len (fun cl pm cv ct us hl => match us, hl with | [u], _ => rfl) fun A outer s H f c' vs Q hr h => ?_
  obtain ⟨v, k, cs, rfl, hd, g, hl, q⟩ := h
  obtain ⟨a, b, xs, rfl, ha, hb, hxs⟩ := dt_knot hd
  have hxv : Vds H xs (cs.map encV) := dts_vds (fun c _ v => dt_vd c v) hxs
  have hbv : Vd H (.ref b) (.tup (cs.map encV)) := .tup hb hxv
  have hsm := kn_sm g hl
  refine ⟨_, pe_tup (pa_cons pe_int (pa_cons (pe_ix ix_tup (pv 0) pe_int (fun _ _ => rfl)) pa_nil)), ?_⟩
  refine ⟨_, rfl, a, _, 1, .ref b, rfl, rfl, SqT.of ha, rfl, (by show 2 ≤ sizeLine; decide), fun p hp => ?_⟩
  have s1 := same_upd (o := .tup [V.int 0, .ref b]) hp
  exact q _ _ (.tup [.int 0, .tup (cs.map encV)]) s1 (.tup upd_same (.cons (.int _) (.cons (hbv.sm s1) .nil))) ⟨bent_two fun _ _ e _ => (by cases e), (sm_two (sm_int 13 _) (hsm.mono (by decide : 11 ≤ 13)))⟩
theorem bend7 (Z : Zs mg) : LamOk P w K mg base Bent nm25 (lamE 7) := by
  refine Lm.lm_of (N := ["knot"]) (ps := ["knot"]) ⟨rfl, rfl, rfl, by decide +kernel, rfl, by decide +kernel, by decide +kernel⟩ spB_len (fun cl pm cv ct us hl => match us, hl with | [u], _ => rfl) fun A outer s H f c' vs Q hr h => ?_
  obtain ⟨v, k, cs, rfl, hd, g, hl, q⟩ := h
  obtain ⟨a, b, xs, rfl, ha, hb, hxs⟩ := dt_knot hd
  have hxv : Vds H xs (cs.map encV) := dts_vds (fun c _ v => dt_vd c v) hxs
  have hbv : Vd H (.ref b) (.tup (cs.map encV)) := .tup hb hxv
  have hsm := kn_sm g hl
  refine ⟨_, pe_tup (pa_cons pe_non (pa_cons (pe_ix ix_tup (pv 0) pe_int (fun _ _ => rfl)) pa_nil)), ?_⟩
  refine ⟨_, rfl, a, _, 1, .ref b, rfl, rfl, SqT.of ha, rfl, (by show 2 ≤ sizeLine; decide), fun p hp => ?_⟩
  have s1 := same_upd (o := .tup [V.non, .ref b]) hp
  exact q _ _ (.tup [.oth, .tup (cs.map encV)]) s1 (.tup upd_same (.cons .non (.cons (hbv.sm s1) .nil))) ⟨bent_two fun _ _ e _ => (by cases e), (sm_two (sm_oth 13) (hsm.mono (by decide : 11 ≤ 13)))⟩
theorem bend8 (Z : Zs mg) : LamOk P w K mg base Bent nm25 (lamE 8) := by
  refine Lm.lm_of (N := ["knot"]) (ps := ["knot"]) ⟨rfl, rfl, rfl, by decide +kernel, rfl, by decide +kernel, by decide +kernel⟩ spB_len (fun cl pm cv ct us hl => match us, hl with | [u], _ => rfl) fun A outer s H f c' vs Q hr h => ?_
  obtain ⟨v, k, cs, rfl, hd, g, hl, q⟩ := h
  obtain ⟨a, b, xs, rfl, ha, hb, hxs⟩ := dt_knot hd
  have hxv : Vds H xs (cs.map encV) := dts_vds (fun c _ v => dt_vd c v) hxs
  have hbv : Vd H (.ref b) (.tup (cs.map encV)) := .tup hb hxv
  have hsm := kn_sm g hl
  refine ⟨_, pe_tup (pa_cons pe_str (pa_cons (pe_slice sl_tupA (pe_ix ix_tup (pv 0) pe_int (fun _ _ => rfl)) po_none (po_some pe_int)) pa_nil)), ?_⟩
  have nb : ∀ ds : List Va, ds.length ≤ 2 → ¬ Blt (.tup [.str (Str.ofString "line"), .tup ds]) := fun ds hds => bent_two fun k' ds' e e2 => by
    injection e with e
    injection e2 with e2
    have ek : Kd.line = k' := kname_inj e
    subst ek
    rw [← e2]
    exact Nat.lt_of_le_of_lt hds (by decide)
  refine ⟨_, rfl, a, _, 1, .ref b, rfl, rfl, SqT.of ha, rfl, 2, rfl, b, xs, rfl, SqT.of hb, fun hw => ⟨(by show 2 ≤ sizeLine; decide), fun p hp => ?_⟩, fun hw p1 hp1 => ⟨(by show 2 ≤ sizeLine; decide), fun p hp => ?_⟩⟩
  · have s1 := same_upd (o := .tup [.str (Str.ofString "line"), .ref b]) hp
    refine q _ _ (.tup [.str (Str.ofString "line"), .tup (cs.map encV)]) s1 (.tup upd_same (.cons (.str _) (.cons (hbv.sm s1) .nil))) ⟨nb _ ?_, (sm_two (sm_str 13 _) (hsm.mono (by decide : 11 ≤ 13)))⟩
    have h2 := hw.2
    rw [show ((some 2 : Option Int)) = some ((2 : Nat) : Int) from rfl, HT.sIx_nat] at h2
    rw [← hxv.length]
    omega
  · have hc : cutV xs none (some 2) = xs.take (min 2 xs.length) := cut_front xs 2
    rw [hc] at hp ⊢
    have s1 := same_upd (o := .tup (xs.take (min 2 xs.length))) hp1
    have s2 := same_upd (o := .tup [.str (Str.ofString "line"), .ref p1]) hp
    refine q _ _ (.tup [.str (Str.ofString "line"), .tup ((cs.map encV).take (min 2 xs.length))]) (s1.trans s2) (.tup upd_same (.cons (.str _) (.cons (.tup (s2 _ _ upd_same) (((hxv.sm s1).sm s2).take _)) .nil))) ⟨nb _ ?_, (sm_two (sm_str 13 _) ((take_sm _ hsm).mono (by decide : 11 ≤ 13)))⟩
    rw [List.length_take]
    omega
theorem bend9 (Z : Zs mg) : LamOk P w K mg base Bent nm25 (lamE 9) := by
  refine Lm.lm_of (N := ["knot"]) (ps := ["knot"]) ⟨rfl, rfl, rfl, by decide +kernel, rfl, by decide +kernel, by decide +kernel⟩ spB_len (fun cl pm cv ct us hl => match us, hl with | [u], _ => rfl) fun A outer s H f c' vs Q hr h => ?_
  obtain ⟨v, k, cs, rfl, hd, g, hl, q⟩ := h
  obtain ⟨a, b, xs, rfl, ha, hb, hxs⟩ := dt_knot hd
  have hxv : Vds H xs (cs.map encV) := dts_vds (fun c _ v => dt_vd c v) hxs
  have hbv : Vd H (.ref b) (.tup (cs.map encV)) := .tup hb hxv
  have hsm := kn_sm g hl
  refine ⟨_, pe_tup (pa_cons pe_str (pa_cons (pe_slice sl_tupA (pe_ix ix_tup (pv 0) pe_int (fun _ _ => rfl)) po_none (po_some pe_int)) pa_nil)), ?_⟩
  have nb : ∀ ds : List Va, ds.length ≤ 2 → ¬ Blt (.tup [.str (Str.ofString "free"), .tup ds]) := fun ds hds => bent_two fun k' ds' e e2 => by
    injection e with e
    injection e2 with e2
    have ek : Kd.free = k' := kname_inj e
    subst ek
    rw [← e2]
    exact Nat.lt_of_le_of_lt hds (by decide)
  refine ⟨_, rfl, a, _, 1, .ref b, rfl, rfl, SqT.of ha, rfl, 2, rfl, b, xs, rfl, SqT.of hb, fun hw => ⟨(by show 2 ≤ sizeLine; decide), fun p hp => ?_⟩, fun hw p1 hp1 => ⟨(by show 2 ≤ sizeLine; decide), fun p hp => ?_⟩⟩
  · have s1 := same_upd (o := .tup [.str (Str.ofString "free"), .ref b]) hp
    refine q _ _ (.tup [.str (Str.ofString "free"), .tup (cs.map encV)]) s1 (.tup upd_same (.cons (.str _) (.cons (hbv.sm s1) .nil))) ⟨nb _ ?_, (sm_two (sm_str 13 _) (hsm.mono (by decide : 11 ≤ 13)))⟩
    have h2 := hw.2
    rw [show ((some 2 : Option Int)) = some ((2 : Nat) : Int) from rfl, HT.sIx_nat] at h2
    rw [← hxv.length]
    omega
  · have hc : cutV xs none (some 2) = xs.take (min 2 xs.length) := cut_front xs 2
    rw [hc] at hp ⊢
    have s1 := same_upd (o := .tup (xs.take (min 2 xs.length))) hp1
    have s2 := same_upd (o := .tup [.str (Str.ofString "free"), .ref p1]) hp
    refine q _ _ (.tup [.str (Str.ofString "free"), .tup ((cs.map encV).take (min 2 xs.length))]) (s1.trans s2) (.tup upd_same (.cons (.str _) (.cons (.tup (s2 _ _ upd_same) (((hxv.sm s1).sm s2).take _)) .nil))) ⟨nb _ ?_, (sm_two (sm_str 13 _) ((take_sm _ hsm).mono (by decide : 11 ≤ 13)))⟩
    rw [List.length_take]
    omega
theorem bend10 (Z : Zs mg) : LamOk P w K mg base Bent nm25 (lamE 10) := by
  refine Lm.lm_of (N := ["knot"]) (ps := ["knot"]) ⟨rfl, rfl, rfl, by decide +kernel, rfl, by decide +kernel, by decide +kernel⟩ spB_len (fun cl pm cv ct us hl => match us, hl with | [u], _ => rfl) fun A outer s H f c' vs Q hr h => ?_
  obtain ⟨v, k, cs, rfl, hd, g, hl, q⟩ := h
  obtain ⟨a, b, xs, rfl, ha, hb, hxs⟩ := dt_knot hd
  have hxv : Vds H xs (cs.map encV) := dts_vds (fun c _ v => dt_vd c v) hxs
  have hbv : Vd H (.ref b) (.tup (cs.map encV)) := .tup hb hxv
  have hsm := kn_sm g hl
  refine ⟨_, pe_tup (pa_cons pe_str (pa_cons (pe_slice sl_tupA (pe_ix ix_tup (pv 0) pe_int (fun _ _ => rfl)) po_none (po_some pe_int)) pa_nil)), ?_⟩
  have nb : ∀ ds : List Va, ds.length ≤ 1 → ¬ Blt (.tup [.str (Str.ofString "bare"), .tup ds]) := fun ds hds => bent_two fun k' ds' e e2 => by
    injection e with e
    injection e2 with e2
    have ek : Kd.bare = k' := kname_inj e
    subst ek
    rw [← e2]
    exact Nat.lt_of_le_of_lt hds (by decide)
  refine ⟨_, rfl, a, _, 1, .ref b, rfl, rfl, SqT.of ha, rfl, 1, rfl, b, xs, rfl, SqT.of hb, fun hw => ⟨(by show 2 ≤ sizeLine; decide), fun p hp => ?_⟩, fun hw p1 hp1 => ⟨(by show 2 ≤ sizeLine; decide), fun p hp => ?_⟩⟩
  · have s1 := same_upd (o := .tup [.str (Str.ofString "bare"), .ref b]) hp
    refine q _ _ (.tup [.str (Str.ofString "bare"), .tup (cs.map encV)]) s1 (.tup upd_same (.cons (.str _) (.cons (hbv.sm s1) .nil))) ⟨nb _ ?_, (sm_two (sm_str 13 _) (hsm.mono (by decide : 11 ≤ 13)))⟩
    have h2 := hw.2
    rw [show ((some 1 : Option Int)) = some ((1 : Nat) : Int) from rfl, HT.sIx_nat] at h2
    rw [← hxv.length]
    omega
  · have hc : cutV xs none (some 1) = xs.take (min 1 xs.length) := cut_front xs 1
    rw [hc] at hp ⊢
    have s1 := same_upd (o := .tup (xs.take (min 1 xs.length))) hp1
    have s2 := same_upd (o := .tup [.str (Str.ofString "bare"), .ref p1]) hp
    refine q _ _ (.tup [.str (Str.ofString "bare"), .tup ((cs.map encV).take (min 1 xs.length))]) (s1.trans s2) (.tup upd_same (.cons (.str _) (.cons (.tup (s2 _ _ upd_same) (((hxv.sm s1).sm s2).take _)) .nil))) ⟨nb _ ?_, (sm_two (sm_str 13 _) ((take_sm _ hsm).mono (by decide : 11 ≤ 13)))⟩
    rw [List.length_take]
    omega
theorem bend11 (Z : Zs mg) : LamOk P w K mg base Bent nm25 (lamE 11) := by
  refine Lm.lm_of (N := ["knot"]) (ps := ["knot"]) ⟨rfl, rfl, rfl, by decide +kernel, rfl, by decide +kernel, by decide +kernel⟩ spB_len (fun cl pm cv ct us hl => match us, hl with | [u], _ => rfl) fun A outer s H f c' vs Q hr h => ?_
  obtain ⟨v, k, cs, rfl, hd, g, hl, q⟩ := h
  obtain ⟨a, b, xs, rfl, ha, hb, hxs⟩ := dt_knot hd
  have hxv : Vds H xs (cs.map encV) := dts_vds (fun c _ v => dt_vd c v) hxs
  have hbv : Vd H (.ref b) (.tup (cs.map encV)) := .tup hb hxv
  have hsm := kn_sm g hl
  refine ⟨_, pe_tup (pa_cons (pe_ix ix_tup (pv 0) pe_int (fun _ _ => rfl)) (pa_cons (pe_tup pa_nil) pa_nil)), ?_⟩
  refine ⟨_, rfl, a, _, 0, .str (kname k), rfl, rfl, SqT.of ha, rfl, Nat.zero_le _, fun l hl0 => ⟨(by show 2 ≤ sizeLine; decide), fun p hp => ?_⟩⟩
  have s1 := same_upd (o := .tup []) hl0
  have s2 := same_upd (o := .tup [.str (kname k), .ref l]) hp
  refine q _ _ (.tup [.str (kname k), .tup []]) (s1.trans s2) (.tup upd_same (.cons (.str _) (.cons (.tup (s2 _ _ upd_same) .nil) .nil))) ⟨bent_two fun k' ds e e2 => ?_, (sm_two (sm_str 13 _) (smt.mpr ⟨by simp, by simp⟩))⟩
  injection e2 with e2
  rw [← e2]
  exact Nat.lt_of_lt_of_le (by decide) (few_two k')
theorem bend12 (Z : Zs mg) : LamOk P w K mg base Bent nm25 (lamE 12) := by
  refine Lm.lm_of (N := ["knot"]) (ps := ["knot"]) ⟨rfl, rfl, rfl, by decide +kernel, rfl, by decide +kernel, by decide +kernel⟩ spB_len (fun cl pm cv ct us hl => match us, hl with | [u], _ => rfl) fun A outer s H f c' vs Q hr h => ?_
  obtain ⟨v, k, cs, rfl, hd, g, hl, q⟩ := h
  obtain ⟨a, b, xs, rfl, ha, hb, hxs⟩ := dt_knot hd
  have hxv : Vds H xs (cs.map encV) := dts_vds (fun c _ v => dt_vd c v) hxs
  have hbv : Vd H (.ref b) (.tup (cs.map encV)) := .tup hb hxv
  have hsm := kn_sm g hl
  refine ⟨_, pe_tup (pa_cons (pe_ix ix_tup (pv 0) pe_int (fun _ _ => rfl)) (pa_cons (pe_ix ix_tup (pv 0) pe_int (fun _ _ => rfl)) pa_nil)), ?_⟩
  refine ⟨_, rfl, a, _, 1, .ref b, rfl, rfl, SqT.of ha, rfl, _, rfl, a, _, 0, .str (kname k), rfl, rfl, SqT.of ha, rfl, (by show 2 ≤ sizeLine; decide), fun p hp => ?_⟩
  have s1 := same_upd (o := .tup [.ref b, .str (kname k)]) hp
  exact q _ _ (.tup [.tup (cs.map encV), .str (kname k)]) s1 (.tup upd_same (.cons (hbv.sm s1) (.cons (.str _) .nil))) ⟨bent_two fun _ _ e _ => (by cases e), (sm_two (hsm.mono (by decide : 11 ≤ 13)) (sm_str 13 _))⟩
theorem bend13 (Z : Zs mg) : LamOk P w K mg base Bent nm25 (lamE 13) := by
  refine Lm.lm_of (N := ["knot"]) (ps := ["knot"]) ⟨rfl, rfl, rfl, by decide +kernel, rfl, by decide +kernel, by decide +kernel⟩ spB_len (fun cl pm cv ct us hl => match us, hl with | [u], _ => rfl) fun A outer s H f c' vs Q hr h => ?_
  obtain ⟨v, k, cs, rfl, hd, g, hl, q⟩ := h
  obtain ⟨a, b, xs, rfl, ha, hb, hxs⟩ := dt_knot hd
  have hxv : Vds H xs (cs.map encV) := dts_vds (fun c _ v => dt_vd c v) hxs
  have hbv : Vd H (.ref b) (.tup (cs.map encV)) := .tup hb hxv
  have hsm := kn_sm g hl
  refine ⟨_, pe_tup (pa_cons (pe_slice sl_str (pe_ix ix_tup (pv 0) pe_int (fun _ _ => rfl)) po_none (po_some (pe_un un_neg pe_int))) (pa_cons (pe_ix ix_tup (pv 0) pe_int (fun _ _ => rfl)) pa_nil)), ?_⟩
  refine ⟨_, rfl, a, _, 0, .str (kname k), rfl, rfl, SqT.of ha, rfl, _, rfl, _, rfl, kname k, rfl, kn_fits k, _, rfl, a, _, 1, .ref b, rfl, rfl, SqT.of ha, rfl, (by show 2 ≤ sizeLine; decide), fun p hp => ?_⟩
  have s1 := same_upd (o := .tup [V.str (cutS (kname k) none (some (-1))), .ref b]) hp
  exact q _ _ (.tup [.str (cutS (kname k) none (some (-1))), .tup (cs.map encV)]) s1 (.tup upd_same (.cons (.str _) (.cons (hbv.sm s1) .nil))) ⟨bent_two fun k' _ e _ => (by injection e with e; exact absurd e (cut_no k k')), (sm_two (sm_str 13 _) (hsm.mono (by decide : 11 ≤ 13)))⟩
theorem bend14 (Z : Zs mg) : LamOk P w K mg base Bent nm25 (lamE 14) := by
  refine Lm.lm_of (N := ["knot"]) (ps := ["knot"]) ⟨rfl, rfl, rfl, by decide +kernel, rfl, by decide +kernel, by decide +kernel⟩ spB_len (fun cl pm cv ct us hl => match us, hl with | [u], _ => rfl) fun A outer s H f c' vs Q hr h => ?_
  obtain ⟨v, k, cs, rfl, hd, g, hl, q⟩ := h
  obtain ⟨a, b, xs, rfl, ha, hb, hxs⟩ := dt_knot hd
  have hxv : Vds H xs (cs.map encV) := dts_vds (fun c _ v => dt_vd c v) hxs
  have hbv : Vd H (.ref b) (.tup (cs.map encV)) := .tup hb hxv
  have hsm := kn_sm g hl
  refine ⟨_, pe_tup (pa_cons pe_str (pa_cons (pe_ix ix_tup (pv 0) pe_int (fun _ _ => rfl)) pa_nil)), ?_⟩
  refine ⟨_, rfl, a, _, 1, .ref b, rfl, rfl, SqT.of ha, rfl, (by show 2 ≤ sizeLine; decide), fun p hp => ?_⟩
  have s1 := same_upd (o := .tup [V.str (Str.ofString "leaf"), .ref b]) hp
  exact q _ _ (.tup [.str (Str.ofString "leaf"), .tup (cs.map encV)]) s1 (.tup upd_same (.cons (.str _) (.cons (hbv.sm s1) .nil))) ⟨bent_two fun k' _ e _ => (by injection e with e; exact absurd e (leaf_no k')), (sm_two (sm_str 13 _) (hsm.mono (by decide : 11 ≤ 13)))⟩
theorem bend15 (Z : Zs mg) : LamOk P w K mg base Bent nm25 (lamE 15) := by
  refine Lm.lm_of (N := ["knot"]) (ps := ["knot"]) ⟨rfl, rfl, rfl, by decide +kernel, rfl, by decide +kernel, by decide +kernel⟩ spB_len (fun cl pm cv ct us hl => match us, hl with | [u], _ => rfl) fun A outer s H f c' vs Q hr h => ?_
  obtain ⟨v, k, cs, rfl, hd, g, hl, q⟩ := h
  obtain ⟨a, b, xs, rfl, ha, hb, hxs⟩ := dt_knot hd
  have hxv : Vds H xs (cs.map encV) := dts_vds (fun c _ v => dt_vd c v) hxs
  have hbv : Vd H (.ref b) (.tup (cs.map encV)) := .tup hb hxv
  have hsm := kn_sm g hl
  refine ⟨_, pe_tup (pa_cons (pe_tup (pa_cons (pe_ix ix_tup (pv 0) pe_int (fun _ _ => rfl)) pa_nil)) (pa_cons (pe_ix ix_tup (pv 0) pe_int (fun _ _ => rfl)) pa_nil)), ?_⟩
  refine ⟨_, rfl, a, _, 0, .str (kname k), rfl, rfl, SqT.of ha, rfl, (by show 1 ≤ sizeLine; decide), fun l hl0 => ?_⟩
  have s1 := same_upd (o := .tup [.str (kname k)]) hl0
  refine ⟨_, rfl, a, _, 1, .ref b, rfl, rfl, SqT.of (s1 _ _ ha), rfl, (by show 2 ≤ sizeLine; decide), fun p hp => ?_⟩
  have s2 := same_upd (o := .tup [.ref l, .ref b]) hp
  refine q _ _ (.tup [.tup [.str (kname k)], .tup (cs.map encV)]) (s1.trans s2) (.tup upd_same (.cons (.tup (s2 _ _ upd_same) (.cons (.str _) .nil)) (.cons ((hbv.sm s1).sm s2) .nil))) ⟨bent_two fun _ _ e _ => (by cases e), (sm_two (sm_list (n := 12) (by simp) fun c hc => ?_) (hsm.mono (by decide : 11 ≤ 13)))⟩
  obtain rfl : c = .str (kname k) := by simpa using hc
  exact sm_str _ _
theorem bend16 (Z : Zs mg) : LamOk P w K mg base Bent nm25 (lamE 16) := by
  refine Lm.lm_of (N := ["knot"]) (ps := ["knot"]) ⟨rfl, rfl, rfl, by decide +kernel, rfl, by decide +kernel, by decide +kernel⟩ spB_len (fun cl pm cv ct us hl => match us, hl with | [u], _ => rfl) fun A outer s H f c' vs Q hr h => ?_
  obtain ⟨v, k, cs, rfl, hd, g, hl, q⟩ := h
  obtain ⟨a, b, xs, rfl, ha, hb, hxs⟩ := dt_knot hd
  have hxv : Vds H xs (cs.map encV) := dts_vds (fun c _ v => dt_vd c v) hxs
  have hbv : Vd H (.ref b) (.tup (cs.map encV)) := .tup hb hxv
  have hsm := kn_sm g hl
  refine ⟨_, pe_tup pa_nil, ?_⟩
  refine ⟨Nat.zero_le _, fun p hp => ?_⟩
  exact q _ _ (.tup []) (same_upd hp) (.tup upd_same .nil) ⟨bent_len (by simp), smt.mpr ⟨by simp, by simp⟩⟩
theorem bend17 (Z : Zs mg) : LamOk P w K mg base Bent nm25 (lamE 17) := by
  refine Lm.lm_of (N := ["knot"]) (ps := ["knot"]) ⟨rfl, rfl, rfl, by decide +kernel, rfl, by decide +kernel, by decide +kernel⟩ spB_len (fun cl pm cv ct us hl => match us, hl with | [u], _ => rfl) fun A outer s H f c' vs Q hr h => ?_
  obtain ⟨v, k, cs, rfl, hd, g, hl, q⟩ := h
  obtain ⟨a, b, xs, rfl, ha, hb, hxs⟩ := dt_knot hd
  have hxv : Vds H xs (cs.map encV) := dts_vds (fun c _ v => dt_vd c v) hxs
  have hbv : Vd H (.ref b) (.tup (cs.map encV)) := .tup hb hxv
  have hsm := kn_sm g hl
  refine ⟨_, pe_non, ?_⟩
  exact q _ _ .oth (Same.refl H) .non ⟨blt_oth, sm_oth _⟩
end
end K23
namespace K23
open PySem PySem.Spec PyProof.Rows L2
open LamX (Tabs TabB ExtN)
/-- a def of the module whose code object stands at c -/
structure FunC (K : PySem.W.Frag) (x : Str) (st : Stmt) (f : Addr) (fd : FuncData) (c : Addr) : Prop where
  ex : ∃ (oc : Value) (od : Option Addr) (kV doc pm : Value) (an : Option Addr) (ct : Value) (osl : Array (Option Value)),
    fd = PySem.W.fnOf x x (defArgs st) (defBody st) (defScope st) .none kV doc pm an (.ref c) ct ∧ K.lookup f = some ⟨oc, od, .func fd, osl⟩ ∧ PySem.W.codeIn K (.ref c) x = true
  kp : PySem.W.keepIn K (.ref f) = true
structure DfC (K : PySem.W.Frag) (mg : Str → Option Value) (x : Str) (st : Stmt) (f : Addr) (fd : FuncData) (c : Addr) (ps : List Str) : Prop where
  F : FunC K x st f fd c
  g : mg x = some (.ref f)
  b : Binds K fd ps []
/-- the heap without tables grew, the tables are tables -/
structure Gr (T : List (Addr × Str)) (H H' : Hp) : Prop where
  e : ExtN H H'
  t : Tabs T H'
theorem extN_sm {H H' : Hp} (s : Same H H') : ExtN H H' := .of s
theorem kp_ext {H H' : Hp} (e : ExtN H H') : Kp H H' := fun b o h _ n => e b o h n
abbrev nm19 : Str := "_law_told" ++ ".<locals>." ++ "<lambda>"
theorem dts_take {H : Hp} : ∀ {xs : List V} {ds : List PyData}, Dts H xs ds → Dts H xs.reverse ds.reverse
  | _, _, .nil => .nil
  | _, _, .cons h t => by
    rw [List.reverse_cons, List.reverse_cons]
    exact (dts_take t).app (.one h)
/-- what stands in another order -/
theorem perm_dts {H : Hp} {xs ys : List V} {cs : List Tr} (h : Dts H xs (cs.map enc)) (p : ys.Perm xs) : ∃ cs' : List Tr, cs'.Perm cs ∧ Dts H ys (cs'.map enc) := by
  induction p generalizing cs with
  | nil =>
    cases cs with
    | nil => exact ⟨[], .refl _, .nil⟩
    | cons c cs => cases h
  | @cons v l1 l2 p ih =>
    cases cs with
    | nil => cases h
    | cons c cs =>
      cases h with
      | cons h t =>
        obtain ⟨cs', p', h'⟩ := ih t
        exact ⟨c :: cs', p'.cons c, .cons h h'⟩
  | swap x y l =>
    cases cs with
    | nil => cases h
    | cons c cs =>
      cases cs with
      | nil =>
        cases h with
        | cons h t => cases t
      | cons d cs =>
        cases h with
        | cons h t =>
          cases t with
          | cons h2 t => exact ⟨d :: c :: cs, .swap _ _ _, .cons h2 (.cons h t)⟩
  | trans p1 p2 ih1 ih2 =>
    obtain ⟨c1, q1, h1⟩ := ih2 h
    obtain ⟨c2, q2, h2⟩ := ih1 h1
    exact ⟨c2, q2.trans q1, h2⟩
/-- the same, each with its least part -/
theorem perm_key {H : Hp} {bs zs : List (Int × V)} {cs : List Tr} (p : bs.Perm zs) (h : Dts H (zs.map (·.2)) (cs.map enc)) (k : zs.map (·.1) = cs.map fst) : ∃ cs' : List Tr, cs'.Perm cs ∧ Dts H (bs.map (·.2)) (cs'.map enc) ∧ bs.map (·.1) = cs'.map fst := by
  induction p generalizing cs with
  | nil =>
    cases cs with
    | nil => exact ⟨[], .refl _, .nil, rfl⟩
    | cons c cs => simp at k
  | @cons v l1 l2 p ih =>
    cases cs with
    | nil => simp at k
    | cons c cs =>
      simp only [List.map_cons, List.cons.injEq] at k
      cases h with
      | cons h t =>
        obtain ⟨cs', p', h', k'⟩ := ih t k.2
        exact ⟨c :: cs', p'.cons c, .cons h h', by simp only [List.map_cons, k.1, k']⟩
  | swap x y l =>
    cases cs with
    | nil => simp at k
    | cons c cs =>
      cases cs with
      | nil => simp at k
      | cons d cs =>
        simp only [List.map_cons, List.cons.injEq] at k
        cases h with
        | cons h t =>
          cases t with
          | cons h2 t => exact ⟨d :: c :: cs, .swap _ _ _, .cons h2 (.cons h t), by simp only [List.map_cons, k.1, k.2.1, k.2.2]⟩
  | trans p1 p2 ih1 ih2 =>
    obtain ⟨c1, q1, h1, k1⟩ := ih2 h k
    obtain ⟨c2, q2, h2, k2⟩ := ih1 h1 k1
    exact ⟨c2, q2.trans q1, h2, k2⟩
theorem zip_two {cs : List Tr} {xs : List V} (h : xs.length = cs.length) : ((cs.map fst).zip xs).map (·.2) = xs ∧ ((cs.map fst).zip xs).map (·.1) = cs.map fst := by
  refine ⟨?_, ?_⟩
  · exact List.map_snd_zip (by rw [List.length_map]; omega)
  · exact List.map_fst_zip (by rw [List.length_map]; omega)
theorem head_last {fs : List Int} (h : 2 ≤ fs.length) (n : fs.Nodup) : fs.headD 0 ≠ fs.getLastD 0 := by
  match fs, h with
  | a :: b :: r, _ =>
    intro e
    have h1 : (a :: b :: r).getLastD 0 ∈ b :: r := by
      rw [List.getLastD_eq_getLast?, List.getLast?_cons_cons]
      cases hl : (b :: r).getLast? with
      | none => simp at hl
      | some z => exact List.mem_of_getLast? hl
    rw [← e] at h1
    exact (List.nodup_cons.mp n).1 h1
section
variable {P : Program} {w : World} {K : PySem.W.Frag} {mg : Str → Option Value} {base : Heap}
theorem FunC.ok {x : Str} {st : Stmt} {f c : Addr} {fd : FuncData} {N ps : List Str} {k : Nat} {sp : Sp} (F : FunC K x st f fd c) (S : FnScope N ps (defScope st)) (len : ∀ vs H Q E, sp vs H Q E → vs.length = ps.length)
    (hb : ∀ (A : Around) (outer : List Env) (s : Shared) (H : Hp) (vs : List V) (Q : VK) (E : XK), Room k (A.deeper (envOfC x (defScope st) s.heap.objs.size f (.ref c))) → sp vs H Q E →
      ∃ t, PSs (cxOf CX0 P w K mg base N x (defScope st) f (.ref c) A outer s H E).nox (defBody st) t ∧ t { nx := fun _ H' => Q .non H', rt := Q } (start N vs) H) : FnOk P w K mg base CX0 (k + 1) f fd ps sp := by
  obtain ⟨oc, od, kV, doc, pm, an, ct, osl, rfl, l1, l2⟩ := F.ex
  exact fn_of l1 l2 S len fun A outer s H vs Q E hr hsp => let ⟨t, h, q⟩ := hb A outer s H vs Q E hr hsp; ⟨t, h.nox, q⟩
/-! _law_told -/
abbrev s19 : Stmt := top 19
abbrev N19 : List Str := ["kind", "children", "leasts", "pairs", "least", "child"]
theorem sc19 : FnScope N19 ["kind", "children"] (defScope s19) := ⟨rfl, rfl, rfl, by decide +kernel, rfl, by decide +kernel, by decide +kernel⟩
def sp19 (K : PySem.W.Frag) (T : List (Addr × Str)) (n : Nat) : Sp := fun vs H Q _ => ∃ (k : Kd) (b : Addr) (xs : List V) (cs : List Tr), vs = [.str (kname k), .ref b] ∧ SqL K H b xs ∧ Dts H xs (cs.map enc) ∧ 2 ≤ cs.length ∧ (∀ c ∈ cs, ok c) ∧ (lvs cs).Nodup ∧ (lvs cs).length ≤ n ∧ n ≤ 8 ∧ Tabs T H ∧
  ∀ (H' : Hp) (v : V) (cs' : List Tr), cs'.Perm cs → ord k (cs'.map fst) = true → Gr T H H' → Dt H' v (enc (.knot k cs')) → Q v H'
theorem ok19 (n : Nat) {T : List (Addr × Str)} {f f18 c PT : Addr} {fd fd18 : FuncData} (hmT : (PT, nm19) ∈ T) (huT : ∀ p ∈ T, p.1 = PT → p.2 = nm19) (D : DfC K mg "_law_told" s19 f fd c ["kind", "children"]) (D18 : Df K mg "_law_leaves" s18 f18 fd18 ["shape"]) (Z : Zs mg) (TB : TabB base mg c PT) : FnOk P w K mg base CX0 (n + 2) f fd ["kind", "children"] (sp19 K T n) := by
  have G18 : FnOk P w K mg base CX0 (n + 1) f18 fd18 ["shape"] (sp18 n) := ok18 D18 Z n
  refine D.F.ok sc19 (fun vs H Q E h => ?_) (fun A outer s H vs Q E hr h => ?_)
  · obtain ⟨k, b, xs, cs, rfl, _⟩ := h
    rfl
  obtain ⟨k, b, xs, cs, rfl, hb, hx, h2c, hoc, hnd, hl, hn, hT, q⟩ := h
  refine ⟨_, pss_cons (ps_setLc (i := 2) (own := [("child", 5)]) (g := gName 5) (tt := tYes) rfl sc19.nd rfl rfl (sw_true rfl rfl rfl (by decide +kernel)) (pi_list (pv 1)) (blkOk_by (N := N19) (sc := defScope s19) (by decide +kernel))
      (fun _ _ _ _ _ => pg_name (i := 5) sc19.nd rfl (.inl rfl)) (fun _ _ _ _ _ => pts_nil)
      (fun _ _ _ _ _ => pe_callB (r := rMin K) (cr_min rfl) rfl Z.min (by decide +kernel) (pa_cons (pe_call G18 hr rfl D18.g D18.F.kp D18.b .nil pass0 (pa_cons (pv 5) pa_nil)) pa_nil)))
    (pss_cons (ps_if (pt_cmpR op_eq (pv 0) pe_str (nomark _)) (pss_one (ps_ret (pe_tup (pa_cons (pv 0) (pa_cons (pe_callTy call_tuple_of rfl Z.tup (by decide +kernel) (pa_cons
        (pe_ifExp (pt_cmpR op_lt (pe_ix ix_list (pv 2) pe_int (fun _ _ => rfl)) (pe_ix ix_list (pv 2) (pe_un un_neg pe_int) (fun _ _ => rfl)) (nomark _)) (pv 1) (pe_revL (pv 1))) pa_nil)) pa_nil))))) pss_nil)
    (pss_cons (ps_set (i := 3) sc19.nd rfl (.inl rfl) (pe_sortZip (T := T) rfl Z.sorted rfl Z.zip hr.hd (lt66 hr) hr.depth ⟨rfl, rfl, rfl, rfl, ⟨_, _, _, rfl⟩, fun _ _ _ _ _ _ => rfl, by decide⟩ TB rfl (by exact hmT) (fun p hp e => huT p hp e) rfl (pa_cons (pv 2) (pa_cons (pv 1) pa_nil))))
    (pss_one (ps_ret (pe_tup (pa_cons (pv 0) (pa_cons (pe_callTy call_tuple_of rfl Z.tup (by decide +kernel) (pa_cons
        (pe_lc (own := [("least", 4), ("child", 5)]) (g := gTup K 2 (gCons (gName 4) (gCons (gName 5) gNil))) (tt := tYes) rfl sc19.nd (pi_list (pv 3)) (blkOk_by (N := N19) (sc := defScope s19) (by decide +kernel))
          (fun _ _ _ _ _ => pg_tup rfl (pgs_cons (pg_name (i := 4) sc19.nd rfl (.inl rfl)) (pgs_cons (pg_name (i := 5) sc19.nd rfl (.inl rfl)) pgs_nil))) (fun _ _ _ _ _ => pts_nil) (fun _ _ _ _ _ => pv 5)) pa_nil)) pa_nil))))))), ?_⟩
  have hlx := hx.length
  rw [List.length_map] at hlx
  have hcl := cs_len hoc
  refine ⟨_, rfl, b, rfl, ⟨_, hb⟩, fun dd hdd => ?_⟩
  refine lc_it (walk_list (K := K) (xs := xs)) (fun j H' => Same H H' ∧ ∃ ms : List Int, H' dd = some (.lst (ms.map V.int)) ∧ ms = (cs.take j).map fst ∧ j ≤ xs.length) ⟨same_upd hdd, [], upd_same, rfl, Nat.zero_le _⟩ (fun j H' _ ⟨s2, _⟩ => s2.seq hb) ?_ ?_
  · rintro j u H0 H1 hj ⟨s1, ms, hms, hml, _⟩ ⟨rfl, hu⟩
    obtain ⟨c1, hcj, hc1, hdt⟩ := child_dt hx hu
    have hlc := len_child hc1
    have hne := lv_ne c1 (hoc c1 hc1)
    refine ⟨rfl, ?_⟩
    refine iteT (B := True) ?_
    refine ⟨_, rfl, u, c1, rfl, hdt.sm s1, hoc c1 hc1, by omega, by omega, fun H4 p4 s4 hp0 hp4 => ⟨p4, lv c1, rfl, SqL.of hp4, List.length_pos_iff.mpr hne, fun m hm1 hm2 => ?_⟩⟩
    have hms4 := s4 _ _ hms
    refine ⟨_, hms4, ?_, same_upd2 (s1.trans s4) hdd, ms ++ [m], ?_, ?_, hj⟩
    · rw [List.length_map, hml, List.length_map, List.length_take]
      exact small1000 (by omega)
    · rw [upd_same, List.map_append]
      rfl
    · rw [take_snoc hcj, List.map_append, hml, List.map_singleton, fst_is hm1 hm2]
  rintro H1 ⟨s1, ms, hms, hml, _⟩
  rw [hlx, List.take_length] at hml
  have hml' : ms.length = cs.length := by rw [hml, List.length_map]
  have hfn : ms.Nodup := by rw [hml]; exact fst_inj hoc hnd
  have hb1 := s1.seq hb
  have hx1 := hx.sm s1
  have T1 : Tabs T H1 := hT.ext s1
  obtain ⟨n1, n2, n3, n4, n5⟩ := bare_ne
  -- a knot of children in some order
  have made : ∀ (H2 : Hp) (p1 p2 : Addr) (ws : List V) (cs' : List Tr), Gr T H H2 → H2 p2 = none → p2 ≠ p1 → H2 p1 = none → cs'.Perm cs → ord k (cs'.map fst) = true → Dts H2 ws (cs'.map enc) →
      Q (.ref p2) (upd (upd H2 p1 (.tup ws)) p2 (.tup [.str (kname k), .ref p1])) := fun H2 p1 p2 ws cs' G h2 h12 h1 pm hor hw => by
    have t1 : Same H2 (upd H2 p1 (.tup ws)) := same_upd h1
    have t2 : Same (upd H2 p1 (.tup ws)) (upd (upd H2 p1 (.tup ws)) p2 (.tup [.str (kname k), .ref p1])) := same_upd (by rw [upd_ne h12]; exact h2)
    have t := t1.trans t2
    refine q _ _ cs' pm hor ⟨G.e.trans (extN_sm t), G.t.ext t⟩ ?_
    exact dt_mk upd_same (t2 _ _ upd_same) (hw.sm t)
  refine ⟨_, rfl, rfl, _, rfl, ?_⟩
  by_cases hk : k = .line
  · subst hk
    refine itT (str_eq rfl) ?_
    have hm0 : ms ≠ [] := fun e => by rw [e] at hml'; simp at hml'; omega
    have hh := head_map hm0
    refine ⟨_, rfl, _, rfl, dd, _, 0, _, rfl, rfl, SqL.of hms, hh, _, rfl, 1, rfl, dd, _, -1, _, rfl, rfl, SqL.of hms, last_map hm0, _, _, rfl, rfl, _, rfl, ?_⟩
    have G1 : Gr T H H1 := ⟨extN_sm s1, T1⟩
    refine ite2 (fun hlt => ?_) (fun hlt => ?_)
    · refine ⟨_, rfl, b, xs, rfl, .inl ⟨hb1, fun p1 hp1 => ⟨(by show 2 ≤ sizeLine; decide), fun p2 hp2 => ?_⟩⟩⟩
      have n12 : p2 ≠ p1 := fun z => by rw [z, upd_same] at hp2; cases hp2
      exact made H1 p1 p2 xs cs G1 (by rw [upd_ne n12] at hp2; exact hp2) n12 hp1 (List.Perm.refl _) (by rw [← hml]; exact hlt) hx1
    · refine ⟨_, rfl, b, xs, rfl, hb1, fun pr hpr => ⟨pr, _, rfl, .inl ⟨SqL.of upd_same, fun p1 hp1 => ⟨(by show 2 ≤ sizeLine; decide), fun p2 hp2 => ?_⟩⟩⟩⟩
      have n12 : p2 ≠ p1 := fun z => by rw [z, upd_same] at hp2; cases hp2
      have tr : Same H1 (upd H1 pr (.lst xs.reverse)) := same_upd hpr
      refine made _ p1 p2 xs.reverse cs.reverse ⟨G1.e.trans (extN_sm tr), T1.ext tr⟩ (by rw [upd_ne n12] at hp2; exact hp2) n12 hp1 (List.reverse_perm cs) ?_ ?_
      · rw [List.map_reverse, ← hml]
        have e1 : ms.reverse.headD 0 = ms.getLastD 0 := by rw [List.headD_eq_head?_getD, List.head?_reverse, List.getLastD_eq_getLast?]
        have e2 : ms.reverse.getLastD 0 = ms.headD 0 := by rw [List.getLastD_eq_getLast?, List.getLast?_reverse, List.headD_eq_head?_getD]
        have := head_last (by omega) hfn
        have h2 : ¬ (ms.headD 0 < ms.getLastD 0) := fun z => hlt (decide_eq_true z)
        show decide (ms.reverse.headD 0 < ms.reverse.getLastD 0) = true
        rw [e1, e2]
        exact decide_eq_true (by omega)
      rw [List.map_reverse]
      exact dts_take (hx1.sm tr)
  · refine itF (str_ne fun e => hk ?_) ?_
    · cases k with
      | bare => exact absurd e (by decide +kernel)
      | line => rfl
      | free => exact absurd e (by decide +kernel)
    refine ⟨_, rfl, _, rfl, dd, b, ms, xs, rfl, SqL.of hms, hb1, by omega, T1, fun H2 p Ts g h eN T2 hp0 hp hTs hperm ⟨bs, hbp, hbe, hbs⟩ => ?_⟩
    have hTl : Ts.length = xs.length := by have := hperm.length_eq; rwa [List.length_map] at this
    refine ⟨_, rfl, _, rfl, p, rfl, ⟨_, SqL.of hp⟩, fun d2 hd2 => ?_⟩
    refine lc_it (walk_list (K := K) (xs := Ts.map V.ref)) (fun j H' => Same H2 H' ∧ H' d2 = some (.lst ((Ts.take j).map h))) ⟨same_upd hd2, by rw [upd_same]; simp⟩ (fun j H' _ ⟨s2, _⟩ => SqL.of (s2 _ _ hp)) ?_ ?_
    · rintro j u H0 H3 hj ⟨s3, hz3⟩ ⟨rfl, hu⟩
      rw [List.getElem?_map] at hu
      cases htj : Ts[j]? with
      | none => rw [htj] at hu; simp at hu
      | some t =>
        rw [htj] at hu
        obtain rfl : V.ref t = u := Option.some.inj hu
        obtain ⟨_, ht⟩ := hTs t (List.mem_of_getElem? htj)
        refine ⟨t, _, rfl, SqT.of (s3 _ _ ht), rfl, _, [h t], rfl, _, [], rfl, rfl, rfl, ?_⟩
        refine iteT (B := True) ?_
        refine ⟨_, rfl, _, hz3, ?_, same_upd2 s3 hd2, ?_⟩
        · rw [List.length_map, List.length_take]
          exact small1000 (by omega)
        · rw [upd_same, take_snoc htj, List.map_append]
          rfl
    · rintro H3 ⟨s3, hz3⟩
      rw [List.length_map, List.take_length] at hz3
      refine ⟨d2, _, rfl, .inl ⟨SqL.of hz3, fun p1 hp1 => ⟨(by show 2 ≤ sizeLine; decide), fun p2 hp2 => ?_⟩⟩⟩
      have n12 : p2 ≠ p1 := fun z => by rw [z, upd_same] at hp2; cases hp2
      have G3 : Gr T H H3 := ⟨(extN_sm s1).trans (eN.trans (extN_sm s3)), T2.ext s3⟩
      have hx3 : Dts H3 xs (cs.map enc) := (hx1.kp (kp_ext eN)).sm s3
      rw [hml] at hbp
      obtain ⟨z2, z1⟩ := zip_two hlx
      obtain ⟨cs', hpm, hcs', hky⟩ := perm_key (H := H3) hbp (by rw [z2]; exact hx3) z1
      rw [← hbe] at hcs'
      refine made H3 p1 p2 _ cs' G3 (by rw [upd_ne n12] at hp2; exact hp2) n12 hp1 hpm ?_ hcs'
      have hso : (cs'.map fst).Pairwise (· ≤ ·) := by
        rw [← hky]
        exact List.pairwise_map.mpr hbs
      have := decide_eq_true (srt_uniq (List.Perm.refl _) hso)
      cases k with
      | bare => exact this
      | line => exact absurd rfl hk
      | free => exact this
end
end K23
namespace K23
open PySem PySem.Spec PyProof.Rows L2
open LamX (Tabs TabB ExtN)
/-- all but the two lists of the source and the tables is kept -/
structure Dg (d q : Addr) (T : List (Addr × Str)) (H H' : Hp) : Prop where
  k : ∀ x o, H x = some o → x ≠ d → x ≠ q → (∀ ps, o ≠ .tbl ps) → H' x = some o
  D : DealAt d q H'
  t : Tabs T H'
theorem Dg.trans {d q : Addr} {T : List (Addr × Str)} {H H1 H2 : Hp} (a : Dg d q T H H1) (b : Dg d q T H1 H2) : Dg d q T H H2 :=
  ⟨fun x o e n m p => b.k x o (a.k x o e n m p) n m p, b.D, b.t⟩
theorem Dg.refl {d q : Addr} {T : List (Addr × Str)} {H : Hp} (D : DealAt d q H) (t : Tabs T H) : Dg d q T H H := ⟨fun _ _ e _ _ _ => e, D, t⟩
theorem tabs_dq {d q : Addr} {T : List (Addr × Str)} {H H' : Hp} (D : DealAt d q H) (t : Tabs T H) (k : Dq d q H H') : Tabs T H' := fun p hp => by
  obtain ⟨b, ds, g1, g2, _⟩ := D
  obtain ⟨ps, h1, h2, h3⟩ := t p hp
  have ne : ∀ x o, H x = some o → (∀ xs, o ≠ .lst xs) → H' x = some o := fun x o e n => k x o e (fun z => by rw [z, g1] at e; exact n _ (Option.some.inj e).symm) fun z => by rw [z, g2] at e; exact n _ (Option.some.inj e).symm
  refine ⟨ps, ne _ _ h1 (fun _ z => by cases z), h2, fun pos cv hc => ?_⟩
  obtain ⟨c, e1, e2⟩ := h3 pos cv hc
  exact ⟨c, e1, ne _ _ e2 fun xs z => by unfold LamX.CodeO at z; cases z⟩
theorem Dg.dq {d q : Addr} {T : List (Addr × Str)} {H H1 H2 : Hp} (g : Dg d q T H H1) (D : DealAt d q H2) (k : Dq d q H1 H2) : Dg d q T H H2 :=
  ⟨fun x o e n m p => k x o (g.k x o e n m p) n m, D, tabs_dq g.D g.t k⟩
theorem Dg.sm {d q : Addr} {T : List (Addr × Str)} {H H1 H2 : Hp} (g : Dg d q T H H1) (s : Same H1 H2) : Dg d q T H H2 :=
  ⟨fun x o e n m p => s x o (g.k x o e n m p), g.D.sm s, g.t.ext s⟩
/-- no thing of H stands at l, a table perhaps -/
def Nw (H : Hp) (l : Addr) : Prop := ∀ o, H l = some o → ∃ ps, o = .tbl ps
theorem Dg.new {d q l : Addr} {T : List (Addr × Str)} {H H1 : Hp} (g : Dg d q T H H1) (h : H1 l = none) : l ≠ d ∧ l ≠ q ∧ Nw H l := by
  obtain ⟨n, m⟩ := g.D.ne h
  refine ⟨n, m, fun o e => ?_⟩
  by_cases ht : ∃ ps, o = .tbl ps
  · exact ht
  · have := g.k l o e n m fun ps z => ht ⟨ps, z⟩
    rw [h] at this
    cases this
/-- the list at l, made on the way, changed -/
theorem Dg.put {d q l : Addr} {T : List (Addr × Str)} {H H1 : Hp} {zs ys : List V} (g : Dg d q T H H1) (h : l ≠ d ∧ l ≠ q ∧ Nw H l) (e : H1 l = some (.lst zs)) : Dg d q T H (upd H1 l (.lst ys)) := by
  obtain ⟨n, m, h⟩ := h
  refine ⟨fun x o ex a b p => ?_, g.D.upd n m, fun p hp => ?_⟩
  · have nx : x ≠ l := fun z => by
      rw [z] at ex
      obtain ⟨ps, hps⟩ := h o ex
      exact p ps hps
    rw [upd_ne nx]
    exact g.k x o ex a b p
  obtain ⟨ps, h1, h2, h3⟩ := g.t p hp
  have ne : ∀ x o, H1 x = some o → (∀ xs, o ≠ .lst xs) → upd H1 l (.lst ys) x = some o := fun x o ex n => by
    rw [upd_ne fun z => by rw [z, e] at ex; exact n _ (Option.some.inj ex).symm]
    exact ex
  refine ⟨ps, ne _ _ h1 (fun _ z => by cases z), h2, fun pos cv hc => ?_⟩
  obtain ⟨c, e1, e2⟩ := h3 pos cv hc
  exact ⟨c, e1, ne _ _ e2 fun xs z => by unfold LamX.CodeO at z; cases z⟩
theorem Dg.kp {d q : Addr} {T : List (Addr × Str)} {H H1 : Hp} (g : Dg d q T H H1) (D : DealAt d q H) : Kp H H1 := fun x o e n1 n2 => by
  obtain ⟨b, ds, h1, h2, r⟩ := D
  exact g.k x o e (fun z => by rw [z, h1] at e; exact n1 _ (Option.some.inj e).symm) (fun z => by rw [z, h2] at e; exact n1 _ (Option.some.inj e).symm) n2
theorem Dg.seq {K : PySem.W.Frag} {d q b : Addr} {T : List (Addr × Str)} {H H1 : Hp} {xs : List V} (g : Dg d q T H H1) (h : SqL K H b xs) (n : b ≠ d) (m : b ≠ q) : SqL K H1 b xs := by
  rcases h with (h | ⟨o, h⟩) | h
  · exact .inl (.inl (g.k _ _ h n m (fun _ z => by cases z)))
  · exact .inl (.inr ⟨o, g.k _ _ h n m (fun _ z => by cases z)⟩)
  · exact .inr h
theorem perm_ints {ys : List V} {Ps : List Int} (h : ys.Perm (Ps.map V.int)) : ∃ Ms : List Int, ys = Ms.map V.int ∧ Ms.Perm Ps := by
  refine ⟨ys.map toI, ?_, ?_⟩
  · rw [List.map_map]
    have : ∀ y ∈ ys, (V.int ∘ toI) y = y := fun y hy => by
      obtain ⟨n, _, rfl⟩ := List.mem_map.mp (h.mem_iff.mp hy)
      rfl
    have e : ys.map (V.int ∘ toI) = ys.map id := List.map_congr_left this
    rw [e, List.map_id]
  · have := h.map toI
    rwa [toI_map] at this
theorem set_flatten {Ls : List (List Int)} {i : Nat} {L : List Int} {x : Int} (h : Ls[i]? = some L) : (Ls.set i (L ++ [x])).flatten.Perm (Ls.flatten ++ [x]) := by
  induction Ls generalizing i with
  | nil => simp at h
  | cons M Ls ih =>
    cases i with
    | zero =>
      have e : M = L := by simpa using h
      subst e
      simp only [List.set_cons_zero, List.flatten_cons, List.append_assoc]
      exact List.Perm.append_left M List.perm_append_comm
    | succ i =>
      simp only [List.set_cons_succ, List.flatten_cons, List.append_assoc]
      exact List.Perm.append_left M (ih (by simpa using h))
theorem flatten_pos {Ls : List (List Int)} (h : ∀ L ∈ Ls, L ≠ []) : Ls.length ≤ Ls.flatten.length := by
  induction Ls with
  | nil => simp
  | cons L Ls ih =>
    have h1 := ih fun M hM => h M (List.mem_cons_of_mem _ hM)
    have h2 : 1 ≤ L.length := List.length_pos_iff.mpr (h L List.mem_cons_self)
    simp only [List.flatten_cons, List.length_append, List.length_cons]
    omega
theorem flatten_less {Ls : List (List Int)} (h : ∀ L ∈ Ls, L ≠ []) (h2 : 2 ≤ Ls.length) {L : List Int} (hL : L ∈ Ls) : L.length < Ls.flatten.length := by
  induction Ls with
  | nil => exact absurd hL (by simp)
  | cons M Ls ih =>
    have hp := flatten_pos fun N hN => h N (List.mem_cons_of_mem _ hN)
    simp only [List.flatten_cons, List.length_append, List.length_cons] at *
    have hM : 1 ≤ M.length := List.length_pos_iff.mpr (h M List.mem_cons_self)
    rcases List.mem_cons.mp hL with rfl | hL
    · omega
    · have := flatten_mem_len hL
      omega
theorem nd_flat {Ls : List (List Int)} (h : Ls.flatten.Nodup) {L : List Int} (hL : L ∈ Ls) : L.Nodup := by
  induction Ls with
  | nil => exact absurd hL (by simp)
  | cons M Ls ih =>
    rw [List.flatten_cons] at h
    have h' := List.nodup_append.mp h
    rcases List.mem_cons.mp hL with rfl | hL
    · exact h'.1
    · exact ih h'.2.1 hL
section
variable {P : Program} {w : World} {K : PySem.W.Frag} {mg : Str → Option Value} {base : Heap}
/-! _law_shape -/
abbrev s20 : Stmt := top 20
abbrev N20 : List Str := ["deal", "parts", "many", "pieces", "at", "part", "piece", "kind", "turn"]
theorem sc20 : FnScope N20 ["deal", "parts"] (defScope s20) := ⟨rfl, rfl, rfl, by decide +kernel, rfl, by decide +kernel, by decide +kernel⟩
def sp20 (K : PySem.W.Frag) (T : List (Addr × Str)) (n : Nat) : Sp := fun vs H Q _ => ∃ (d q b : Addr) (Ps : List Int), vs = [.ref d, .ref b] ∧ DealAt d q H ∧ Tabs T H ∧ SqL K H b (Ps.map V.int) ∧ Ps ≠ [] ∧ Ps.Nodup ∧ (∀ x ∈ Ps, 0 ≤ x) ∧ Ps.length ≤ n ∧ n ≤ 8 ∧ b ≠ d ∧ b ≠ q ∧
  ∀ (H' : Hp) (v : V) (t : Tr), Dg d q T H H' → Dt H' v (enc t) → gd t → sr t = true → (lv t).Perm Ps → Q v H'
theorem ok20_step {n : Nat} {T : List (Addr × Str)} {f f15 f16 f17 f18 f19 c PT : Addr} {fd fd15 fd16 fd17 fd18 fd19 : FuncData} (D : Df K mg "_law_shape" s20 f fd ["deal", "parts"]) (D15 : Df K mg "_law_draw" s15 f15 fd15 ["deal", "bound"]) (D16 : Df K mg "_law_pick" s16 f16 fd16 ["deal", "some"])
    (D17 : Df K mg "_law_mixed" s17 f17 fd17 ["deal", "things"]) (D18 : Df K mg "_law_leaves" s18 f18 fd18 ["shape"]) (D19 : DfC K mg "_law_told" s19 f19 fd19 c ["kind", "children"]) (Z : Zs mg) (TB : TabB base mg c PT) (hmT : (PT, nm19) ∈ T) (huT : ∀ p ∈ T, p.1 = PT → p.2 = nm19)
    (G : FnOk P w K mg base CX0 (n + 3) f fd ["deal", "parts"] (sp20 K T n)) : FnOk P w K mg base CX0 (n + 4) f fd ["deal", "parts"] (sp20 K T (n + 1)) := by
  have G15 : FnOk P w K mg base CX0 1 f15 fd15 ["deal", "bound"] sp15 := ok15 D15 Z
  have G16 : FnOk P w K mg base CX0 2 f16 fd16 ["deal", "some"] (sp16 K) := ok16 D16 D15 Z
  have G17 : FnOk P w K mg base CX0 2 f17 fd17 ["deal", "things"] (sp17 K) := ok17 D17 D15 Z
  have G19 : FnOk P w K mg base CX0 (n + 3) f19 fd19 ["kind", "children"] (sp19 K T (n + 1)) := ok19 (n + 1) hmT huT D19 D18 Z TB
  refine D.F.ok sc20 (fun vs H Q E h => ?_) (fun cdv A outer s H vs Q E hr h => ?_)
  · obtain ⟨d, q, b, Ps, rfl, _⟩ := h
    rfl
  obtain ⟨d, q, b, Ps, rfl, hD, hT, hb, h0, hPn, hnn, hl, hn, nbd, nbq, qq⟩ := h
  have hr1 : Room 1 _ := hr.mono (by omega)
  have hr2 : Room 2 _ := hr.mono (by omega)
  refine ⟨_, pss_cons (ps_if (pt_cmpR op_eq (pe_callB call_len_seq rfl Z.len PySem.boot_len (pa_cons (pv 1) pa_nil)) pe_int (nomark _)) (pss_one (ps_ret (pe_ix ix_list (pv 1) pe_int (fun _ _ => rfl)))) pss_nil)
    (pss_cons (ps_set (i := 2) sc20.nd rfl (.inl rfl) (pe_callB (call_min2 rfl) rfl Z.min (by decide +kernel) (pa_cons (pe_callB call_len_seq rfl Z.len PySem.boot_len (pa_cons (pv 1) pa_nil)) (pa_cons
        (pe_op op_add pe_int (pe_call G15 hr1 rfl D15.g D15.F.kp D15.b .nil pass0 (pa_cons (pv 0) (pa_cons (pe_call G16 hr2 rfl D16.g D16.F.kp D16.b .nil pass0 (pa_cons (pv 0) (pa_cons (pe_lst (pa_cons pe_int (pa_cons pe_int (pa_cons pe_int (pa_cons pe_int pa_nil))))) pa_nil))) pa_nil)))) pa_nil))))
    (pss_cons (ps_setLc (i := 3) (own := [("turn", 8)]) (g := gName 8) (tt := tYes) rfl sc20.nd rfl rfl (sw_true rfl rfl rfl (by decide +kernel)) (pi_range1 rfl Z.rng (pa_cons (pv 2) pa_nil)) (blkOk_by (N := N20) (sc := defScope s20) (by decide +kernel))
      (fun _ _ _ _ _ => pg_name (i := 8) sc20.nd rfl (.inl rfl)) (fun _ _ _ _ _ => pts_nil) (fun _ _ _ _ _ => pe_lst pa_nil))
    (pss_cons (ps_for PassesOwn.never rfl (pi_enum rfl Z.enum (pa_cons (pe_call G17 hr2 rfl D17.g D17.F.kp D17.b .nil pass0 (pa_cons (pv 0) (pa_cons (pv 1) pa_nil))) pa_nil)) (pg_tup rfl (pgs_cons (pg_name (i := 4) sc20.nd rfl (.inl rfl)) (pgs_cons (pg_name (i := 5) sc20.nd rfl (.inl rfl)) pgs_nil)))
      (pss_cons (ps_set (i := 6) sc20.nd rfl (.inl rfl) (pe_ix ix_list (pv 3) (pe_ifExp (pt_cmpR op_lt (pv 4) (pv 2) (nomark _)) (pv 4) (pe_call G15 hr1 rfl D15.g D15.F.kp D15.b .nil pass0 (pa_cons (pv 0) (pa_cons (pv 2) pa_nil)))) (fun _ _ => rfl)))
      (pss_one (ps_expr (pe_bm PySem.F.plainAttrs_list PySem.F.slot_list_append PySem.F.type_list_append mt_append (pv 6) (pa_cons (pv 5) pa_nil))))))
    (pss_cons (ps_set (i := 7) sc20.nd rfl (.inl rfl) (pe_ifExp (pt_cmpR op_eq (pv 2) pe_int (nomark _)) pe_str (pe_call G16 hr2 rfl D16.g D16.F.kp D16.b .nil pass0 (pa_cons (pv 0) (pa_cons
        (pe_lst (pa_cons pe_str (pa_cons pe_str (pa_cons pe_str (pa_cons pe_str (pa_cons pe_str pa_nil)))))) pa_nil)))))
    (pss_one (ps_ret (pe_call G19 hr rfl D19.g D19.F.kp D19.b .nil pass0 (pa_cons (pv 7) (pa_cons
        (pe_lc (own := [("piece", 6)]) (g := gName 6) (tt := tYes) rfl sc20.nd (pi_list (pv 3)) (blkOk_by (N := N20) (sc := defScope s20) (by decide +kernel))
          (fun _ _ _ _ _ => pg_name (i := 6) sc20.nd rfl (.inl rfl)) (fun _ _ _ _ _ => pts_nil) (fun _ _ _ _ _ => pe_call G hr rfl D.g D.F.kp D.b .nil pass0 (pa_cons (pv 0) (pa_cons (pv 6) pa_nil)))) pa_nil))))))))), ?_⟩
  have hlen : (((Ps.map V.int).length : Nat) : Int) = (Ps.length : Nat) := by rw [List.length_map]
  have hp0 : 0 < Ps.length := List.length_pos_iff.mpr h0
  refine ⟨_, rfl, b, _, rfl, .inl hb, rfl, _, rfl, ?_⟩
  rw [hlen]
  by_cases h1 : Ps.length = 1
  · refine itT (decide_eq_true (by rw [h1]; rfl)) ?_
    obtain ⟨m, rfl⟩ : ∃ m, Ps = [m] := List.length_eq_one_iff.mp h1
    refine ⟨_, rfl, b, _, 0, _, rfl, rfl, hb, atI_nat (j := 0) rfl, ?_⟩
    refine qq H (.int m) (.leaf m) (Dg.refl hD hT) (by rw [enc]; exact .int m) (gd_leaf.mpr (hnn m (by simp))) (by rw [sr]) ?_
    rw [lv]
  · refine itF (fun z => h1 (by have := of_decide_eq_true z; injection this with this; omega)) ?_
    refine ⟨_, rfl, b, _, rfl, .inl hb, _, rfl, _, rfl, (by show 4 ≤ sizeLine; decide), fun l1 hl1 => ?_⟩
    have t1 : Same H (upd H l1 (.lst [.int 2, .int 2, .int 3, .int 9])) := same_upd hl1
    have nl1 := hD.ne hl1
    refine ⟨d, q, l1, _, rfl, hD.sm t1, .inl (SqL.of upd_same), by simp, by decide, nl1.1, nl1.2, fun x H1 hx D1 k1 => ?_⟩
    obtain ⟨m, rfl, hm0, hm⟩ : ∃ m : Nat, x = .int m ∧ 0 < m ∧ m < 10 := by
      have : x = .int 2 ∨ x = .int 2 ∨ x = .int 3 ∨ x = .int 9 := by simpa using hx
      rcases this with rfl | rfl | rfl | rfl
      · exact ⟨2, rfl, by decide, by decide⟩
      · exact ⟨2, rfl, by decide, by decide⟩
      · exact ⟨3, rfl, by decide, by decide⟩
      · exact ⟨9, rfl, by decide, by decide⟩
    have g1 : Dg d q T H H1 := ((Dg.refl hD hT).sm t1).dq D1 k1
    refine ⟨d, q, m, rfl, D1, hm0, by omega, fun r H2 hr2 D2 k2 => ?_⟩
    have g2 := g1.dq D2 k2
    have hb2 := g2.seq hb nbd nbq
    refine ⟨_, _, rfl, rfl, _, _, rfl, ?_⟩
    obtain ⟨M, hM, hM2, hMl⟩ : ∃ M : Nat, (if 2 + (r : Int) < (((Ps.map V.int).length : Nat) : Int) then 2 + (r : Int) else (((Ps.map V.int).length : Nat) : Int)) = (M : Nat) ∧ 2 ≤ M ∧ M ≤ Ps.length := by
      rw [hlen]
      split
      · exact ⟨2 + r, by omega, by omega, by omega⟩
      · exact ⟨Ps.length, rfl, by omega, Nat.le_refl _⟩
    rw [hM]
    clear hM
    refine ⟨_, rfl, M, rfl, by omega, by omega, fun dd hdd => ?_⟩
    refine lc_it (walk_range (lo := 0) (n := M)) (fun j H' => Same H2 H' ∧ ∃ As : List Addr, H' dd = some (.lst (As.map V.ref)) ∧ As.length = j ∧ As.Nodup ∧ ∀ a ∈ As, H2 a = none ∧ a ≠ dd ∧ H' a = some (.lst [])) ⟨same_upd hdd, [], upd_same, rfl, by simp, by simp⟩ (fun j H' _ _ => trivial) ?_ ?_
    · rintro j u H0 H3 hj ⟨s3, As, hAs, hAl, hnd, hA⟩ ⟨rfl, rfl⟩
      refine ⟨rfl, ?_⟩
      refine iteT (B := True) ?_
      refine ⟨Nat.zero_le _, fun p hp => ?_⟩
      have s4 : Same H3 (upd H3 p (.lst [])) := same_upd hp
      have npd : p ≠ dd := fun z => by rw [z, hAs] at hp; cases hp
      refine ⟨_, s4 _ _ hAs, ?_, same_upd2 (s3.trans s4) hdd, As ++ [p], ?_, ?_, ?_, fun a ha => ?_⟩
      · rw [List.length_map]
        exact small1000 (by omega)
      · rw [upd_same, List.map_append]
        rfl
      · rw [List.length_append, hAl]
        rfl
      · refine List.nodup_append.mpr ⟨hnd, by simp, fun a ha b hb => ?_⟩
        have eb : b = p := by simpa using hb
        rw [eb]
        exact ne_of_none (hA a ha).2.2 hp
      · rcases List.mem_append.mp ha with ha | ha
        · obtain ⟨a1, a2, a3⟩ := hA a ha
          exact ⟨a1, a2, by rw [upd_ne a2]; exact s4 _ _ a3⟩
        · have ea : a = p := by simpa using ha
          rw [ea]
          exact ⟨s3.free hp, npd, by rw [upd_ne npd, upd_same]⟩
    rintro H3 ⟨s3, As, hAs, hAl, hnd, hA⟩
    have g3 := g2.sm s3
    have ndd := g2.new hdd
    have hb3 := g3.seq hb nbd nbq
    have hA3 : ∀ a ∈ As, a ≠ d ∧ a ≠ q ∧ Nw H a := fun a ha => g2.new (hA a ha).1
    refine ⟨_, rfl, _, rfl, d, q, b, _, rfl, g3.D, hb3, (fun v hv => by
      obtain ⟨m, _, rfl⟩ := List.mem_map.mp hv
      exact ⟨.int m, .int m, by simp [PyData.canLay0], by simp [PyData.depth]⟩), by rw [List.length_map]; omega, fun ys p H4 hperm hp30 hp4 D4 k4 => ?_⟩
    obtain ⟨Ms, rfl, hMs⟩ := perm_ints hperm
    have hMl2 := hMs.length_eq
    have g4 := g3.dq D4 k4
    have npp := g3.new hp30
    have hAs4 : H4 dd = some (.lst (As.map V.ref)) := k4 _ _ hAs ndd.1 ndd.2.1
    have hA4 : ∀ a ∈ As, H4 a = some (.lst []) := fun a ha => k4 _ _ (hA a ha).2.2 (hA3 a ha).1 (hA3 a ha).2.1
    have nap : ∀ a ∈ As, a ≠ p := fun a ha => ne_of_none (hA a ha).2.2 hp30
    have ndp : dd ≠ p := ne_of_none hAs hp30
    have nad : ∀ a ∈ As, a ≠ dd := fun a ha => (hA a ha).2.1
    clear hA
    refine ⟨p, _, rfl, SqL.of hp4, ?_⟩
    refine for_it (walk_enum (K := K) (xs := Ms.map V.int)) (fun j σ H' => ∃ (y1 y2 y3 : Option V) (Ls : List (List Int)), σ = [some (.ref d), some (.ref b), some (.int M), some (.ref dd), y1, y2, y3, none, none] ∧ Dg d q T H H' ∧ H' p = some (.lst (Ms.map V.int)) ∧ H' dd = some (.lst (As.map V.ref)) ∧ Ls.length = M ∧
        (∀ (i : Nat) (a : Addr) (L : List Int), As[i]? = some a → Ls[i]? = some L → H' a = some (.lst (L.map V.int))) ∧ Ls.flatten.Perm (Ms.take j) ∧ (∀ (i : Nat) (L : List Int), i < j → Ls[i]? = some L → L ≠ []) ∧ j ≤ Ms.length) ?_ ?_ ?_ ?_
    · refine ⟨none, none, none, List.replicate M [], rfl, g4, hp4, hAs4, by simp, fun i a L e1 e2 => ?_, by simp, fun i L h => absurd h (Nat.not_lt_zero i), Nat.zero_le _⟩
      rw [hA4 a (List.mem_of_getElem? e1)]
      obtain ⟨_, e⟩ := List.mem_replicate.mp (List.mem_of_getElem? e2)
      rw [e]
      rfl
    · rintro j σ H' _ ⟨_, _, _, _, _, _, hp', _⟩
      exact SqL.of hp'
    · rintro j x σ H5 H6 hj ⟨y1, y2, y3, Ls, rfl, g5, hp5, hdd5, hLl, hLs, hfl, hne, hjl⟩ ⟨TT, x1, x2, rfl, hTn, rfl, e1, e2⟩
      have e1' : V.int (j : Nat) = x1 := Option.some.inj e1
      subst e1'
      obtain ⟨m, hmj, rfl⟩ := int_at e2
      have smT : Same H5 (upd H5 TT (.tup [.int (j : Nat), .int m])) := same_upd hTn
      have g6 := g5.sm smT
      have hp6 := smT _ _ hp5
      have hdd6 := smT _ _ hdd5
      have hLs6 : ∀ (i : Nat) (a : Addr) (L : List Int), As[i]? = some a → Ls[i]? = some L → upd H5 TT (.tup [.int (j : Nat), .int m]) a = some (.lst (L.map V.int)) := fun i a L q1 q2 => smT _ _ (hLs i a L q1 q2)
      refine ⟨TT, _, rfl, .inl (.inl upd_same), rfl, _, [.int m], rfl, .int m, [], rfl, rfl, ?_⟩
      revert g6 hp6 hdd6 hLs6
      generalize upd H5 TT (.tup [.int (j : Nat), .int m]) = H6
      intro g6 hp6 hdd6 hLs6
      have hML : M = As.length := hAl.symm
      -- the part goes to the piece at i
      have fin : ∀ (H7 : Hp) (i : Nat), i < M → (j < M → i = j) → Dg d q T H H7 → H7 p = some (.lst (Ms.map V.int)) → H7 dd = some (.lst (As.map V.ref)) →
          (∀ (i : Nat) (a : Addr) (L : List Int), As[i]? = some a → Ls[i]? = some L → H7 a = some (.lst (L.map V.int))) →
          ∃ (a : Addr) (L : List Int), (As.map V.ref)[i]? = some (.ref a) ∧ H7 a = some (.lst (L.map V.int)) ∧ L.length < 1000 ∧ (∃ (y1 y2 y3 : Option V) (Ls : List (List Int)), [some (V.ref d), some (.ref b), some (.int M), some (.ref dd), some (.int (j : Nat)), some (.int m), some (.ref a), none, none] = [some (V.ref d), some (.ref b), some (.int M), some (.ref dd), y1, y2, y3, none, none] ∧
            Dg d q T H (upd H7 a (.lst (L.map V.int ++ [.int m]))) ∧ upd H7 a (.lst (L.map V.int ++ [.int m])) p = some (.lst (Ms.map V.int)) ∧ upd H7 a (.lst (L.map V.int ++ [.int m])) dd = some (.lst (As.map V.ref)) ∧ Ls.length = M ∧
            (∀ (i : Nat) (a' : Addr) (L' : List Int), As[i]? = some a' → Ls[i]? = some L' → upd H7 a (.lst (L.map V.int ++ [.int m])) a' = some (.lst (L'.map V.int))) ∧ Ls.flatten.Perm (Ms.take (j + 1)) ∧ (∀ (i : Nat) (L : List Int), i < j + 1 → Ls[i]? = some L → L ≠ []) ∧ j + 1 ≤ Ms.length) := fun H7 i hi hij g7 hp7 hdd7 hLs7 => by
        have hai : As[i]? = some (As[i]'(by omega)) := List.getElem?_eq_getElem (by omega)
        have hLi : Ls[i]? = some (Ls[i]'(by omega)) := List.getElem?_eq_getElem (by omega)
        revert hai hLi
        generalize As[i]'(by omega) = a
        generalize Ls[i]'(by omega) = L
        intro hai hLi
        have haA := List.mem_of_getElem? hai
        have ha7 := hLs7 i a L hai hLi
        have hjl' : j < Ms.length := by
          have := (List.getElem?_eq_some_iff.mp hmj).1
          exact this
        have hLlen : L.length ≤ 8 := by
          have q1 := flatten_mem_len (List.mem_of_getElem? hLi)
          have q2 := hfl.length_eq
          rw [List.length_take] at q2
          omega
        refine ⟨a, L, by rw [List.getElem?_map, hai]; rfl, ha7, by omega, _, _, _, Ls.set i (L ++ [m]), rfl, g7.put (hA3 a haA) ha7, ?_, ?_, by rw [List.length_set]; exact hLl, fun i2 a2 L2 q1 q2 => ?_, ?_, fun i2 L2 h2 q2 => ?_, hjl'⟩
        · rw [upd_ne (Ne.symm (nap a haA))]; exact hp7
        · rw [upd_ne (Ne.symm (nad a haA))]; exact hdd7
        · by_cases ei : i2 = i
          · subst ei
            rw [hai] at q1
            obtain rfl := Option.some.inj q1
            rw [List.getElem?_set_self (by omega)] at q2
            obtain rfl := Option.some.inj q2
            rw [upd_same, List.map_append]
            rfl
          · rw [List.getElem?_set_ne (Ne.symm ei)] at q2
            have na : a2 ≠ a := fun z => by
              rw [z] at q1
              have b1 := List.getElem?_eq_some_iff.mp q1
              have b2 := List.getElem?_eq_some_iff.mp hai
              obtain ⟨c1, d1⟩ := b1
              obtain ⟨c2, d2⟩ := b2
              exact ei ((List.getElem_inj hnd).mp (d1.trans d2.symm))
            rw [upd_ne na]
            exact hLs7 i2 a2 L2 q1 q2
        · rw [take_snoc hmj]
          exact (set_flatten hLi).trans (hfl.append_right [m])
        · by_cases ei : i2 = i
          · subst ei
            rw [List.getElem?_set_self (by omega)] at q2
            obtain rfl := Option.some.inj q2
            simp
          · rw [List.getElem?_set_ne (Ne.symm ei)] at q2
            by_cases e3 : i2 < j
            · exact hne i2 L2 e3 q2
            · have e4 : i2 = j := by omega
              have := (List.getElem?_eq_some_iff.mp q2).1
              exact absurd (hij (by omega)) (fun z => ei (by omega))
      refine ⟨_, rfl, _, rfl, _, rfl, _, _, rfl, rfl, _, rfl, ?_⟩
      by_cases hjM : j < M
      · refine itT (decide_eq_true (by omega)) ?_
        obtain ⟨a, L, f1, f2, f3, f4⟩ := fin H6 j hjM (fun _ => rfl) g6 hp6 hdd6 hLs6
        exact ⟨_, rfl, dd, _, _, .ref a, rfl, rfl, SqL.of hdd6, atI_nat f1, _, rfl, .inl ⟨rfl, _, SqL.of f2⟩, _, rfl, a, _, _, rfl, rfl, f2, by rw [List.length_map]; exact small1000 (by omega), f4⟩
      · refine itF (fun z => hjM (by have := of_decide_eq_true z; omega)) ?_
        refine ⟨_, rfl, _, rfl, d, q, M, rfl, g6.D, by omega, by omega, fun r2 H7 hr2 D7 k7 => ?_⟩
        have g7 := g6.dq D7 k7
        have hdd7 := k7 _ _ hdd6 ndd.1 ndd.2.1
        obtain ⟨a, L, f1, f2, f3, f4⟩ := fin H7 r2 hr2 (fun h => absurd h hjM) g7 (k7 _ _ hp6 npp.1 npp.2.1) hdd7 (fun i a L q1 q2 => k7 _ _ (hLs6 i a L q1 q2) (hA3 a (List.mem_of_getElem? q1)).1 (hA3 a (List.mem_of_getElem? q1)).2.1)
        exact ⟨dd, _, _, .ref a, rfl, rfl, SqL.of hdd7, atI_nat f1, _, rfl, .inl ⟨rfl, _, SqL.of f2⟩, _, rfl, a, _, _, rfl, rfl, f2, by rw [List.length_map]; exact small1000 (by omega), f4⟩
    · rintro σ H5 ⟨y1, y2, y3, Ls, rfl, g5, hp5, hdd5, hLl, hLs, hfl, hne, hjl⟩
      rw [List.length_map] at hfl hne
      rw [List.take_length] at hfl
      have hall : ∀ L ∈ Ls, L ≠ [] := fun L hL => by
        obtain ⟨i, hi⟩ := List.getElem?_of_mem hL
        have := (List.getElem?_eq_some_iff.mp hi).1
        exact hne i L (by omega) hi
      have hflP : Ls.flatten.Perm Ps := hfl.trans hMs
      have hfll := hflP.length_eq
      have hfn : Ls.flatten.Nodup := hflP.nodup_iff.mpr hPn
      refine ⟨_, rfl, rfl, _, rfl, ?_⟩
      refine ite2 (fun _ => ?_) (fun hM3 => ?_)
      have hfew : few .bare ≤ M := hM2
      revert g5 hdd5 hLs hfew
      rw [show (Str.ofString "bare" : Str) = kname .bare from rfl]
      generalize Kd.bare = k
      generalize H5 = H6
      intro g6 hdd6 hLs6 hfew
      rotate_left
      refine ⟨_, rfl, (by show 5 ≤ sizeLine; decide), fun l2 hl2 => ?_⟩
      have t2 : Same H5 (upd H5 l2 (.lst [.str "bare", .str "line", .str "free", .str "line", .str "free"])) := same_upd hl2
      have nl2 := g5.new hl2
      refine ⟨d, q, l2, _, rfl, g5.D.sm t2, .inl (SqL.of upd_same), by simp, by decide, nl2.1, nl2.2.1, fun x H6 hx D6 k6 => ?_⟩
      obtain ⟨k, rfl⟩ : ∃ k : Kd, x = .str (kname k) := by
        have : x = .str "bare" ∨ x = .str "line" ∨ x = .str "free" ∨ x = .str "line" ∨ x = .str "free" := by simpa using hx
        rcases this with rfl | rfl | rfl | rfl | rfl
        · exact ⟨.bare, rfl⟩
        · exact ⟨.line, rfl⟩
        · exact ⟨.free, rfl⟩
        · exact ⟨.line, rfl⟩
        · exact ⟨.free, rfl⟩
      have g6 := (g5.sm t2).dq D6 k6
      have hdd6 := k6 _ _ (t2 _ _ hdd5) ndd.1 ndd.2.1
      have hLs6 : ∀ (i : Nat) (a : Addr) (L : List Int), As[i]? = some a → Ls[i]? = some L → H6 a = some (.lst (L.map V.int)) := fun i a L q1 q2 => k6 _ _ (t2 _ _ (hLs i a L q1 q2)) (hA3 a (List.mem_of_getElem? q1)).1 (hA3 a (List.mem_of_getElem? q1)).2.1
      have hfew : few k ≤ M := by
        have h3 : M ≠ 2 := fun z => hM3 (decide_eq_true (by rw [z]; rfl))
        have : few k ≤ 3 := by cases k <;> decide
        omega
      clear t2 nl2 hx k6 D6 hl2
      all_goals
        refine ⟨_, rfl, _, rfl, dd, rfl, ⟨_, SqL.of hdd6⟩, fun d2 hd2 => ?_⟩
        have nd2 := g6.new hd2
        have sd2 : Same H6 (upd H6 d2 (.lst [])) := same_upd hd2
        refine lc_it (walk_list (K := K) (xs := As.map V.ref)) (fun j H' => Dg d q T H H' ∧ H' dd = some (.lst (As.map V.ref)) ∧ (∀ (i : Nat) (a : Addr) (L : List Int), As[i]? = some a → Ls[i]? = some L → H' a = some (.lst (L.map V.int))) ∧
          ∃ (zs : List V) (ts : List Tr), H' d2 = some (.lst zs) ∧ Dts H' zs (ts.map enc) ∧ ts.length = j ∧ (∀ t ∈ ts, gd t ∧ sr t = true) ∧ (lvs ts).Perm (Ls.take j).flatten ∧ j ≤ M) ?_ ?_ ?_ ?_
        · exact ⟨g6.sm sd2, sd2 _ _ hdd6, fun i a L q1 q2 => sd2 _ _ (hLs6 i a L q1 q2), [], [], upd_same, .nil, rfl, by simp, by simp [lvs], Nat.zero_le _⟩
        · rintro j H' _ ⟨_, h', _⟩
          exact SqL.of h'
        · rintro j u H0 H7 hj ⟨g7, hdd7, hLs7, zs, ts, hzs, hts, htl, hto, htp, _⟩ ⟨rfl, hu⟩
          rw [List.getElem?_map] at hu
          cases haj : As[j]? with
          | none => rw [haj] at hu; simp at hu
          | some a =>
            rw [haj] at hu
            obtain rfl : V.ref a = u := Option.some.inj hu
            have hjM : j < M := by
              have := (List.getElem?_eq_some_iff.mp haj).1
              omega
            have hLj : Ls[j]? = some (Ls[j]'(by omega)) := List.getElem?_eq_getElem (by omega)
            revert hLj
            generalize Ls[j]'(by omega) = L
            intro hLj
            have hLm := List.mem_of_getElem? hLj
            have hLlt := flatten_less hall (by omega) hLm
            have haA := List.mem_of_getElem? haj
            refine ⟨rfl, ?_⟩
            refine iteT (B := True) ?_
            refine ⟨_, rfl, _, rfl, d, q, a, L, rfl, g7.D, g7.t, SqL.of (hLs7 j a L haj hLj), hall L hLm, nd_flat hfn hLm, (fun x hx => hnn x (hflP.mem_iff.mp (List.mem_flatten.mpr ⟨L, hLm, hx⟩))), by omega, by omega, (hA3 a haA).1, (hA3 a haA).2.1, fun H8 v t g8 hv hg8 hs8 hp8 => ?_⟩
            have hzs8 : H8 d2 = some (.lst zs) := g8.k _ _ hzs nd2.1 nd2.2.1 (fun _ z => by cases z)
            have nad2 : ∀ (i : Nat) (a : Addr), As[i]? = some a → a ≠ d2 := fun i a q1 => by
              have hiM : i < Ls.length := by
                have := (List.getElem?_eq_some_iff.mp q1).1
                omega
              exact ne_of_none (hLs6 i a _ q1 (List.getElem?_eq_getElem hiM)) hd2
            refine ⟨zs, hzs8, ?_, (g7.trans g8).put nd2 hzs8, ?_, fun i a2 L2 q1 q2 => ?_, zs ++ [v], ts ++ [t], upd_same, ?_, ?_, fun t2 ht2 => ?_, ?_, hjM⟩
            · have := hts.length
              rw [List.length_map] at this
              exact small1000 (by omega)
            · rw [upd_ne (ne_of_none hdd6 hd2)]
              exact g8.k _ _ hdd7 ndd.1 ndd.2.1 (fun _ z => by cases z)
            · rw [upd_ne (nad2 i a2 q1)]
              exact g8.k _ _ (hLs7 i a2 L2 q1 q2) (hA3 a2 (List.mem_of_getElem? q1)).1 (hA3 a2 (List.mem_of_getElem? q1)).2.1 (fun _ z => by cases z)
            · rw [List.map_append]
              exact ((hts.kp (g8.kp g7.D)).app (.one hv)).kp (kp_list (H1 := H8) hzs8)
            · rw [List.length_append, htl]
              rfl
            · rcases List.mem_append.mp ht2 with h | h
              · exact hto t2 h
              · obtain rfl : t2 = t := by simpa using h
                exact ⟨hg8, hs8⟩
            · rw [flatten_take hLj, lvs_flat, List.flatMap_append, ← lvs_flat]
              refine htp.append ?_
              simpa using hp8
        · rintro H7 ⟨g7, hdd7, hLs7, zs, ts, hzs, hts, htl, hto, htp, _⟩
          rw [List.length_map] at htl htp
          rw [hAl, ← hLl, List.take_length] at htp
          have hlt := htp.length_eq
          refine ⟨k, d2, zs, ts, rfl, SqL.of hzs, hts, by omega, fun c hc => (hto c hc).1.ok, htp.nodup_iff.mpr hfn, by omega, by omega, g7.t, fun H8 v cs' hpm hor G8 hv => ?_⟩
          obtain ⟨bb, dd0, u1, u2, u3⟩ := g7.D
          refine qq H8 v (.knot k cs') ⟨fun x o e1 e2 e3 e4 => G8.e _ _ (g7.k x o e1 e2 e3 e4) e4, ⟨bb, dd0, G8.e _ _ u1 (fun _ z => by cases z), G8.e _ _ u2 (fun _ z => by cases z), u3⟩, G8.t⟩ hv ?_ ?_ ?_
          · refine gd_knot.mpr ⟨?_, fun c hc => (hto c (hpm.mem_iff.mp hc)).1⟩
            rw [hpm.length_eq]
            omega
          · rw [sr_knot, hor, Bool.true_and]
            exact List.all_eq_true.mpr fun c hc => (hto c (hpm.mem_iff.mp hc)).2
          · rw [lv_knot]
            have : (lvs cs').Perm (lvs ts) := by
              rw [lvs_flat, lvs_flat]
              exact hpm.flatMap_right lv
            exact this.trans (htp.trans hflP)
theorem none20 {k : Nat} {T : List (Addr × Str)} {f : Addr} {fd : FuncData} : FnOk P w K mg base CX0 k f fd ["deal", "parts"] (sp20 K T 0) := by
  have no : ∀ vs H Q E, ¬ sp20 K T 0 vs H Q E := fun vs H Q E h => by
    obtain ⟨d, q, b, Ps, _, _, _, _, h0, _, _, hl, _⟩ := h
    exact h0 (List.eq_nil_of_length_eq_zero (by omega))
  exact ⟨fun vs H Q E h => absurd h (no vs H Q E), fun A outer s H args us vs Q E _ _ _ _ h => absurd h (no vs H Q E)⟩
theorem ok20 {T : List (Addr × Str)} {f f15 f16 f17 f18 f19 c PT : Addr} {fd fd15 fd16 fd17 fd18 fd19 : FuncData} (D : Df K mg "_law_shape" s20 f fd ["deal", "parts"]) (D15 : Df K mg "_law_draw" s15 f15 fd15 ["deal", "bound"]) (D16 : Df K mg "_law_pick" s16 f16 fd16 ["deal", "some"])
    (D17 : Df K mg "_law_mixed" s17 f17 fd17 ["deal", "things"]) (D18 : Df K mg "_law_leaves" s18 f18 fd18 ["shape"]) (D19 : DfC K mg "_law_told" s19 f19 fd19 c ["kind", "children"]) (Z : Zs mg) (TB : TabB base mg c PT) (hmT : (PT, nm19) ∈ T) (huT : ∀ p ∈ T, p.1 = PT → p.2 = nm19) :
    ∀ n, FnOk P w K mg base CX0 (n + 3) f fd ["deal", "parts"] (sp20 K T n)
  | 0 => none20
  | n + 1 => ok20_step D D15 D16 D17 D18 D19 Z TB hmT huT (ok20 D D15 D16 D17 D18 D19 Z TB hmT huT n)
end
end K23
namespace K23
open PySem PySem.Spec PyProof.Rows L2
def ab (i : Int) : Int := if i < 0 then -i else i
theorem ab_nonneg (i : Int) : 0 ≤ ab i := by
  unfold ab
  split <;> omega
section
variable {P : Program} {w : World} {K : PySem.W.Frag} {mg : Str → Option Value} {base : Heap}
/-! _law_deal -/
abbrev s14 : Stmt := top 14
abbrev N14 : List Str := ["script", "base", "cell", "cells", "blend"]
theorem sc14 : FnScope N14 ["script", "base"] (defScope s14) := ⟨rfl, rfl, rfl, by decide +kernel, rfl, by decide +kernel, by decide +kernel⟩
def sp14 (K : PySem.W.Frag) : Sp := fun vs H Q _ => ∃ (a : Addr) (ns : List Int), vs = [.ref a, .int 0] ∧ SqL K H a (ns.map V.int) ∧ ns.length ≤ 63 ∧ ∀ (H' : Hp) (d q : Addr), Same H H' → H d = none → H q = none → DealAt d q H' → Q (.ref d) H'
theorem ok14 {f : Addr} {fd : FuncData} (D : Df K mg "_law_deal" s14 f fd ["script", "base"]) (Z : Zs mg) : FnOk P w K mg base CX0 1 f fd ["script", "base"] (sp14 K) := by
  refine D.F.ok sc14 (fun vs H Q E h => ?_) (fun cdv A outer s H vs Q E hr h => ?_)
  · obtain ⟨a, ns, rfl, _⟩ := h
    rfl
  obtain ⟨a, ns, rfl, ha, hl, q⟩ := h
  refine ⟨_, pss_cons (ps_setLc (i := 3) (own := [("cell", 2)]) (g := gName 2) (tt := tYes) rfl sc14.nd rfl rfl (sw_true rfl rfl rfl (by decide +kernel)) (pi_list (pe_slice sl_list (pv 0) (po_some (pv 1)) (po_some pe_int))) (blkOk_by (N := N14) (sc := defScope s14) (by decide +kernel))
      (fun _ _ _ _ _ => pg_name (i := 2) sc14.nd rfl (.inl rfl)) (fun _ _ _ _ _ => pts_nil) (fun _ _ _ _ _ => pe_callB call_abs rfl Z.abs (by decide +kernel) (pa_cons (pe_callTy call_int1 rfl Z.int (by decide +kernel) (pa_cons (pv 2) pa_nil)) pa_nil)))
    (pss_cons (ps_set (i := 4) sc14.nd rfl (.inl rfl) (pe_op op_add pe_int (pe_op op_mul pe_int (pv 1))))
    (pss_cons (ps_for PassesOwn.never rfl (pi_list (pv 3)) (pg_name (i := 2) sc14.nd rfl (.inl rfl))
      (pss_one (ps_set (i := 4) sc14.nd rfl (.inl rfl) (pe_op op_mod (pe_callTy call_int1 rfl Z.int (by decide +kernel) (pa_cons
        (pe_op op_add (pe_op op_add (pe_op op_mul (pv 4) pe_int) (pe_op op_mod (pe_callTy call_int1 rfl Z.int (by decide +kernel) (pa_cons (pv 2) pa_nil)) pe_int)) pe_int) pa_nil)) pe_int))))
    (pss_one (ps_ret (pe_lst (pa_cons (pe_revL
        (pe_lc (own := [("cell", 2)]) (g := gName 2) rfl sc14.nd (pi_list (pv 3)) (blkOk_by (N := N14) (sc := defScope s14) (by decide +kernel))
          (fun _ _ _ _ _ => pg_name (i := 2) sc14.nd rfl (.inl rfl)) (fun _ _ _ _ _ => pts_one (pt_cmpR op_ge (pv 2) (pe_op op_pow pe_int pe_int) (nomark _))) (fun _ _ _ _ _ => pv 2)))
        (pa_cons (pv 4) pa_nil))))))), ?_⟩
  obtain ⟨ms, hms⟩ : ∃ ms : List Int, ms = (ns.drop (HT.sIx (ns.map V.int).length 0 (some 0))).take (HT.sIx (ns.map V.int).length (ns.map V.int).length (some 57) - HT.sIx (ns.map V.int).length 0 (some 0)) := ⟨_, rfl⟩
  have ecut : cutV (ns.map V.int) (some 0) (some 57) = ms.map V.int := by
    unfold cutV
    rw [← List.map_drop, ← List.map_take, ← hms]
  have hml : ms.length ≤ 63 := by
    rw [hms, List.length_take, List.length_drop]
    omega
  clear hms
  refine ⟨_, rfl, _, rfl, 0, rfl, 57, rfl, a, _, rfl, ha, fun p hp => ?_⟩
  rw [ecut]
  have s0 : Same H (upd H p (.lst (ms.map V.int))) := same_upd hp
  refine ⟨p, rfl, ⟨_, SqL.of upd_same⟩, fun dd hdd => ?_⟩
  refine lc_it (walk_list (K := K) (xs := ms.map V.int)) (fun j H' => Same (upd H p (.lst (ms.map V.int))) H' ∧ H' dd = some (.lst (((ms.take j).map ab).map V.int))) ⟨same_upd hdd, upd_same⟩ (fun j H' _ ⟨s2, _⟩ => SqL.of (s2 _ _ upd_same)) ?_ ?_
  · rintro j u H0 H1 hj ⟨s1, hz⟩ ⟨rfl, hu⟩
    obtain ⟨m, hm, rfl⟩ := int_at hu
    refine ⟨rfl, ?_⟩
    refine iteT (B := True) ?_
    refine ⟨_, rfl, .inl ⟨_, rfl, _, rfl, _, hz, ?_, same_upd2 s1 hdd, ?_⟩⟩
    · rw [List.length_map, List.length_map, List.length_take]
      exact small1000 (by omega)
    · rw [upd_same, take_snoc hm, List.map_append, List.map_append]
      rfl
  rintro H1 ⟨s1, hz⟩
  rw [List.length_map, List.take_length] at hz
  have sH1 := s0.trans s1
  have hcl : (ms.map ab).length ≤ 63 := by rw [List.length_map]; exact hml
  have hpos : ∀ x ∈ ms.map ab, 0 ≤ x := fun x hx => by
    obtain ⟨y, _, rfl⟩ := List.mem_map.mp hx
    exact ab_nonneg y
  have hddH : H dd = none := s0.free hdd
  revert hz hcl hpos
  generalize ms.map ab = cl
  intro hz hcl hpos
  refine ⟨_, rfl, _, _, rfl, rfl, .inl ⟨by decide, by decide⟩, _, _, rfl, rfl, ?_⟩
  refine ⟨_, rfl, dd, rfl, ⟨_, SqL.of hz⟩, ?_⟩
  refine for_it (walk_list (K := K) (xs := cl.map V.int)) (fun i σ H' => ∃ (y : Option V) (b : Int), σ = [some (.ref a), some (.int 0), y, some (.ref dd), some (.int b)] ∧ H' = H1 ∧ 0 ≤ b ∧ b < 2147483648) ⟨none, _, rfl, rfl, by decide, by decide⟩ (fun i σ H' _ ⟨_, _, _, e, _⟩ => by rw [e]; exact SqL.of hz) ?_ ?_
  · rintro i x σ H0 H2 hi ⟨y, b, rfl, rfl, hb0, hb⟩ ⟨rfl, hxi⟩
    obtain ⟨m, hm, rfl⟩ := int_at hxi
    refine ⟨_, rfl, _, _, rfl, rfl, .inl ⟨by omega, by omega⟩, _, rfl, .inl ⟨_, rfl, _, _, rfl, rfl, (by show (0 : Int) < 2147483549; decide), _, _, rfl, rfl, _, _, rfl, rfl, .inl ⟨_, rfl, _, _, rfl, rfl, (by show (0 : Int) < 2147483563; decide), ?_⟩⟩⟩
    refine ⟨_, _, rfl, rfl, Int.emod_nonneg _ (by decide), ?_⟩
    have := Int.emod_lt_of_pos (b * 40014 + m % 2147483549 + 29) (show (0 : Int) < 2147483563 by decide)
    omega
  · rintro σ H2 ⟨y, b, rfl, rfl, hb0, hb⟩
    refine ⟨_, rfl, dd, rfl, ⟨_, SqL.of hz⟩, fun d2 hd2 => ?_⟩
    refine lc_it (walk_list (K := K) (xs := cl.map V.int)) (fun j H' => Same H2 H' ∧ H' d2 = some (.lst (((cl.take j).filter fun x => decide ((10 : Int) ^ 18 ≤ x)).map V.int))) ⟨same_upd hd2, upd_same⟩ (fun j H' _ ⟨s2, _⟩ => SqL.of (s2 _ _ hz)) ?_ ?_
    · rintro j u H0 H3 hj ⟨s3, hz3⟩ ⟨rfl, hu⟩
      obtain ⟨m, hm, rfl⟩ := int_at hu
      refine ⟨rfl, ?_⟩
      refine ⟨_, rfl, _, _, rfl, rfl, ⟨by decide, by decide, by decide⟩, _, _, rfl, rfl, _, rfl, ?_⟩
      have hfl := List.length_filter_le (fun x => decide ((10 : Int) ^ 18 ≤ x)) (cl.take j)
      rw [List.length_take] at hfl
      by_cases h1 : (10 : Int) ^ 18 ≤ m
      · refine itT (decide_eq_true (show m ≥ (10 : Int) ^ (18 : Int).toNat from h1)) ?_
        refine ⟨_, rfl, _, hz3, ?_, same_upd2 s3 hd2, ?_⟩
        · rw [List.length_map]
          exact small1000 (by omega)
        · rw [upd_same, filter_snoc _ hm, if_pos (decide_eq_true h1), List.map_append]
          rfl
      · refine itF (fun z => h1 (show m ≥ (10 : Int) ^ (18 : Int).toNat from of_decide_eq_true z)) ?_
        refine ⟨s3, ?_⟩
        rw [filter_snoc _ hm, if_neg (fun z => h1 (of_decide_eq_true z)), List.append_nil]
        exact hz3
    · rintro H3 ⟨s3, hz3⟩
      rw [List.length_map, List.take_length] at hz3
      have hfl := List.length_filter_le (fun x => decide ((10 : Int) ^ 18 ≤ x)) cl
      have hfp : ∀ x ∈ cl.filter fun x => decide ((10 : Int) ^ 18 ≤ x), 0 ≤ x := fun x hx => hpos x (List.mem_filter.mp hx).1
      revert hz3 hfl hfp
      generalize (cl.filter fun x => decide ((10 : Int) ^ 18 ≤ x)) = fl
      intro hz3 hfl hfp
      refine ⟨d2, _, rfl, SqL.of hz3, fun q1 hq1 => ⟨_, rfl, (by show 2 ≤ sizeLine; decide), fun d1 hd1 => ?_⟩⟩
      have sH3 := sH1.trans s3
      have t1 : Same H3 (upd H3 q1 (.lst (fl.map V.int).reverse)) := same_upd hq1
      have t2 := t1.trans (same_upd (o := .lst [.ref q1, .int b]) hd1)
      have n12 : d1 ≠ q1 := fun z => by rw [z, upd_same] at hd1; cases hd1
      refine q _ d1 q1 (sH3.trans t2) (sH3.free (t1.free hd1)) (sH3.free hq1) ⟨b, fl.reverse, upd_same, ?_, fun x hx => hfp x (List.mem_reverse.mp hx), by rw [List.length_reverse]; omega, hb0, hb, n12⟩
      rw [upd_ne (Ne.symm n12), upd_same, List.map_reverse]
end
end K23
namespace K23
open PySem PySem.Spec PyProof.Rows L2
open LamX (Tabs TabB ExtN)
section
variable {P : Program} {w : World} {K : PySem.W.Frag} {mg : Str → Option Value} {base : Heap}
theorem BendAt.ext {R : Kd → List Tr → Va → Prop} {fb : Addr} {H H' : Hp} (B : BendAt P w K mg base R fb H) (e : ExtN H H') : BendAt P w K mg base R fb H' := by
  obtain ⟨qn, ps, b, sc, c', h1, h2, L⟩ := B.ex
  exact ⟨qn, ps, b, sc, c', e _ _ h1 Lm.lamO_ne, e _ _ h2 LamX.codeO_ne, L⟩
/-- bends, all of them -/
def Bs (P : Program) (w : World) (K : PySem.W.Frag) (mg : Str → Option Value) (base : Heap) (fs : List V) (H : Hp) : Prop := ∀ x ∈ fs, ∃ fb, x = .ref fb ∧ BendAt P w K mg base Bent fb H
theorem Bs.nil {H : Hp} : Bs P w K mg base [] H := fun x h => absurd h (by simp)
theorem Bs.add {fs : List V} {H H' : Hp} {f c : Addr} {e : Expr} (B : Bs P w K mg base fs H) (x : ExtN H H') (L : LamOk P w K mg base Bent nm25 e) (hf : H' f = some (Lm.LamO f nm25 (lamP e) (lamB e) (lamS e) c)) (hc : H' c = some (LamX.CodeO c nm25)) : Bs P w K mg base (fs ++ [.ref f]) H' := fun y hy => by
  rcases List.mem_append.mp hy with h | h
  · obtain ⟨fb, e, b⟩ := B y h
    exact ⟨fb, e, b.ext x⟩
  · obtain rfl : y = .ref f := by simpa using h
    exact ⟨f, rfl, nm25, _, _, _, c, hf, hc, L⟩
/-! _law_bends -/
abbrev s25 : Stmt := top 25
theorem sc25 : FnScope [] [] (defScope s25) := ⟨rfl, rfl, rfl, by decide +kernel, rfl, by decide +kernel, by decide +kernel⟩
def sp25 (P : Program) (w : World) (K : PySem.W.Frag) (mg : Str → Option Value) (base : Heap) (T : List (Addr × Str)) : Sp := fun vs H Q _ => vs = [] ∧ Tabs T H ∧ ∀ (H' : Hp) (p : Addr) (fs : List V), ExtN H H' → Tabs T H' → Nw H p → H' p = some (.lst fs) → fs ≠ [] → fs.length ≤ 100 → Bs P w K mg base fs H' → Q (.ref p) H'
set_option maxHeartbeats 2000000 in
theorem ok25 {T : List (Addr × Str)} {f c PB : Addr} {fd : FuncData} (hmT : (PB, nm25) ∈ T) (huT : ∀ p ∈ T, p.1 = PB → p.2 = nm25) (D : DfC K mg "_law_bends" s25 f fd c []) (Z : Zs mg) (TB : TabB base mg c PB) : FnOk P w K mg base CX0 1 f fd [] (sp25 P w K mg base T) := by
  refine D.F.ok sc25 (fun vs H Q E h => ?_) (fun A outer s H vs Q E hr h => ?_)
  · obtain ⟨rfl, _⟩ := h
    rfl
  obtain ⟨rfl, hT, q⟩ := h
  refine ⟨_, pss_one (ps_ret (pe_lst
      (pa_cons (Lm.pe_lam (T := T) (params := lamP (lamE 0)) (body := lamB (lamE 0)) (scope := lamS (lamE 0)) TB rfl (by exact hmT) (fun p hp e => huT p hp e) rfl rfl)
      (pa_cons (Lm.pe_lam (T := T) (params := lamP (lamE 1)) (body := lamB (lamE 1)) (scope := lamS (lamE 1)) TB rfl (by exact hmT) (fun p hp e => huT p hp e) rfl rfl)
      (pa_cons (Lm.pe_lam (T := T) (params := lamP (lamE 2)) (body := lamB (lamE 2)) (scope := lamS (lamE 2)) TB rfl (by exact hmT) (fun p hp e => huT p hp e) rfl rfl)
      (pa_cons (Lm.pe_lam (T := T) (params := lamP (lamE 3)) (body := lamB (lamE 3)) (scope := lamS (lamE 3)) TB rfl (by exact hmT) (fun p hp e => huT p hp e) rfl rfl)
      (pa_cons (Lm.pe_lam (T := T) (params := lamP (lamE 4)) (body := lamB (lamE 4)) (scope := lamS (lamE 4)) TB rfl (by exact hmT) (fun p hp e => huT p hp e) rfl rfl)
      (pa_cons (Lm.pe_lam (T := T) (params := lamP (lamE 5)) (body := lamB (lamE 5)) (scope := lamS (lamE 5)) TB rfl (by exact hmT) (fun p hp e => huT p hp e) rfl rfl)
      (pa_cons (Lm.pe_lam (T := T) (params := lamP (lamE 6)) (body := lamB (lamE 6)) (scope := lamS (lamE 6)) TB rfl (by exact hmT) (fun p hp e => huT p hp e) rfl rfl)
      (pa_cons (Lm.pe_lam (T := T) (params := lamP (lamE 7)) (body := lamB (lamE 7)) (scope := lamS (lamE 7)) TB rfl (by exact hmT) (fun p hp e => huT p hp e) rfl rfl)
      (pa_cons (Lm.pe_lam (T := T) (params := lamP (lamE 8)) (body := lamB (lamE 8)) (scope := lamS (lamE 8)) TB rfl (by exact hmT) (fun p hp e => huT p hp e) rfl rfl)
      (pa_cons (Lm.pe_lam (T := T) (params := lamP (lamE 9)) (body := lamB (lamE 9)) (scope := lamS (lamE 9)) TB rfl (by exact hmT) (fun p hp e => huT p hp e) rfl rfl)
      (pa_cons (Lm.pe_lam (T := T) (params := lamP (lamE 10)) (body := lamB (lamE 10)) (scope := lamS (lamE 10)) TB rfl (by exact hmT) (fun p hp e => huT p hp e) rfl rfl)
      (pa_cons (Lm.pe_lam (T := T) (params := lamP (lamE 11)) (body := lamB (lamE 11)) (scope := lamS (lamE 11)) TB rfl (by exact hmT) (fun p hp e => huT p hp e) rfl rfl)
      (pa_cons (Lm.pe_lam (T := T) (params := lamP (lamE 12)) (body := lamB (lamE 12)) (scope := lamS (lamE 12)) TB rfl (by exact hmT) (fun p hp e => huT p hp e) rfl rfl)
      (pa_cons (Lm.pe_lam (T := T) (params := lamP (lamE 13)) (body := lamB (lamE 13)) (scope := lamS (lamE 13)) TB rfl (by exact hmT) (fun p hp e => huT p hp e) rfl rfl)
      (pa_cons (Lm.pe_lam (T := T) (params := lamP (lamE 14)) (body := lamB (lamE 14)) (scope := lamS (lamE 14)) TB rfl (by exact hmT) (fun p hp e => huT p hp e) rfl rfl)
      (pa_cons (Lm.pe_lam (T := T) (params := lamP (lamE 15)) (body := lamB (lamE 15)) (scope := lamS (lamE 15)) TB rfl (by exact hmT) (fun p hp e => huT p hp e) rfl rfl)
      (pa_cons (Lm.pe_lam (T := T) (params := lamP (lamE 16)) (body := lamB (lamE 16)) (scope := lamS (lamE 16)) TB rfl (by exact hmT) (fun p hp e => huT p hp e) rfl rfl)
      (pa_cons (Lm.pe_lam (T := T) (params := lamP (lamE 17)) (body := lamB (lamE 17)) (scope := lamS (lamE 17)) TB rfl (by exact hmT) (fun p hp e => huT p hp e) rfl rfl)
      pa_nil)))))))))))))))))))), ?_⟩
  refine ⟨hT, fun f0 c0 H0 e0 T0 n0 h0 g0 => ?_⟩
  have B0 := Bs.add (Bs.nil (H := H)) e0 (bend0 (P := P) (w := w) (K := K) (base := base) Z) h0 g0
  have x0 := e0
  refine ⟨T0, fun f1 c1 H1 e1 T1 n1 h1 g1 => ?_⟩
  have B1 := Bs.add B0 e1 (bend1 (P := P) (w := w) (K := K) (base := base) Z) h1 g1
  have x1 := x0.trans e1
  refine ⟨T1, fun f2 c2 H2 e2 T2 n2 h2 g2 => ?_⟩
  have B2 := Bs.add B1 e2 (bend2 (P := P) (w := w) (K := K) (base := base) Z) h2 g2
  have x2 := x1.trans e2
  refine ⟨T2, fun f3 c3 H3 e3 T3 n3 h3 g3 => ?_⟩
  have B3 := Bs.add B2 e3 (bend3 (P := P) (w := w) (K := K) (base := base) Z) h3 g3
  have x3 := x2.trans e3
  refine ⟨T3, fun f4 c4 H4 e4 T4 n4 h4 g4 => ?_⟩
  have B4 := Bs.add B3 e4 (bend4 (P := P) (w := w) (K := K) (base := base) Z) h4 g4
  have x4 := x3.trans e4
  refine ⟨T4, fun f5 c5 H5 e5 T5 n5 h5 g5 => ?_⟩
  have B5 := Bs.add B4 e5 (bend5 (P := P) (w := w) (K := K) (base := base) Z) h5 g5
  have x5 := x4.trans e5
  refine ⟨T5, fun f6 c6 H6 e6 T6 n6 h6 g6 => ?_⟩
  have B6 := Bs.add B5 e6 (bend6 (P := P) (w := w) (K := K) (base := base) Z) h6 g6
  have x6 := x5.trans e6
  refine ⟨T6, fun f7 c7 H7 e7 T7 n7 h7 g7 => ?_⟩
  have B7 := Bs.add B6 e7 (bend7 (P := P) (w := w) (K := K) (base := base) Z) h7 g7
  have x7 := x6.trans e7
  refine ⟨T7, fun f8 c8 H8 e8 T8 n8 h8 g8 => ?_⟩
  have B8 := Bs.add B7 e8 (bend8 (P := P) (w := w) (K := K) (base := base) Z) h8 g8
  have x8 := x7.trans e8
  refine ⟨T8, fun f9 c9 H9 e9 T9 n9 h9 g9 => ?_⟩
  have B9 := Bs.add B8 e9 (bend9 (P := P) (w := w) (K := K) (base := base) Z) h9 g9
  have x9 := x8.trans e9
  refine ⟨T9, fun f10 c10 H10 e10 T10 n10 h10 g10 => ?_⟩
  have B10 := Bs.add B9 e10 (bend10 (P := P) (w := w) (K := K) (base := base) Z) h10 g10
  have x10 := x9.trans e10
  refine ⟨T10, fun f11 c11 H11 e11 T11 n11 h11 g11 => ?_⟩
  have B11 := Bs.add B10 e11 (bend11 (P := P) (w := w) (K := K) (base := base) Z) h11 g11
  have x11 := x10.trans e11
  refine ⟨T11, fun f12 c12 H12 e12 T12 n12 h12 g12 => ?_⟩
  have B12 := Bs.add B11 e12 (bend12 (P := P) (w := w) (K := K) (base := base) Z) h12 g12
  have x12 := x11.trans e12
  refine ⟨T12, fun f13 c13 H13 e13 T13 n13 h13 g13 => ?_⟩
  have B13 := Bs.add B12 e13 (bend13 (P := P) (w := w) (K := K) (base := base) Z) h13 g13
  have x13 := x12.trans e13
  refine ⟨T13, fun f14 c14 H14 e14 T14 n14 h14 g14 => ?_⟩
  have B14 := Bs.add B13 e14 (bend14 (P := P) (w := w) (K := K) (base := base) Z) h14 g14
  have x14 := x13.trans e14
  refine ⟨T14, fun f15 c15 H15 e15 T15 n15 h15 g15 => ?_⟩
  have B15 := Bs.add B14 e15 (bend15 (P := P) (w := w) (K := K) (base := base) Z) h15 g15
  have x15 := x14.trans e15
  refine ⟨T15, fun f16 c16 H16 e16 T16 n16 h16 g16 => ?_⟩
  have B16 := Bs.add B15 e16 (bend16 (P := P) (w := w) (K := K) (base := base) Z) h16 g16
  have x16 := x15.trans e16
  refine ⟨T16, fun f17 c17 H17 e17 T17 n17 h17 g17 => ?_⟩
  have B17 := Bs.add B16 e17 (bend17 (P := P) (w := w) (K := K) (base := base) Z) h17 g17
  have x17 := x16.trans e17
  refine ⟨(by show 18 ≤ sizeLine; decide), fun p hp => ?_⟩
  have s := same_upd (o := .lst [.ref f0, .ref f1, .ref f2, .ref f3, .ref f4, .ref f5, .ref f6, .ref f7, .ref f8, .ref f9, .ref f10, .ref f11, .ref f12, .ref f13, .ref f14, .ref f15, .ref f16, .ref f17]) hp
  have hp0 : Nw H p := fun o hh => by
    by_cases ht : ∃ ps, o = .tbl ps
    · exact ht
    · rw [x17 _ _ hh fun ps z => ht ⟨ps, z⟩] at hp
      cases hp
  exact q _ p _ (x17.trans (.of s)) (T17.ext s) hp0 upd_same (by simp) (by simp) fun y hy => by
    obtain ⟨fb, e, b⟩ := B17 y hy
    exact ⟨fb, e, b.sm s⟩
end
end K23
namespace K23
open PySem PySem.Spec PyProof.Rows L2
open LamX (Tabs TabB ExtN)
/-! ### how deep -/
theorem set_sm {n : Nat} {k : Kd} {l : List Va} {i : Nat} {d : Va} (hl : l.length ≤ 100) (h : ∀ c ∈ l, Sm n c) (hd : Sm n d) : Sm (n + 2) (.tup [.str (kname k), .tup (l.set i d)]) :=
  sm_two (sm_str _ _) (smt.mpr ⟨by rw [List.length_set]; exact hl, fun c hc => by
    rcases mem_set hc with rfl | hc
    · exact hd
    · exact h c hc⟩)
theorem kids_sm {k : Kd} {cs : List Tr} (o : ok (.knot k cs)) {m : Nat} (hm : (lv (.knot k cs)).length ≤ m + 1) (h1 : m + 1 ≤ 100) : (cs.map encV).length ≤ 100 ∧ ∀ c ∈ cs.map encV, Sm (2 * m) c := by
  have hl : cs.length ≤ (lvs cs).length := cs_len (ok_knot o).2
  refine ⟨by rw [List.length_map]; rw [lv_knot] at hm; omega, fun d hd => ?_⟩
  obtain ⟨c, hc, rfl⟩ := List.mem_map.mp hd
  have := len_less o hc
  exact sm_enc c ((ok_knot o).2 c hc) m (by omega) (by omega)
theorem AtL.sm {x : Va} {s : Nat} (hx : Sm s x) : ∀ t : Tr, ok t → ∀ m : Nat, (lv t).length ≤ m → m ≤ 100 → ∀ e : Va, AtL x t e → Sm (2 * m + s) e := Tr.ind (fun n _ m _ _ e h => by
    cases h
    exact hx.mono (by omega)) fun k cs ih o m hm h1 e h => by
  cases h with
  | there hi h =>
    rename_i i c d
    have hc := List.mem_of_getElem? hi
    have hl := len_less o hc
    have hc1 := lv_ne c ((ok_knot o).2 c hc)
    have : 1 ≤ (lv c).length := List.length_pos_iff.mpr hc1
    obtain ⟨j, rfl⟩ : ∃ j, m = j + 1 := ⟨m - 1, by omega⟩
    obtain ⟨k1, k2⟩ := kids_sm o hm h1
    have hd := ih c hc ((ok_knot o).2 c hc) j (by omega) (by omega) d h
    rw [show 2 * (j + 1) + s = 2 * j + s + 2 by omega]
    exact set_sm k1 (fun c hc => (k2 c hc).mono (by omega)) hd
theorem AtK.sm {R : Kd → List Tr → Va → Prop} {s : Nat} (hR : ∀ k cs d, R k cs d → Sm s d) : ∀ t : Tr, ok t → ∀ m : Nat, (lv t).length ≤ m → m ≤ 100 → ∀ e : Va, AtK R t e → Sm (2 * m + s) e := Tr.ind (fun n _ m _ _ e h => by
    cases h) fun k cs ih o m hm h1 e h => by
  cases h with
  | here r => exact (hR _ _ _ r).mono (by omega)
  | there hi h =>
    rename_i i c d
    have hc := List.mem_of_getElem? hi
    have hl := len_less o hc
    have hc1 := lv_ne c ((ok_knot o).2 c hc)
    have : 1 ≤ (lv c).length := List.length_pos_iff.mpr hc1
    obtain ⟨j, rfl⟩ : ∃ j, m = j + 1 := ⟨m - 1, by omega⟩
    obtain ⟨k1, k2⟩ := kids_sm o hm h1
    have hd := ih c hc ((ok_knot o).2 c hc) j (by omega) (by omega) d h
    rw [show 2 * (j + 1) + s = 2 * j + s + 2 by omega]
    exact set_sm k1 (fun c hc => (k2 c hc).mono (by omega)) hd
theorem bd_no {d : Va} (n : ¬ Blt d) (s : Sm 26 d) : Bd d := ⟨s, fun t e g => absurd ⟨t, e, g⟩ n⟩
theorem bd_enc {t : Tr} (o : ok t) (h : (lv t).length ≤ 8) : Bd (encV t) := ⟨(sm_enc t o 8 h (by decide)).mono (by decide), fun u e _ => by rw [← encV_inj t u e]; exact h⟩
/-! ### the law's own values -/
theorem full_no {t : Tr} {x : Int} (h : x ∈ rng (lv t).length) (n : x ∉ lv t) : full t = false := by
  unfold full
  rw [decide_eq_false_iff_not]
  intro e
  rw [← e] at h
  exact n (mem_parts.mp h)
theorem dbl_gd {t : Tr} {r : Nat} (g : gd t) : gd (.knot .bare [t, .leaf (r : Int)]) := gd_knot.mpr ⟨Nat.le_refl 2, fun c hc => by
  rcases List.mem_cons.mp hc with rfl | hc
  · exact g
  · obtain rfl : c = .leaf (r : Int) := by simpa using hc
    exact gd_leaf.mpr (Int.natCast_nonneg r)⟩
theorem dbl_lv (t : Tr) (r : Nat) : lv (.knot .bare [t, .leaf (r : Int)]) = lv t ++ [(r : Int)] := by
  rw [lv_knot]
  simp [lvs, lv]
theorem dbl_full {t : Tr} {n r : Nat} (h : (lv t).Perm (rng n)) (hr : r < n) : full (.knot .bare [t, .leaf (r : Int)]) = false := by
  have hl := h.length_eq
  rw [rng_len] at hl
  refine full_no (x := (n : Int)) ?_ ?_
  · rw [dbl_lv, List.length_append, hl]
    exact mem_rng.mpr ⟨by omega, by simp only [List.length_singleton]; omega⟩
  · rw [dbl_lv]
    intro z
    rcases List.mem_append.mp z with z | z
    · have := (mem_rng.mp (h.mem_iff.mp z)).2
      omega
    · have : (n : Int) = r := by simpa using z
      omega
/-! ### data that == looks at -/
theorem enc_lay : ∀ t : Tr, (enc t).canLay0 = true := Tr.ind (fun n => by simp [enc, PyData.canLay0]) fun k cs ih => by
  have h : PyData.canLayAll0 (cs.map enc) = true := by
    induction cs with
    | nil => simp [PyData.canLayAll0]
    | cons c cs ih2 =>
      simp only [List.map_cons, PyData.canLayAll0, Bool.and_eq_true]
      exact ⟨ih c List.mem_cons_self, ih2 fun d hd => ih d (List.mem_cons_of_mem _ hd)⟩
  have hs : PyData.strOk (kname k) = true := by cases k <;> decide +kernel
  simp [enc, encs_map, PyData.canLay0, PyData.canLayAll0, h, hs]
theorem enc_dep : ∀ t : Tr, ok t → (enc t).depth + 2 ≤ 2 * (lv t).length := Tr.ind (fun n _ => by simp [enc, PyData.depth, lv]) fun k cs ih o => by
  obtain ⟨h2, hc⟩ := ok_knot o
  have hb : ∀ c ∈ cs, (enc c).depth + 4 ≤ 2 * (lv (.knot k cs)).length := fun c hcm => by
    have := ih c hcm (hc c hcm)
    have := len_less o hcm
    omega
  have hl : 4 ≤ 2 * (lv (.knot k cs)).length := by
    match cs, h2 with
    | c :: cs, _ =>
      have := hb c List.mem_cons_self
      omega
  have h : PyData.depthAll (cs.map enc) + 4 ≤ 2 * (lv (.knot k cs)).length := by
    generalize 2 * (lv (.knot k cs)).length = M at hb hl
    clear ih o h2 hc
    induction cs with
    | nil => simp [PyData.depthAll]; omega
    | cons c cs ih2 =>
      have h1 := hb c List.mem_cons_self
      have h2 := ih2 fun d hd => hb d (List.mem_cons_of_mem _ hd)
      simp only [List.map_cons, PyData.depthAll]
      omega
  simp only [enc, encs_map, PyData.depth, PyData.depthAll]
  omega
theorem okd_enc {t : Tr} (o : ok t) (h : (lv t).length ≤ 8) : okd (enc t) := ⟨enc_lay t, by have := enc_dep t o; omega⟩
theorem shaped_ok {x : PyData} (h : okd x) : SeqAt.shaped x = true := by
  obtain ⟨h1, h2⟩ := h
  show (x.canLay0 && decide (x.depth ≤ 64)) = true
  rw [Bool.and_eq_true]
  exact ⟨h1, decide_eq_true (by omega)⟩
theorem okd_lot (L : List Int) : okd (lotD L) := by
  refine ⟨by unfold lotD; rw [PyData.canLay0]; exact lay_ints L, ?_⟩
  unfold lotD
  rw [PyData.depth, dep_ints]
  decide
theorem lots_ok (Ls : List (List Int)) : ∀ x ∈ Ls.map lotD, okd x := fun x hx => by
  obtain ⟨L, _, rfl⟩ := List.mem_map.mp hx
  exact okd_lot L
theorem lots_dep (Ls : List (List Int)) : PyData.depthAll (Ls.map lotD) ≤ 1 := by
  induction Ls with
  | nil => simp [PyData.depthAll]
  | cons L Ls ih =>
    have : (lotD L).depth = 1 := by unfold lotD; rw [PyData.depth, dep_ints]
    simp only [List.map_cons, PyData.depthAll]
    omega
theorem okd_lots (Ls : List (List Int)) : okd (lotsD Ls) := by
  obtain ⟨h1, h2⟩ := lay_all (lots_ok Ls)
  unfold lotsD
  refine ⟨by rw [PyData.canLay0]; exact h1, ?_⟩
  have := lots_dep Ls
  rw [PyData.depth]
  omega
theorem okd_kn (k : Kd) (Ls : List (List Int)) : okd (knD k Ls) := by
  obtain ⟨h1, _⟩ := okd_lots Ls
  have hd : (lotsD Ls).depth ≤ 2 := by
    have := lots_dep Ls
    unfold lotsD
    rw [PyData.depth]
    omega
  unfold knD
  have hs : PyData.strOk (kname k) = true := by cases k <;> decide +kernel
  refine ⟨by simp [PyData.canLay0, PyData.canLayAll0, h1, hs], ?_⟩
  simp only [PyData.depth, PyData.depthAll]
  omega
theorem any_lots (Ls : List (List Int)) (L : List Int) : ((Ls.map lotD).any fun z => PyData.eqv z (lotD L)) = decide (L ∈ Ls) := by
  induction Ls with
  | nil => simp
  | cons M Ls ih =>
    rw [List.map_cons, List.any_cons, ih, eqv_lot]
    by_cases e : M = L
    · simp [e]
    · by_cases e2 : L ∈ Ls
      · simp [e2]
      · simp [e, e2, Ne.symm e]
theorem eqv_empty (L : List Int) : PyData.eqv (lotD L) (.tuple []) = decide (L = []) := eqv_lot L []
theorem dts_mem {α : Type} {H : Hp} {e : α → PyData} {vs : List V} {zs : List α} (h : Dts H vs (zs.map e)) {v : V} (hv : v ∈ vs) : ∃ z ∈ zs, Dt H v (e z) := by
  obtain ⟨i, hi⟩ := List.getElem?_of_mem hv
  obtain ⟨x, hx, hd⟩ := h.get hi
  rw [List.getElem?_map] at hx
  cases hz : zs[i]? with
  | none => rw [hz] at hx; simp at hx
  | some z =>
    rw [hz] at hx
    obtain rfl : e z = x := Option.some.inj hx
    exact ⟨z, List.mem_of_getElem? hz, hd⟩
theorem dts_at {α : Type} {H : Hp} {e : α → PyData} {vs : List V} {zs : List α} (h : Dts H vs (zs.map e)) {i : Nat} {v : V} (hv : vs[i]? = some v) : ∃ z, zs[i]? = some z ∧ z ∈ zs ∧ Dt H v (e z) := by
  obtain ⟨x, hx, hd⟩ := h.get hv
  rw [List.getElem?_map] at hx
  cases hz : zs[i]? with
  | none => rw [hz] at hx; simp at hx
  | some z =>
    rw [hz] at hx
    obtain rfl : e z = x := Option.some.inj hx
    exact ⟨z, rfl, List.mem_of_getElem? hz, hd⟩
theorem dt_kt {H : Hp} {v : V} {z : List Int × Kd × List (List Int)} (h : Dt H v (ktD z)) : ∃ p l u, v = .ref p ∧ H p = some (.tup [.ref l, .str (kname z.2.1), u]) ∧ H l = some (.tup (z.1.map V.int)) ∧ Dt H u (lotsD z.2.2) := by
  obtain ⟨a, xs, rfl, ha, t⟩ := h.tup_of
  cases t with
  | cons h1 t =>
    cases t with
    | cons h2 t =>
      cases t with
      | cons h3 t =>
        cases t
        cases h2
        obtain ⟨b, rfl, hb⟩ := dt_lot h1
        exact ⟨a, b, _, rfl, ha, hb, h3⟩
/-! ### the law's lambda, its defs -/
abbrev nm27 : Str := "law" ++ ".<locals>." ++ "<lambda>"
structure Lw (K : PySem.W.Frag) (w : World) (mg : Str → Option Value) (a : Nat → Addr) (d : Nat → FuncData) (cT cB cL : Addr) : Prop where
  T : Pr K w mg a d
  d14 : Df K mg "_law_deal" (top 14) (a 14) (d 14) ["script", "base"]
  d15 : Df K mg "_law_draw" (top 15) (a 15) (d 15) ["deal", "bound"]
  d16 : Df K mg "_law_pick" (top 16) (a 16) (d 16) ["deal", "some"]
  d17 : Df K mg "_law_mixed" (top 17) (a 17) (d 17) ["deal", "things"]
  d18 : Df K mg "_law_leaves" (top 18) (a 18) (d 18) ["shape"]
  d19 : DfC K mg "_law_told" (top 19) (a 19) (d 19) cT ["kind", "children"]
  d20 : Df K mg "_law_shape" (top 20) (a 20) (d 20) ["deal", "parts"]
  d21 : Df K mg "_law_knots" (top 21) (a 21) (d 21) ["shape"]
  d22 : Df K mg "_law_at_leaf" (top 22) (a 22) (d 22) ["deal", "shape", "value"]
  d23 : Df K mg "_law_at_knot" (top 23) (a 23) (d 23) ["deal", "shape", "bend"]
  d24 : Df K mg "_law_wrong" (top 24) (a 24) (d 24) ["value"]
  d25 : DfC K mg "_law_bends" (top 25) (a 25) (d 25) cB []
  d26 : Df K mg "_law_is_refused" (top 26) (a 26) (d 26) ["value", "due"]
theorem passE0 {P : Program} {w : World} {X : Cx} : Passes (L2.CX P w) X E0 := fun _ _ _ _ _ _ _ h => by
  obtain ⟨_, _, _, _, _, _, _, _, _, _, _, _, hE⟩ := h
  exact hE.elim
/-! ### what stays while the law runs -/
structure Stay (d q : Addr) (T : List (Addr × Str)) (sv : V) (t : Tr) (H : Hp) : Prop where
  D : DealAt d q H
  T : Tabs T H
  v : Dt H sv (enc t)
theorem Stay.sm {d q : Addr} {T : List (Addr × Str)} {sv : V} {t : Tr} {H H' : Hp} (a : Stay d q T sv t H) (s : Same H H') : Stay d q T sv t H' := ⟨a.D.sm s, a.T.ext s, a.v.sm s⟩
theorem Stay.dq {d q : Addr} {T : List (Addr × Str)} {sv : V} {t : Tr} {H H' : Hp} (a : Stay d q T sv t H) (D : DealAt d q H') (k : Dq d q H H') : Stay d q T sv t H' := ⟨D, tabs_dq a.D a.T k, a.v.kp (a.D.kp k)⟩
theorem deal_ext {d q : Addr} {H H' : Hp} (D : DealAt d q H) (e : ExtN H H') : DealAt d q H' := by
  obtain ⟨b, ds, h1, h2, r⟩ := D
  exact ⟨b, ds, e _ _ h1 (fun _ z => by cases z), e _ _ h2 (fun _ z => by cases z), r⟩
theorem Stay.ext {d q : Addr} {T : List (Addr × Str)} {sv : V} {t : Tr} {H H' : Hp} (a : Stay d q T sv t H) (e : ExtN H H') (T' : Tabs T H') : Stay d q T sv t H' := ⟨deal_ext a.D e, T', a.v.kp (kp_ext e)⟩
theorem Nw.ne {d q l : Addr} {H : Hp} (h : Nw H l) (D : DealAt d q H) : l ≠ d ∧ l ≠ q := by
  obtain ⟨b, ds, h1, h2, r⟩ := D
  refine ⟨fun z => ?_, fun z => ?_⟩
  · obtain ⟨ps, e⟩ := h _ (by rw [z]; exact h1)
    cases e
  · obtain ⟨ps, e⟩ := h _ (by rw [z]; exact h2)
    cases e
section
variable {P : Program} {w : World} {K : PySem.W.Frag} {mg : Str → Option Value} {base : Heap} {a : Nat → Addr} {d : Nat → FuncData}
/-- lambda knot: (knot[0], knot[1][::-1]) -/
def lamT : Expr := match defBody (top 27) with
  | b => match b.getD 16 (.Pass ⟨0, 0, 0, 0⟩) with
    | .Assign _ (.Call _ es _ _) _ => es.getD 2 (.Constant .none 0 ⟨0, 0, 0, 0⟩)
    | _ => .Constant .none 0 ⟨0, 0, 0, 0⟩
theorem turnedOk : LamOk P w K mg base Rev nm27 lamT := by
  refine Lm.lm_of (N := ["knot"]) (ps := ["knot"]) ⟨rfl, rfl, rfl, by decide +kernel, rfl, by decide +kernel, by decide +kernel⟩ spB_len (fun cl pm cv ct us hl => match us, hl with | [u], _ => rfl) fun A outer s H f c' vs Q hr h => ?_
  obtain ⟨v, k, cs, rfl, hd, g, hl, q⟩ := h
  obtain ⟨a, b, xs, rfl, ha, hb, hxs⟩ := dt_knot hd
  have hxv : Vds H xs (cs.map encV) := dts_vds (fun c _ v => dt_vd c v) hxs
  refine ⟨_, pe_tup (pa_cons (pe_ix ix_tup (pv 0) pe_int (fun _ _ => rfl)) (pa_cons (pe_revT (pe_ix ix_tup (pv 0) pe_int (fun _ _ => rfl))) pa_nil)), ?_⟩
  refine ⟨_, rfl, a, _, 0, .str (kname k), rfl, rfl, SqT.of ha, rfl, _, rfl, a, _, 1, .ref b, rfl, rfl, SqT.of ha, rfl, b, xs, rfl, SqT.of hb, fun p1 hp1 => ⟨(by show 2 ≤ sizeLine; decide), fun p2 hp2 => ?_⟩⟩
  have s1 := same_upd (o := .tup xs.reverse) hp1
  have s2 := same_upd (o := .tup [.str (kname k), .ref p1]) hp2
  refine q _ _ (encV (.knot k cs.reverse)) (s1.trans s2) ?_ rfl
  rw [encV_knot, List.map_reverse]
  exact vd_made upd_same (s2 _ _ upd_same) ((hxv.rev.sm s1).sm s2)
end
end K23
namespace K23
open PySem PySem.Spec PyProof.Rows L2
open LamX (Tabs TabB ExtN)
theorem swp2 {A B : Type} {N : A → B → Prop} {S : A → Prop} {G : Prop} (a : (∀ x y, S x → N x y) → G) (b : ∀ x y, S x → N x y) : G := a b
theorem AtL.sm' {x : Va} {s m : Nat} {t : Tr} {e : Va} (h : AtL x t e) (hx : Sm s x) (o : ok t) (hm : m ≤ 6) (hl : (lv t).length = m) : Sm (12 + s) e := AtL.sm hx t o 6 (by omega) (by decide) e h
theorem kl_ext {H H' : Hp} (e : ExtN H H') : Kl H H' := fun b o h n => .inl (e b o h n)
section
variable {P : Program} {w : World} {K : PySem.W.Frag} {mg : Str → Option Value} {base : Heap} {a : Nat → Addr} {d : Nat → FuncData}
abbrev s27 : Stmt := top 27
abbrev N27 : List Str := ["script", "deal", "many", "shape", "knots", "lot", "kind", "lots", "strong", "turn", "child", "value", "bent", "turned", "double", "part", "own"]
theorem sc27 : FnScope N27 ["script"] (defScope s27) := ⟨rfl, rfl, rfl, by decide +kernel, rfl, by decide +kernel, by decide +kernel⟩
def sp27 (K : PySem.W.Frag) (T : List (Addr × Str)) : Sp := fun vs H Q _ => ∃ (a : Addr) (ns : List Int), vs = [.ref a] ∧ SqL K H a (ns.map V.int) ∧ ns.length ≤ 63 ∧ Tabs T H ∧ ∀ H', Q (.bl true) H'
set_option maxHeartbeats 4000000 in
theorem ok27 {T : List (Addr × Str)} {f cT PT cB PB cL PL : Addr} {fd : FuncData} (F : FunC K "law" s27 f fd cL) (W : Lw K w mg a d cT cB cL) (TT : TabB base mg cT PT) (TB : TabB base mg cB PB) (TL : TabB base mg cL PL)
    (mT : (PT, nm19) ∈ T) (uT : ∀ p ∈ T, p.1 = PT → p.2 = nm19) (mB : (PB, nm25) ∈ T) (uB : ∀ p ∈ T, p.1 = PB → p.2 = nm25) (mL : (PL, nm27) ∈ T) (uL : ∀ p ∈ T, p.1 = PL → p.2 = nm27) :
    FnOk P w K mg base CX0 19 f fd ["script"] (sp27 K T) := by
  have Z := W.T.Z
  have G2 : FnOk P w K mg base CX0 9 (a 2) (d 2) ["shape"] (sp2 8) := ok2 W.T.d2 W.T.d1 W.T.du Z 8
  have G4 : FnOk P w K mg base CX0 10 (a 4) (d 4) ["shape"] (sp4 8) := ok4 W.T.d4 W.T.d1 W.T.du W.T.d2 W.T.d3 Z
  have G8 : FnOk P w K mg base (L2.CX P w) 16 (a 8) (d 8) ["value"] (sp8 (a 12)) := ok8 W.T
  have G9 : FnOk P w K mg base CX0 17 (a 9) (d 9) ["value"] sp9 := ok9 W.T
  have G10 : FnOk P w K mg base CX0 10 (a 10) (d 10) ["shape", "lot"] (sp10 K) := ok10 W.T
  have G14 : FnOk P w K mg base CX0 1 (a 14) (d 14) ["script", "base"] (sp14 K) := ok14 W.d14 Z
  have G15 : FnOk P w K mg base CX0 1 (a 15) (d 15) ["deal", "bound"] sp15 := ok15 W.d15 Z
  have G16 : FnOk P w K mg base CX0 2 (a 16) (d 16) ["deal", "some"] (sp16 K) := ok16 W.d16 W.d15 Z
  have G18 : FnOk P w K mg base CX0 9 (a 18) (d 18) ["shape"] (sp18 8) := ok18 W.d18 Z 8
  have G20 : FnOk P w K mg base CX0 9 (a 20) (d 20) ["deal", "parts"] (sp20 K T 6) := ok20 W.d20 W.d15 W.d16 W.d17 W.d18 W.d19 Z TT mT uT 6
  have G21 : FnOk P w K mg base CX0 8 (a 21) (d 21) ["shape"] (sp21 6) := ok21 W.d21 W.d18 Z 6
  have G22 : FnOk P w K mg base CX0 8 (a 22) (d 22) ["deal", "shape", "value"] (sp22 7) := ok22 W.d22 W.d15 Z 7
  have G23 : FnOk P w K mg base CX0 8 (a 23) (d 23) ["deal", "shape", "bend"] (sp23 P w K mg base Bent 6) := ok23 W.d23 W.d15 W.d16 Z 6
  have G23b : FnOk P w K mg base CX0 8 (a 23) (d 23) ["deal", "shape", "bend"] (sp23 P w K mg base Rev 6) := ok23 W.d23 W.d15 W.d16 Z 6
  have G25 : FnOk P w K mg base CX0 1 (a 25) (d 25) [] (sp25 P w K mg base T) := ok25 mB uB W.d25 Z TB
  have G26 : FnOk P w K mg base CX0 18 (a 26) (d 26) ["value", "due"] sp26 := ok26 W.d26 W.d24 W.T
  have b2 := kbinds W.T.d2.F (ps := ["shape"]) (by simp) fun _ _ _ _ _ _ ws hl => match ws, hl with | [_], _ => rfl
  have b8 := kbinds W.T.d8.F (ps := ["value"]) (by simp) fun _ _ _ _ _ _ ws hl => match ws, hl with | [_], _ => rfl
  have b9 := kbinds W.T.d9.F (ps := ["value"]) (by simp) fun _ _ _ _ _ _ ws hl => match ws, hl with | [_], _ => rfl
  have b10 := kbinds W.T.d10.F (ps := ["shape", "lot"]) (by simp) fun _ _ _ _ _ _ ws hl => match ws, hl with | [_, _], _ => rfl
  refine F.ok sc27 (fun vs H Q E h => ?_) (fun A outer s H vs Q E hr h => ?_)
  · obtain ⟨a, ns, rfl, _⟩ := h
    rfl
  obtain ⟨a0, ns, rfl, ha0, hl, hT, q⟩ := h
  have r1 : Room 1 _ := hr.mono (by decide)
  have r2 : Room 2 _ := hr.mono (by decide)
  have r8 : Room 8 _ := hr.mono (by decide)
  have r9 : Room 9 _ := hr.mono (by decide)
  have r10 : Room 10 _ := hr.mono (by decide)
  have r16 : Room 16 _ := hr.mono (by decide)
  have r17 : Room 17 _ := hr.mono (by decide)
  have hu := hr.units
  have hu65 := lt65 hr
  refine ⟨_, pss_cons (ps_set (i := 1) sc27.nd rfl (.inr rfl) (pe_call G14 r1 rfl W.d14.g W.d14.F.kp W.d14.b .nil pass0 (pa_cons (pv 0) (pa_cons pe_int pa_nil))))
    (pss_cons (ps_set (i := 2) sc27.nd rfl (.inl rfl) (pe_op op_add pe_int (pe_call G15 r1 rfl W.d15.g W.d15.F.kp W.d15.b .nil pass0 (pa_cons (pv 1) (pa_cons pe_int pa_nil)))))
    (pss_cons (ps_set (i := 3) sc27.nd rfl (.inl rfl) (pe_call G20 r9 rfl W.d20.g W.d20.F.kp W.d20.b .nil pass0 (pa_cons (pv 1) (pa_cons (pe_listRg rfl rfl Z.lst (prg_1 rfl Z.rng (pv 2))) pa_nil))))
    (pss_cons (ps_if (PW.pt (pw_or (pt_cmpR (op_neD hu) (pe_call G8 r16 rfl W.T.d8.g W.T.d8.F.kp W.T.d8.b .nil passE0 (pa_cons (pv 3) pa_nil)) (pv 3) (nomark _))
        (pw_or (pt_cmpR op_isnot_bl (pe_callK0 G9 r17 rfl W.T.d9.g W.T.d9.F.kp b9 pass0 (pk_cons (pv 3) pk_nil)) pe_bl (nomark _))
        (pw_or1 (pt_cmpR (op_neD hu) (pe_call G2 r9 rfl W.T.d2.g W.T.d2.F.kp W.T.d2.b .nil pass0 (pa_cons (pv 3) pa_nil)) (pe_tupRg rfl rfl Z.tup (prg_1 rfl Z.rng (pv 2))) (nomark _)))))) (pss_one (ps_ret pe_bl)) pss_nil)
    (pss_cons (ps_set (i := 4) sc27.nd rfl (.inl rfl) (pe_call G21 r8 rfl W.d21.g W.d21.F.kp W.d21.b .nil pass0 (pa_cons (pv 3) pa_nil)))
    (pss_cons (ps_set (i := 8) sc27.nd rfl (.inl rfl) (pe_op op_cat
        (pe_lc (own := [("part", 15)]) (g := gName 15) (tt := tYes) rfl sc27.nd (pi_range1 rfl Z.rng (pa_cons (pv 2) pa_nil)) (blkOk_by (N := N27) (sc := defScope s27) (by decide +kernel))
          (fun _ _ _ _ _ => pg_name (i := 15) sc27.nd rfl (.inl rfl)) (fun _ _ _ _ _ => pts_nil) (fun _ _ _ _ _ => pe_tup (pa_cons (pv 15) pa_nil)))
        (pe_lc (own := [("lot", 5), ("kind", 6), ("lots", 7)]) (g := gTup K 3 (gCons (gName 5) (gCons (gName 6) (gCons (gName 7) gNil)))) (tt := tYes) rfl sc27.nd (pi_list (pv 4)) (blkOk_by (N := N27) (sc := defScope s27) (by decide +kernel))
          (fun _ _ _ _ _ => pg_tup rfl (pgs_cons (pg_name (i := 5) sc27.nd rfl (.inl rfl)) (pgs_cons (pg_name (i := 6) sc27.nd rfl (.inl rfl)) (pgs_cons (pg_name (i := 7) sc27.nd rfl (.inl rfl)) pgs_nil)))) (fun _ _ _ _ _ => pts_nil) (fun _ _ _ _ _ => pv 5))))
    (pss_cons (ps_if (pt_cmpR (op_neD hu) (pe_call G4 r10 rfl W.T.d4.g W.T.d4.F.kp W.T.d4.b .nil pass0 (pa_cons (pv 3) pa_nil)) (pe_callTy call_tuple_of rfl Z.tup (by decide +kernel) (pa_cons (pe_callB (cr_sortTI (lt2 hr)) rfl Z.sorted boot_sorted (pa_cons (pv 8) pa_nil)) pa_nil)) (nomark _)) (pss_one (ps_ret pe_bl)) pss_nil)
    (pss_cons (ps_for PassesOwn.never rfl (pi_list (pv 4)) (pg_tup rfl (pgs_cons (pg_name (i := 5) sc27.nd rfl (.inl rfl)) (pgs_cons (pg_name (i := 6) sc27.nd rfl (.inl rfl)) (pgs_cons (pg_name (i := 7) sc27.nd rfl (.inl rfl)) pgs_nil))))
      (pss_one (ps_if (PW.pt (pw_or (pt_cmpR (op_neD hu) (pe_call G10 r10 rfl W.T.d10.g W.T.d10.F.kp W.T.d10.b .nil pass0 (pa_cons (pv 3) (pa_cons (pv 5) pa_nil))) (pe_tup (pa_cons (pv 6) (pa_cons (pv 7) pa_nil))) (nomark _))
          (pw_or1 (pt_cmpR (op_neD hu) (pe_call G10 r10 rfl W.T.d10.g W.T.d10.F.kp W.T.d10.b .nil pass0 (pa_cons (pv 3) (pa_cons (pe_callTy call_list_of rfl Z.lst (by decide +kernel) (pa_cons (pv 5) pa_nil)) pa_nil))) (pe_tup (pa_cons (pv 6) (pa_cons (pv 7) pa_nil))) (nomark _))))) (pss_one (ps_ret pe_bl)) pss_nil)))
    (pss_cons (ps_for PassesOwn.never rfl (pi_range1 rfl Z.rng (pa_cons pe_int pa_nil)) (pg_name (i := 9) sc27.nd rfl (.inl rfl))
      (pss_cons (ps_set (i := 5) sc27.nd rfl (.inl rfl) (pe_callTy call_tuple_of rfl Z.tup (by decide +kernel) (pa_cons
        (pe_lc (own := [("part", 15)]) (g := gName 15) rfl sc27.nd (pi_range1 rfl Z.rng (pa_cons (pv 2) pa_nil)) (blkOk_by (N := N27) (sc := defScope s27) (by decide +kernel))
          (fun _ _ _ _ _ => pg_name (i := 15) sc27.nd rfl (.inl rfl)) (fun _ _ _ _ _ => pts_one (pt_cmpR op_eq (pe_call G15 r1 rfl W.d15.g W.d15.F.kp W.d15.b .nil pass0 (pa_cons (pv 1) (pa_cons pe_int pa_nil))) pe_int (nomark _))) (fun _ _ _ _ _ => pv 15)) pa_nil)))
      (pss_one (ps_if (PW.pt (pw_and (pt_cmpR (op_notInD hu65) (pv 5)
            (pe_lc (own := [("own", 16), ("kind", 6), ("lots", 7)]) (g := gTup K 3 (gCons (gName 16) (gCons (gName 6) (gCons (gName 7) gNil)))) (tt := tYes) rfl sc27.nd (pi_list (pv 4)) (blkOk_by (N := N27) (sc := defScope s27) (by decide +kernel))
              (fun _ _ _ _ _ => pg_tup rfl (pgs_cons (pg_name (i := 16) sc27.nd rfl (.inl rfl)) (pgs_cons (pg_name (i := 6) sc27.nd rfl (.inl rfl)) (pgs_cons (pg_name (i := 7) sc27.nd rfl (.inl rfl)) pgs_nil)))) (fun _ _ _ _ _ => pts_nil) (fun _ _ _ _ _ => pv 16))
            (by with_unfolding_all rfl))
          (pw_and (pt_cmpR (op_neD hu) (pv 5) (pe_tup pa_nil) (nomark _))
          (pw_and1 (pt_cmpR op_notN (pe_callK0 G10 r10 rfl W.T.d10.g W.T.d10.F.kp b10 pass0 (pk_cons (pv 3) (pk_cons (pv 5) pk_nil))) pe_non (nomark _)))))) (pss_one (ps_ret pe_bl)) pss_nil))))
    (pss_cons (ps_if (pt_not (pt_truth (pe_callB call_isi rfl Z.isi (by decide +kernel) (pa_cons (pv 3) (pa_cons (pe_bltn (v := .ty "int") rfl Z.int (by decide +kernel) rfl) pa_nil))) (fun _ => rfl)))
      (pss_cons (ps_set (i := 10) sc27.nd rfl (.inl rfl) (pe_call G16 r2 rfl W.d16.g W.d16.F.kp W.d16.b .nil pass0 (pa_cons (pv 1) (pa_cons (pe_ix ix_tup (pv 3) pe_int (fun _ _ => rfl)) pa_nil))))
      (pss_one (ps_if (pt_cmpR (op_neD hu) (pe_callK0 G2 r9 rfl W.T.d2.g W.T.d2.F.kp b2 pass0 (pk_cons (pv 10) pk_nil)) (pe_callTy call_tuple_of rfl Z.tup (by decide +kernel) (pa_cons (pe_callB cr_sortedI rfl Z.sorted boot_sorted (pa_cons
          (pe_call G18 r9 rfl W.d18.g W.d18.F.kp W.d18.b .nil pass0 (pa_cons (pv 10) pa_nil)) pa_nil)) pa_nil)) (nomark _)) (pss_one (ps_ret pe_bl)) pss_nil))) pss_nil)
    (pss_cons (ps_set (i := 11) sc27.nd rfl (.inl rfl) (pe_call G16 r2 rfl W.d16.g W.d16.F.kp W.d16.b .nil pass0 (pa_cons (pv 1) (pa_cons (pe_lst (pa_cons pe_bl (pa_cons pe_bl (pa_cons pe_non (pa_cons pe_str (pa_cons (pe_op op_sub pe_int pe_int)
        (pa_cons (pe_tup (pa_cons pe_int pa_nil)) (pa_cons (pe_tup pa_nil) (pa_cons (pe_lst (pa_cons pe_int pa_nil)) (pa_cons pe_str (pa_cons (pe_tup (pa_cons pe_str (pa_cons pe_int pa_nil))) (pa_cons (pe_op op_sub pe_int (pe_op op_pow pe_int pe_int)) pa_nil)))))))))))) pa_nil))))
    (pss_cons (ps_if (pt_not (pt_truth (pe_call G26 hr rfl W.d26.g W.d26.F.kp W.d26.b .nil pass0 (pa_cons (pe_call G22 r8 rfl W.d22.g W.d22.F.kp W.d22.b .nil pass0 (pa_cons (pv 1) (pa_cons (pv 3) (pa_cons (pv 11) pa_nil)))) (pa_cons pe_str pa_nil))) (fun _ => rfl))) (pss_one (ps_ret pe_bl)) pss_nil)
    (pss_cons (ps_set (i := 11) sc27.nd rfl (.inl rfl) (pe_call G16 r2 rfl W.d16.g W.d16.F.kp W.d16.b .nil pass0 (pa_cons (pv 1) (pa_cons (pe_lst (pa_cons (pv 2) (pa_cons (pe_op op_add (pe_op op_add (pv 2) pe_int)
        (pe_call G15 r1 rfl W.d15.g W.d15.F.kp W.d15.b .nil pass0 (pa_cons (pv 1) (pa_cons pe_int pa_nil)))) (pa_cons (pe_op op_pow pe_int pe_int) pa_nil)))) pa_nil))))
    (pss_cons (ps_if (pt_not (pt_truth (pe_call G26 hr rfl W.d26.g W.d26.F.kp W.d26.b .nil pass0 (pa_cons (pe_call G22 r8 rfl W.d22.g W.d22.F.kp W.d22.b .nil pass0 (pa_cons (pv 1) (pa_cons (pv 3) (pa_cons (pv 11) pa_nil)))) (pa_cons pe_str pa_nil))) (fun _ => rfl))) (pss_one (ps_ret pe_bl)) pss_nil)
    (pss_cons (ps_if (pt_cmpR op_eq (pv 2) pe_int (nomark _)) (pss_one (ps_ret pe_bl)) pss_nil)
    (pss_cons (ps_set (i := 12) sc27.nd rfl (.inl rfl) (pe_call G23 r8 rfl W.d23.g W.d23.F.kp W.d23.b .nil pass0 (pa_cons (pv 1) (pa_cons (pv 3) (pa_cons (pe_call G16 r2 rfl W.d16.g W.d16.F.kp W.d16.b .nil pass0 (pa_cons (pv 1) (pa_cons
        (pe_call0 G25 r1 rfl W.d25.g W.d25.F.kp W.d25.b .nil pass0) pa_nil))) pa_nil)))))
    (pss_cons (ps_set (i := 13) sc27.nd rfl (.inl rfl) (pe_call G23b r8 rfl W.d23.g W.d23.F.kp W.d23.b .nil pass0 (pa_cons (pv 1) (pa_cons (pv 3) (pa_cons
        (Lm.pe_lam (T := T) (params := lamP lamT) (body := lamB lamT) (scope := lamS lamT) TL rfl (by exact mL) (fun p hp e => uL p hp e) rfl rfl) pa_nil)))))
    (pss_cons (ps_if (PW.pt (pw_or (pt_not (pt_truth (pe_call G26 hr rfl W.d26.g W.d26.F.kp W.d26.b .nil pass0 (pa_cons (pv 12) (pa_cons pe_str pa_nil))) (fun _ => rfl)))
        (pw_or1 (pt_not (pt_truth (pe_call G26 hr rfl W.d26.g W.d26.F.kp W.d26.b .nil pass0 (pa_cons (pv 13) (pa_cons pe_str pa_nil))) (fun _ => rfl)))))) (pss_one (ps_ret pe_bl)) pss_nil)
    (pss_cons (ps_if (pt_not (pt_truth (pe_call G26 hr rfl W.d26.g W.d26.F.kp W.d26.b .nil pass0 (pa_cons (pe_call G22 r8 rfl W.d22.g W.d22.F.kp W.d22.b .nil pass0 (pa_cons (pv 1) (pa_cons (pv 13) (pa_cons (pv 11) pa_nil)))) (pa_cons pe_str pa_nil))) (fun _ => rfl))) (pss_one (ps_ret pe_bl)) pss_nil)
    (pss_cons (ps_set (i := 14) sc27.nd rfl (.inl rfl) (pe_tup (pa_cons pe_str (pa_cons (pe_tup (pa_cons (pv 3) (pa_cons (pe_call G15 r1 rfl W.d15.g W.d15.F.kp W.d15.b .nil pass0 (pa_cons (pv 1) (pa_cons (pv 2) pa_nil))) pa_nil))) pa_nil))))
    (pss_cons (ps_if (PW.pt (pw_or (pt_not (pt_truth (pe_call G26 hr rfl W.d26.g W.d26.F.kp W.d26.b .nil pass0 (pa_cons (pv 14) (pa_cons pe_str pa_nil))) (fun _ => rfl)))
        (pw_or1 (pt_not (pt_truth (pe_call G26 hr rfl W.d26.g W.d26.F.kp W.d26.b .nil pass0 (pa_cons (pe_call G22 r8 rfl W.d22.g W.d22.F.kp W.d22.b .nil pass0 (pa_cons (pv 1) (pa_cons (pv 14) (pa_cons pe_non pa_nil)))) (pa_cons pe_str pa_nil))) (fun _ => rfl)))))) (pss_one (ps_ret pe_bl)) pss_nil)
    (pss_one (ps_ret (pe_and (pe_cmpR (op_eqD hu) (pe_callK0 G8 r16 rfl W.T.d8.g W.T.d8.F.kp b8 passE0 (pk_cons (pv 3) pk_nil)) (pv 3) (nomark _))
        (pe_one (pe_call G9 r17 rfl W.T.d9.g W.T.d9.F.kp W.T.d9.b .nil pass0 (pa_cons (pv 3) pa_nil)))))))))))))))))))))))))), ?_⟩
  refine ⟨_, rfl, a0, ns, rfl, ha0, hl, fun H1 dl ql s1 hd1 hq1 D1 => ?_⟩
  have T1 := hT.ext s1
  refine ⟨_, rfl, dl, ql, 6, rfl, D1, by decide, by decide, fun r H2 hr6 D2 k2 => ⟨_, _, rfl, rfl, ?_⟩⟩
  have T2 := tabs_dq D1 T1 k2
  dsimp only
  rw [show (1 : Int) + (r : Int) = ((r + 1 : Nat) : Int) by omega]
  obtain ⟨m, em⟩ : ∃ m, m = r + 1 := ⟨_, rfl⟩
  rw [← em]
  have hm0 : 0 < m := by omega
  have hm6 : m ≤ 6 := by omega
  clear em
  refine ⟨_, rfl, _, rfl, _, rfl, RgOk.of_le (by omega) (by omega) (by omega) (by omega), fun p hp => ?_⟩
  rw [rg_range]
  have s3 : Same H2 (upd H2 p (.lst ((ixs (List.range m)).map V.int))) := same_upd hp
  have np := D2.ne hp
  refine ⟨dl, ql, p, rng m, rfl, D2.sm s3, T2.ext s3, SqL.of upd_same, ?_, ss_nd (rng_ss m), (fun x hx => (mem_rng.mp hx).1), ?_, by decide, np.1, np.2, fun H4 sv t g4 hv4 hg hsr hpm => ?_⟩
  · intro e
    have := rng_len m
    rw [e] at this
    simp at this
    omega
  · rw [rng_len]
    exact hm6
  have ho := hg.ok
  have wf : Wf t := ⟨ho, hpm.nodup_iff.mpr (ss_nd (rng_ss m))⟩
  have hlt : (lv t).length = m := by
    have := hpm.length_eq
    rwa [rng_len] at this
  have hpar : parts t = rng m := (srt_congr hpm).trans (srt_of_ss (rng_ss m))
  have hful : full t = true := full_of hpm
  have hl8 : (lv t).length ≤ 8 := by omega
  have hbd : Bd (encV t) := bd_enc ho hl8
  have hver : Ver (encV t) none := .none hg hful hsr
  have S4 : Stay dl ql T sv t H4 := ⟨g4.D, g4.t, hv4⟩
  clear hv4 g4 np s3 hp T2 T1 D1 D2 k2 s1 hd1 hq1
  -- the shape is a shape
  refine ⟨_, rfl, sv, encV t, none, rfl, dt_vd t sv S4.v, hbd, hver, (fun _ H5 s5 => ?_), (fun e er => by cases er)⟩
  have S5 := S4.sm s5
  refine ⟨_, rfl, enc t, enc t, S5.v.dp, S5.v.dp, shaped_ok (okd_enc ho hl8), shaped_ok (okd_enc ho hl8), _, rfl, ?_⟩
  rw [SeqAt.eqv_refl _ (enc_lay t)]
  refine itF (by decide) ?_
  refine ⟨_, rfl, sv, encV t, none, rfl, dt_vd t sv S5.v, hbd, hver, fun H6 s6 => ⟨_, _, rfl, rfl, _, rfl, ?_⟩⟩
  refine itF (by decide) ?_
  have S6 := S5.sm s6
  refine ⟨_, rfl, sv, t, rfl, S6.v, ho, hl8, by decide, fun H7 p7 s7 hp70 hp7 => ?_⟩
  refine ⟨_, rfl, _, rfl, RgOk.of_le (by omega) (by omega) (by omega) (by omega), fun p8 hp8 => ?_⟩
  rw [rg_range]
  have s8 : Same H7 (upd H7 p8 (.tup ((ixs (List.range m)).map V.int))) := same_upd hp8
  refine ⟨lotD (parts t), lotD (rng m), (dt_lot_mk (s8 _ _ hp7)).dp, (dt_lot_mk upd_same).dp, shaped_lot _, shaped_lot _, _, rfl, ?_⟩
  rw [eqv_lot, hpar, decide_eq_true rfl]
  refine itF (by decide) ?_
  have S8 := (S6.sm s7).sm s8
  clear S4 S5 S6 s5 s6 s7 hp70 hp7 s8 hp8
  revert S8
  generalize upd H7 p8 (.tup ((ixs (List.range m)).map V.int)) = H8
  intro S8
  -- the knots, the strong lots
  refine ⟨_, rfl, sv, t, rfl, S8.v, ho, by omega, by decide, fun H9 kl kz s9 hkl0 hkl hkz => ?_⟩
  have S9 := S8.sm s9
  have nkl := S8.D.ne hkl0
  refine ⟨_, rfl, m, rfl, by omega, by omega, fun d1 hd1 => ?_⟩
  refine lc_it (walk_range (lo := 0) (n := m)) (fun j H' => Same H9 H' ∧ ∃ zs, H' d1 = some (.lst zs) ∧ zs.length = j ∧ j ≤ m ∧ Dts H' zs (((rng m).take j).map fun p => lotD [p])) ⟨same_upd hd1, [], upd_same, rfl, Nat.zero_le _, by simpa using Dts.nil⟩ (fun j H' _ _ => trivial) ?_ ?_
  · rintro j u H0 H10 hj ⟨s10, zs, hz, hzl, _, hzs⟩ ⟨rfl, rfl⟩
    refine ⟨rfl, ?_⟩
    refine iteT (B := True) ?_
    refine ⟨_, rfl, (by show 1 ≤ sizeLine; decide), fun p hp => ?_⟩
    have sp := same_upd (o := .tup [.int (0 + (j : Int))]) hp
    refine ⟨zs, sp _ _ hz, small1000 (by omega), same_upd2 (s10.trans sp) hd1, _, upd_same, by rw [List.length_append, hzl]; rfl, hj, ?_⟩
    have hjr : (rng m)[j]? = some ((j : Nat) : Int) := by
      unfold rng ixs
      rw [List.getElem?_map, List.getElem?_range hj]
      rfl
    rw [take_snoc hjr, List.map_append]
    refine ((hzs.sm sp).app (.one ?_)).kp (kp_list (H1 := upd H10 p (.tup [.int (0 + (j : Int))])) (sp _ _ hz))
    have e0 : (0 : Int) + (j : Int) = (j : Nat) := by omega
    rw [e0]
    exact dt_lot_mk (L := [((j : Nat) : Int)]) upd_same
  rintro H10 ⟨s10, za, hza, hzal, _, hzas⟩
  rw [List.take_of_length_le (by rw [rng_len]; exact Nat.le_refl _)] at hzas
  have S10 := S9.sm s10
  have hkl10 := s10 _ _ hkl
  have hkz10 := hkz.sm s10
  refine ⟨_, rfl, kl, rfl, ⟨_, SqL.of hkl10⟩, fun d2 hd2 => ?_⟩
  have hkzl := hkz.length
  rw [List.length_map] at hkzl
  have hknl := knt_len t ho
  refine lc_it (walk_list (K := K) (xs := kz)) (fun j H' => Same H10 H' ∧ ∃ zs, H' d2 = some (.lst zs) ∧ zs.length = j ∧ j ≤ kz.length ∧ Dts H' zs ((((knt t).take j).map (·.1)).map lotD)) ⟨same_upd hd2, [], upd_same, rfl, Nat.zero_le _, by simpa using Dts.nil⟩ (fun j H' _ ⟨s2, _⟩ => SqL.of (s2 _ _ hkl10)) ?_ ?_
  · rintro j u H0 H11 hj ⟨s11, zs, hz, hzl, _, hzs⟩ ⟨rfl, hu⟩
    obtain ⟨z, hzj, hzm, hzd⟩ := dts_at (hkz10.sm s11) hu
    obtain ⟨pz, lz, uz, rfl, hpz, hlz, huz⟩ := dt_kt hzd
    refine ⟨pz, _, rfl, SqT.of hpz, rfl, _, [_, _], rfl, _, [_], rfl, _, [], rfl, rfl, rfl, ?_⟩
    refine iteT (B := True) ?_
    refine ⟨_, rfl, zs, hz, small1000 (by omega), same_upd2 s11 hd2, _, upd_same, by rw [List.length_append, hzl]; rfl, hj, ?_⟩
    rw [take_snoc hzj, List.map_append, List.map_append]
    exact (hzs.app (.one (dt_lot_mk hlz))).kp (kp_list (H1 := H11) hz)
  rintro H11 ⟨s11, zb, hzb, hzbl, _, hzbs⟩
  rw [List.take_of_length_le (by omega)] at hzbs
  have S11 := S10.sm s11
  refine ⟨d1, d2, za, zb, rfl, rfl, s11 _ _ hza, hzb, line_big (by omega), fun p12 hp12 => ?_⟩
  obtain ⟨M, hM⟩ : ∃ M, M = (rng m).map (fun p => [p]) ++ (knt t).map (·.1) := ⟨_, rfl⟩
  have s12 := same_upd (o := .lst (za ++ zb)) hp12
  have hMs : Dts (upd H11 p12 (.lst (za ++ zb))) (za ++ zb) (M.map lotD) := by
    rw [hM, List.map_append]
    refine ((hzas.sm s11).sm s12 |> fun h => ?_ : Dts _ za (((rng m).map fun p => [p]).map lotD)).app (hzbs.sm s12)
    rw [List.map_map]
    exact h
  have hMp : (strong t).Perm M := by
    rw [hM]
    exact (strong_perm t).trans ((hpm.map fun p => [p]).append_right _)
  have S12 := S11.sm s12
  have hkl12 := s12 _ _ (s11 _ _ hkl10)
  have hkz12 := (hkz10.sm s11).sm s12
  have h12 : upd H11 p12 (.lst (za ++ zb)) p12 = some (.lst (za ++ zb)) := upd_same
  revert hMs S12 hkl12 hkz12 h12
  generalize upd H11 p12 (.lst (za ++ zb)) = H12
  generalize za ++ zb = zc
  intro hMs S12 hkl12 hkz12 h12
  clear s12 hp12 hzb hzas s11 s10 hza hzbs S11 hkl10 hkz10 S10 hkl hkz hd1 hd2 s9 hkl0 S9 S8
  refine ⟨_, rfl, sv, t, rfl, S12.v, ho, hl8, by decide, fun H13 p13 zs Ls s13 h130 h13 hzs hLp hLs => ?_⟩
  have S13 := S12.sm s13
  have hM13 := hMs.sm s13
  obtain ⟨e1, e2⟩ := dts_lots hM13
  refine ⟨_, rfl, p12, zc, tI H13, rfl, SqL.of (s13 _ _ h12), fun x hx => ?_, .inl fun x hx => ?_, fun ys p14 pm so hp14 => ?_⟩
  · obtain ⟨b, eb, hb⟩ := dt_lot (e2 x hx)
    exact ⟨b, eb, SqT.of hb⟩
  · have h1 : tI H13 x ∈ M := by
      rw [e1]
      exact List.mem_map.mpr ⟨x, hx, rfl⟩
    have h2 : tI H13 x ∈ strong t := hMp.mem_iff.mpr h1
    obtain ⟨z, hz2, e⟩ := List.mem_map.mp h2
    rw [← e]
    intro z0
    have l0 := parts_len z
    rw [z0] at l0
    exact lv_ne z (trees_ok t ho z hz2) (List.eq_nil_of_length_eq_zero (by simpa using l0.symm))
  obtain ⟨pp, dd2⟩ := dts_perm hM13 pm
  refine ⟨p14, _, rfl, .inl ⟨SqL.of upd_same, fun p15 hp15 => ?_⟩⟩
  have s14 := same_upd (o := .lst ys) hp14
  have s15 := same_upd (o := .tup ys) hp15
  have hsame : Ls = ys.map (tI H13) := lots_same hLs (List.pairwise_map.mpr so) ((hLp.trans hMp).trans pp.symm)
  have hd15 : Dt (upd (upd H13 p14 (.lst ys)) p15 (.tup ys)) (.ref p15) (lotsD Ls) := by
    rw [hsame]
    exact .tup upd_same (dd2.sm (s14.trans s15))
  refine ⟨lotsD Ls, lotsD Ls, (Dt.tup ((s14.trans s15) _ _ h13) (hzs.sm (s14.trans s15)) : Dt _ _ (lotsD Ls)).dp, hd15.dp, shaped_ok (okd_lots Ls), shaped_ok (okd_lots Ls), _, rfl, ?_⟩
  rw [SeqAt.eqv_refl _ (okd_lots Ls).1]
  refine itF (by decide) ?_
  have s1315 := s13.trans (s14.trans s15)
  have S15 := S12.sm s1315
  have hkl15 := s1315 _ _ hkl12
  have hkz15 := hkz12.sm s1315
  revert S15 hkl15 hkz15
  generalize upd (upd H13 p14 (.lst ys)) p15 (.tup ys) = H15
  clear hMs S12 hkl12 hkz12 h12 hd15 s1315 s15 s14 dd2 pp e1 e2 hM13 S13 s13 hsame so pm hzs hLs hLp h13 h130 hp14 hp15 hMp hM
  intro S15 hkl15 hkz15
  -- each knot by its lot
  have hone : ∀ z ∈ knt t, ∃ k cs, Tr.knot k cs ∈ trees t ∧ z = (parts (.knot k cs), k, cs.map parts) := fun z hz => (mem_knt t).mp hz
  refine ⟨_, rfl, kl, rfl, ⟨_, SqL.of hkl15⟩, ?_⟩
  refine for_it (walk_list (K := K) (xs := kz)) (fun i σ H' => ∃ y5 y6 y7, σ = [some (.ref a0), some (.ref dl), some (.int m), some sv, some (.ref kl), y5, y6, y7, some (.ref p12), none, none, none, none, none, none, none, none] ∧ Same H15 H') ⟨_, _, _, rfl, Same.refl H15⟩ (fun i σ H' _ ⟨_, _, _, _, sm⟩ => SqL.of (sm _ _ hkl15)) ?_ ?_
  · rintro i x σ H0 H16 hi ⟨y5, y6, y7, rfl, s16⟩ ⟨rfl, hxi⟩
    obtain ⟨z, _, hzm, hzd⟩ := dts_at (hkz15.sm s16) hxi
    obtain ⟨pz, lz, uz, rfl, hpz, hlz, huz⟩ := dt_kt hzd
    obtain ⟨k, cs, hkt, rfl⟩ := hone z hzm
    have S16 := S15.sm s16
    refine ⟨pz, _, rfl, SqT.of hpz, rfl, _, [_, _], rfl, _, [_], rfl, _, [], rfl, rfl, ?_⟩
    refine ⟨_, rfl, _, rfl, sv, lz, t, _, rfl, S16.v, .inr (SqT.of hlz), ho, hl8, (fun k' cs' hm' hp' H17 u s17 hu => ?_), fun hno => absurd rfl (hno k cs hkt)⟩
    have ekt : Tr.knot k' cs' = .knot k cs := tree_one t wf _ hm' _ hkt hp'
    injection ekt with ek ec
    subst ek ec
    refine ⟨_, rfl, _, rfl, (by show 2 ≤ sizeLine; decide), fun p18 hp18 => ?_⟩
    have s18 := same_upd (o := .tup [.str (kname k'), uz]) hp18
    have hkn : Dt (upd H17 p18 (.tup [.str (kname k'), uz])) (.ref p18) (knD k' (cs'.map parts)) := .tup upd_same (.cons (.str _) (.cons ((huz.sm s17).sm s18) .nil))
    refine ⟨knD k' (cs'.map parts), knD k' (cs'.map parts), (hu.sm s18).dp, hkn.dp, shaped_ok (okd_kn _ _), shaped_ok (okd_kn _ _), _, rfl, ?_⟩
    rw [SeqAt.eqv_refl _ (okd_kn _ _).1]
    refine itF (by decide) ?_
    have s1618 := s17.trans s18
    have S18 := S16.sm s1618
    refine ⟨_, rfl, _, rfl, lz, _, rfl, .inr (SqT.of (s1618 _ _ hlz)), fun p19 hp19 => ?_⟩
    have s19 := same_upd (o := .lst ((parts (.knot k' cs')).map V.int)) hp19
    refine ⟨sv, p19, t, _, rfl, S18.v.sm s19, .inl (SqL.of upd_same), ho, hl8, (fun k2 cs2 hm2 hp2 H20 u2 s20 hu2 => ?_), fun hno => absurd rfl (hno k' cs' hkt)⟩
    have ekt : Tr.knot k2 cs2 = .knot k' cs' := tree_one t wf _ hm2 _ hkt hp2
    injection ekt with ek ec
    subst ek ec
    refine ⟨_, rfl, _, rfl, (by show 2 ≤ sizeLine; decide), fun p21 hp21 => ?_⟩
    have s21 := same_upd (o := .tup [.str (kname k2), uz]) hp21
    have s1621 := s1618.trans (s19.trans (s20.trans s21))
    have hkn2 : Dt (upd H20 p21 (.tup [.str (kname k2), uz])) (.ref p21) (knD k2 (cs2.map parts)) := .tup upd_same (.cons (.str _) (.cons (huz.sm s1621) .nil))
    refine ⟨knD k2 (cs2.map parts), knD k2 (cs2.map parts), (hu2.sm s21).dp, hkn2.dp, shaped_ok (okd_kn _ _), shaped_ok (okd_kn _ _), _, rfl, ?_⟩
    rw [SeqAt.eqv_refl _ (okd_kn _ _).1]
    refine itF (by decide) ?_
    exact ⟨_, _, _, rfl, s16.trans s1621⟩
  rintro σ H16 ⟨y5, y6, y7, rfl, s16⟩
  have S16 := S15.sm s16
  have hkl16 := s16 _ _ hkl15
  have hkz16 := hkz15.sm s16
  clear S15 hkl15 hkz15 s16
  -- drawn lots
  refine ⟨3, rfl, by decide, by decide, ?_⟩
  refine for_it (walk_range (lo := 0) (n := 3)) (fun i σ H' => ∃ y5 y6 y7 y9, σ = [some (.ref a0), some (.ref dl), some (.int m), some sv, some (.ref kl), y5, y6, y7, some (.ref p12), y9, none, none, none, none, none, none, none] ∧ Stay dl ql T sv t H' ∧ Dq dl ql H16 H')
    ⟨_, _, _, _, rfl, S16, Dq.refl _ _ _⟩ (fun i σ H' _ _ => trivial) ?_ ?_
  · rintro i x σ H0 H17 hi ⟨y5, y6, y7, y9, rfl, S17, k17⟩ ⟨rfl, rfl⟩
    refine ⟨_, rfl, m, rfl, by omega, by omega, fun d3 hd3 => ?_⟩
    have nd3 := S17.D.ne hd3
    refine lc_it (walk_range (lo := 0) (n := m)) (fun j H' => DealAt dl ql H' ∧ Dq dl ql H17 H' ∧ ∃ L : List Int, H' d3 = some (.lst (L.map V.int)) ∧ L.length ≤ j ∧ j ≤ m) ⟨S17.D.upd nd3.1 nd3.2, (Dq.refl _ _ _).new hd3, [], upd_same, Nat.le_refl _, Nat.zero_le _⟩ (fun j H' _ _ => trivial) ?_ ?_
    · rintro j u H0 H18 hj ⟨D18, k18, L, hz, hzl, _⟩ ⟨rfl, rfl⟩
      refine ⟨rfl, ?_⟩
      refine ⟨_, rfl, dl, ql, 2, rfl, D18, by decide, by decide, fun r2 H19 hr2 D19 k19 => ⟨rfl, _, rfl, ?_⟩⟩
      have hz19 := k19 _ _ hz nd3.1 nd3.2
      refine ite2 (fun _ => ?_) (fun _ => ?_)
      · refine ⟨_, rfl, _, hz19, ?_, D19.upd nd3.1 nd3.2, (k18.trans k19).new hd3, L ++ [0 + (j : Int)], ?_, ?_, hj⟩
        · rw [List.length_map]
          exact small1000 (by omega)
        · rw [upd_same, List.map_append]
          rfl
        · rw [List.length_append]
          exact Nat.succ_le_succ hzl
      · exact ⟨D19, k18.trans k19, L, hz19, by omega, hj⟩
    rintro H18 ⟨D18, k18, L, hz, hzl, _⟩
    refine ⟨d3, _, rfl, .inl ⟨SqL.of hz, fun p19 hp19 => ?_⟩⟩
    have s19 := same_upd (o := .tup (L.map V.int)) hp19
    have S19 := (S17.dq D18 k18).sm s19
    have k19 : Dq dl ql H16 (upd H18 p19 (.tup (L.map V.int))) := (k17.trans k18).trans (.of s19)
    have h19 : upd H18 p19 (.tup (L.map V.int)) p19 = some (.tup (L.map V.int)) := upd_same
    revert S19 k19 h19
    generalize upd H18 p19 (.tup (L.map V.int)) = H19
    intro S19 k19 h19
    have hkl19 := k19 _ _ hkl16 nkl.1 nkl.2
    have hkz19 := hkz16.kp (S16.D.kp k19)
    refine ⟨_, rfl, _, rfl, kl, rfl, ⟨_, SqL.of hkl19⟩, fun d4 hd4 => ?_⟩
    refine lc_it (walk_list (K := K) (xs := kz)) (fun j H' => Same H19 H' ∧ ∃ zs, H' d4 = some (.lst zs) ∧ zs.length = j ∧ j ≤ kz.length ∧ Dts H' zs ((((knt t).take j).map (·.1)).map lotD)) ⟨same_upd hd4, [], upd_same, rfl, Nat.zero_le _, by simpa using Dts.nil⟩ (fun j H' _ ⟨s2, _⟩ => SqL.of (s2 _ _ hkl19)) ?_ ?_
    · rintro j u H0 H20 hj ⟨s20, zs, hz, hzl, _, hzs⟩ ⟨rfl, hu⟩
      obtain ⟨z, hzj, hzm, hzd⟩ := dts_at (hkz19.sm s20) hu
      obtain ⟨pz, lz, uz, rfl, hpz, hlz, huz⟩ := dt_kt hzd
      refine ⟨pz, _, rfl, SqT.of hpz, rfl, _, [_, _], rfl, _, [_], rfl, _, [], rfl, rfl, rfl, ?_⟩
      refine iteT (B := True) ?_
      refine ⟨_, rfl, zs, hz, small1000 (by omega), same_upd2 s20 hd4, _, upd_same, by rw [List.length_append, hzl]; rfl, hj, ?_⟩
      rw [take_snoc hzj, List.map_append, List.map_append]
      exact (hzs.app (.one (dt_lot_mk hlz))).kp (kp_list (H1 := H20) hz)
    rintro H20 ⟨s20, zb, hzb, hzbl, _, hzbs⟩
    rw [List.take_of_length_le (by omega)] at hzbs
    have S20 := S19.sm s20
    have k20 := k19.trans (.of s20)
    have h20 := s20 _ _ h19
    refine ⟨lotD L, _, (dt_lot_mk h20).dp, .lst (SqL.of hzb) hzbs.dp, shaped_lot L, shaped_all (lots_ok _), _, rfl, ?_⟩
    rw [any_lots]
    by_cases hLin : L ∈ (knt t).map (·.1)
    · refine itF (by simp [hLin]) ?_
      exact ⟨_, _, _, _, rfl, S20, k20⟩
    refine itT (by simp [hLin]) ?_
    refine ⟨_, rfl, Nat.zero_le _, fun p21 hp21 => ?_⟩
    have s21 := same_upd (o := .tup []) hp21
    have S21 := S20.sm s21
    have k21 := k20.trans (.of s21)
    have h21 := s21 _ _ h20
    refine ⟨lotD L, .tuple [], (dt_lot_mk h21).dp, .tup (SqT.of upd_same) .nil, shaped_lot L, shaped_lot [], _, rfl, ?_⟩
    rw [eqv_empty]
    by_cases hL0 : L = []
    · refine itF (by simp [hL0]) ?_
      exact ⟨_, _, _, _, rfl, S21, k21⟩
    refine itT (by simp [hL0]) ?_
    refine ⟨_, rfl, _, rfl, sv, p19, t, L, rfl, S21.v, .inr (SqT.of h21), ho, hl8, (fun k cs hm' hp' => absurd (List.mem_map.mpr ⟨_, (mem_knt t).mpr ⟨k, cs, hm', rfl⟩, hp'⟩) hLin), fun _ H22 s22 => ⟨rfl, _, rfl, ?_⟩⟩
    refine itF (by decide) ?_
    exact ⟨_, _, _, _, rfl, S21.sm s22, k21.trans (.of s22)⟩
  rintro σ H17 ⟨y5, y6, y7, y9, rfl, S17, k17⟩
  clear k17 S16 hkl16 hkz16
  have hndp : (lvs [t]).Nodup := by simpa [lvs] using wf.nd
  -- a child's parts
  apply swp2 (A := Hp) (B := Option V) (S := Stay dl ql T sv t)
  · intro rest
    by_cases hlf : isLf t = true
    rotate_left
    · obtain ⟨k, cs, ht⟩ : ∃ k cs, t = .knot k cs := by
        cases t with
        | leaf n => exact absurd rfl hlf
        | knot k cs => exact ⟨k, cs, rfl⟩
      have hvk : Dt H17 sv (enc (.knot k cs)) := ht ▸ S17.v
      have hok : ok (.knot k cs) := ht ▸ ho
      have hlk : (lv (.knot k cs)).length ≤ 8 := ht ▸ hl8
      obtain ⟨ax, bx, xs, esv, hax, hbx, hxs⟩ := dt_knot hvk
      obtain ⟨h2c, hoc⟩ := ok_knot hok
      have hlx := hxs.length
      rw [List.length_map] at hlx
      refine ⟨_, rfl, _, _, _, _, false, rfl, .ty _, (by rw [esv]; exact .base (.tup hax)), kit_ty (by decide +kernel), _, rfl, ?_⟩
      refine itT rfl ?_
      have nbx : bx ≠ dl ∧ bx ≠ ql := by
        obtain ⟨b0, ds0, q1, q2, _⟩ := S17.D
        exact ⟨fun z => (by rw [z, q1] at hbx; cases hbx), fun z => (by rw [z, q2] at hbx; cases hbx)⟩
      have hcl := cs_len hoc
      rw [lv_knot] at hlk
      refine ⟨_, rfl, _, rfl, ax, _, 1, .ref bx, esv, rfl, SqT.of hax, rfl, dl, ql, bx, xs, rfl, S17.D, .inr (SqT.of hbx), ?_, by omega, nbx.1, nbx.2, fun x H18 hx D18 k18 => ?_⟩
      · intro e
        rw [e] at hlx
        simp at hlx
        omega
      have S18 := S17.dq D18 k18
      obtain ⟨c, hc, hcd⟩ := dts_mem (hxs.kp (S17.D.kp k18)) hx
      have hlc := len_child hc
      refine ⟨_, rfl, x, c, rfl, hcd, hoc c hc, by omega, by decide, fun H19 p19 s19 hp190 hp19 => ?_⟩
      refine ⟨_, rfl, x, c, rfl, hcd.sm s19, hoc c hc, by omega, by decide, fun H20 p20 s20 hp200 hp20 => ⟨p20, lv c, rfl, SqL.of hp20, fun ns' p21 pm so hp21 => ⟨p21, _, rfl, .inl ⟨SqL.of upd_same, fun p22 hp22 => ?_⟩⟩⟩⟩
      obtain rfl : ns' = parts c := srt_uniq pm so
      have s21 := same_upd (o := .lst ((parts c).map V.int)) hp21
      have s22 := same_upd (o := .tup ((parts c).map V.int)) hp22
      have s2022 := s20.trans (s21.trans s22)
      refine ⟨lotD (parts c), lotD (parts c), (dt_lot_mk (s2022 _ _ hp19)).dp, (dt_lot_mk upd_same).dp, shaped_lot _, shaped_lot _, _, rfl, ?_⟩
      rw [eqv_lot, decide_eq_true rfl]
      refine itF (by decide) ?_
      have S22 := (S18.sm s19).sm s2022
      revert S22
      generalize upd (upd H20 p21 (.lst ((parts c).map V.int))) p22 (.tup ((parts c).map V.int)) = H22
      intro S22
      generalize some x = y10
      exact rest H22 y10 S22
    · obtain ⟨n, ht⟩ : ∃ n, t = .leaf n := by
        cases t with
        | leaf n => exact ⟨n, rfl⟩
        | knot k cs => cases hlf
      have hvk : Dt H17 sv (enc (.leaf n)) := ht ▸ S17.v
      have esv := dt_leaf hvk
      refine ⟨_, rfl, _, _, _, _, true, rfl, .ty _, (by rw [esv]; exact .base (.int n)), kit_ty (by decide +kernel), _, rfl, ?_⟩
      refine itF (by decide) ?_
      exact rest H17 none S17
  intro H17 y10 S17
  -- a value that is no leaf
  refine ⟨_, rfl, _, _, rfl, rfl, (by show 1 ≤ sizeLine; decide), fun p1 hp1 => ⟨Nat.zero_le _, fun p2 hp2 => ⟨(by show 1 ≤ sizeLine; decide), fun p3 hp3 => ⟨(by show 2 ≤ sizeLine; decide), fun p4 hp4 => ⟨_, _, rfl, rfl, ⟨by decide, by decide, by decide⟩, _, _, rfl, rfl, (by show 11 ≤ sizeLine; decide), fun p5 hp5 => ?_⟩⟩⟩⟩⟩
  have t1 := same_upd (o := .tup [.int 0]) hp1
  have t2 := same_upd (o := .tup []) hp2
  have t3 := same_upd (o := .lst [.int 0]) hp3
  have t4 := same_upd (o := .tup [.str "bare", .int 0]) hp4
  have t5 := same_upd (o := .lst [.bl true, .bl false, .non, .str "0", .int (0 - 1), .ref p1, .ref p2, .ref p3, .str "bare", .ref p4, .int (0 - 10 ^ (30 : Int).toNat)]) hp5
  have v1 := t5 _ _ (t4 _ _ (t3 _ _ (t2 _ _ (upd_same (H := H17) (a := p1) (o := .tup [.int 0])))))
  have v2 := t5 _ _ (t4 _ _ (t3 _ _ (upd_same (H := upd H17 p1 (.tup [.int 0])) (a := p2) (o := .tup []))))
  have v3 := t5 _ _ (t4 _ _ (upd_same (H := upd (upd H17 p1 (.tup [.int 0])) p2 (.tup [])) (a := p3) (o := .lst [.int 0])))
  have v4 := t5 _ _ (upd_same (H := upd (upd (upd H17 p1 (.tup [.int 0])) p2 (.tup [])) p3 (.lst [.int 0])) (a := p4) (o := .tup [.str "bare", .int 0]))
  have S18 := S17.sm (t1.trans (t2.trans (t3.trans t4)))
  have np5 := S18.D.ne hp5
  have S19 := S18.sm t5
  refine ⟨dl, ql, p5, _, rfl, S19.D, .inl (SqL.of upd_same), by simp, by simp, np5.1, np5.2, fun x H20 hx D20 k20 => ?_⟩
  obtain ⟨dx, hdx, hnx, hsx⟩ : ∃ dx, Vd H20 x dx ∧ ¬ Blt dx ∧ Sm 1 dx := by
    have hK := dq_kl S19.D D20 k20
    simp only [List.mem_cons, List.not_mem_nil, or_false] at hx
    rcases hx with rfl | rfl | rfl | rfl | rfl | rfl | rfl | rfl | rfl | rfl | rfl
    · exact ⟨.oth, .bl _, blt_oth, sm_oth _⟩
    · exact ⟨.oth, .bl _, blt_oth, sm_oth _⟩
    · exact ⟨.oth, .non, blt_oth, sm_oth _⟩
    · exact ⟨_, .str _, blt_str, sm_str _ _⟩
    · exact ⟨_, .int _, (fun z => absurd (blt_int.mp z) (by decide)), sm_int _ _⟩
    · exact ⟨.tup [.int 0], (Vd.tup v1 (.cons (.int 0) .nil)).kl hK, bent_len (by simp), smt.mpr ⟨by simp, fun c hc => by
        obtain rfl : c = .int 0 := by simpa using hc
        exact sm_int _ _⟩⟩
    · exact ⟨.tup [], (Vd.tup v2 .nil).kl hK, bent_len (by simp), smt.mpr ⟨by simp, by simp⟩⟩
    · exact ⟨.oth, (Vd.lst v3).kl hK, blt_oth, sm_oth _⟩
    · exact ⟨_, .str _, blt_str, sm_str _ _⟩
    · exact ⟨.tup [.str "bare", .int 0], (Vd.tup v4 (.cons (.str _) (.cons (.int 0) .nil))).kl hK, bent_two fun _ _ _ e => (by cases e), sm_two (sm_str 0 _) (sm_int 0 _)⟩
    · exact ⟨_, .int _, (fun z => absurd (blt_int.mp z) (by decide +kernel)), sm_int _ _⟩
  have S20 := S19.dq D20 k20
  clear hx v1 v2 v3 v4 t1 t2 t3 t4 t5 S18 S19 np5 k20
  refine ⟨_, rfl, _, rfl, _, rfl, dl, ql, sv, x, t, dx, rfl, D20, S20.v, hdx, ho, by omega, by decide, fun H21 z e D21 k21 hz hat => ?_⟩
  have S21 := S20.dq D21 k21
  refine ⟨z, e, 0, rfl, hz, bd_no (hat.bad hnx) ((hat.sm' hsx ho hm6 hlt).mono (by decide)), .bad (hat.bad hnx), by decide, fun H22 s22 => ⟨_, rfl, ?_⟩⟩
  refine itF (by decide) ?_
  have S22 := S21.sm s22
  clear S20 S21 hz hat s22 k21 D21 D20 hdx hnx hsx
  -- a leaf that is too great
  refine ⟨_, rfl, _, rfl, _, rfl, _, _, rfl, rfl, _, rfl, dl, ql, 50, rfl, S22.D, by decide, by decide, fun r3 H23 hr3 D23 k23 => ⟨_, _, rfl, rfl, _, _, rfl, rfl, ⟨by decide, by decide, by decide⟩, (by show 3 ≤ sizeLine; decide), fun p6 hp6 => ?_⟩⟩
  have S23 := S22.dq D23 k23
  have np6 := S23.D.ne hp6
  have t6 := same_upd (o := .lst [.int (m : Nat), .int ((m : Nat) + 1 + (r3 : Nat)), .int (10 ^ (20 : Int).toNat)]) hp6
  have S24 := S23.sm t6
  refine ⟨dl, ql, p6, _, rfl, S24.D, .inl (SqL.of upd_same), by simp, by simp, np6.1, np6.2, fun x2 H25 hx D25 k25 => ?_⟩
  obtain ⟨n, rfl, hn⟩ : ∃ n : Int, x2 = .int n ∧ (m : Int) ≤ n := by
    simp only [List.mem_cons, List.not_mem_nil, or_false] at hx
    rcases hx with rfl | rfl | rfl
    · exact ⟨_, rfl, Int.le_refl _⟩
    · exact ⟨_, rfl, by omega⟩
    · refine ⟨_, rfl, ?_⟩
      have : (6 : Int) ≤ 10 ^ (20 : Int).toNat := by decide +kernel
      omega
  have S25 := S24.dq D25 k25
  clear hx t6 np6 S23 S24 k25 D25 k23 D23 S22
  refine ⟨_, rfl, _, rfl, _, rfl, dl, ql, sv, _, t, .int n, rfl, S25.D, S25.v, .int n, ho, by omega, by decide, fun H26 z2 e2 D26 k26 hz2 hat2 => ?_⟩
  have S26 := S25.dq D26 k26
  obtain ⟨t2, rfl, g2, l2, m2⟩ := AtL.num (by omega) t hg e2 hat2
  refine ⟨z2, encV t2, 1, rfl, hz2, bd_enc g2.ok (by omega), .lot g2 (not_full m2 (by omega)), by decide, fun H27 s27 => ⟨_, rfl, ?_⟩⟩
  refine itF (by decide) ?_
  have S27 := S26.sm s27
  clear S25 S26 hz2 hat2 s27 k26 D26 g2 l2 m2
  refine ⟨_, rfl, rfl, _, rfl, ?_⟩
  by_cases hm1 : m = 1
  · refine itT (by rw [hm1]; decide) ?_
    exact q _
  refine itF (fun z => hm1 (by have := of_decide_eq_true z; injection this with this; omega)) ?_
  have hlf : isLf t = false := by
    cases t with
    | leaf n => simp [lv] at hlt; omega
    | knot k cs => rfl
  -- a bent knot
  refine ⟨_, rfl, _, rfl, _, rfl, rfl, S27.T, fun H28 pb fs x28 T28 nw hpb hne hfl hB => ?_⟩
  have S28 := S27.ext x28 T28
  have npb := nw.ne S27.D
  refine ⟨dl, ql, pb, fs, rfl, S28.D, .inl (SqL.of hpb), hne, by omega, npb.1, npb.2, fun xf H29 hxf D29 k29 => ?_⟩
  have S29 := S28.dq D29 k29
  obtain ⟨fb, rfl, hBf⟩ := hB xf hxf
  refine ⟨dl, ql, sv, fb, t, rfl, D29, S29.v, hBf.dq S28.D k29, hg, hlf, by omega, by decide, fun H30 zb eb D30 k30 hzb hab => ?_⟩
  have S30 := S29.dq D30 k30
  clear S27 S28 S29 D29 k29 hBf hxf hB hfl hne hpb nw npb T28 x28 k30
  have nbb : ¬ Blt eb := hab.bad fun _ _ _ h => h.1
  have sbb : Sm 26 eb := AtK.sm (s := 14) (fun _ _ _ h => h.2) t ho 6 (by omega) (by decide) eb hab
  -- a turned knot
  refine ⟨_, rfl, _, rfl, S30.T, fun ft ct H31 x31 T31 nft hft hct => ?_⟩
  have S31 := S30.ext x31 T31
  refine ⟨dl, ql, sv, ft, t, rfl, S31.D, S31.v, ⟨nm27, _, _, _, ct, hft, hct, turnedOk⟩, hg, hlf, by omega, by decide, fun H32 zt et D32 k32 hzt hatt => ?_⟩
  have S32 := S31.dq D32 k32
  obtain ⟨tt, rfl, gt, pt, st, _⟩ := AtK.turned t hg wf.nd hsr et hatt
  have hzb2 := (hzb.kl (kl_ext x31)).kl (dq_kl S31.D D32 k32)
  have ptr : (lv tt).Perm (rng m) := pt.trans hpm
  have ltt : (lv tt).length = m := by rw [pt.length_eq, hlt]
  clear S30 S31 D30 hzb hatt hft hct nft x31 T31 k32 D32
  refine ⟨_, rfl, zb, eb, 0, rfl, hzb2, bd_no nbb sbb, .bad nbb, by decide, fun H33 s33 => ⟨_, rfl, ?_⟩⟩
  refine itF (by decide) ?_
  refine ⟨_, rfl, zt, encV tt, 2, rfl, hzt.sm s33, bd_enc gt.ok (by omega), .ord gt (full_of ptr) st, by decide, fun H34 s34 => ⟨_, rfl, ?_⟩⟩
  refine itF (by decide) ?_
  have S34 := S32.sm (s33.trans s34)
  have hzt34 := hzt.sm (s33.trans s34)
  clear S32 s33 s34 hzt hzb2 sbb nbb
  refine ⟨_, rfl, _, rfl, _, rfl, dl, ql, zt, _, tt, .int n, rfl, S34.D, vd_dt tt zt hzt34, .int n, gt.ok, by omega, by decide, fun H35 z3 e3 D35 k35 hz3 hat3 => ?_⟩
  have S35 := S34.dq D35 k35
  obtain ⟨t3, rfl, g3, l3, m3⟩ := AtL.num (by omega) tt gt e3 hat3
  refine ⟨z3, encV t3, 1, rfl, hz3, bd_enc g3.ok (by omega), .lot g3 (not_full m3 (by omega)), by decide, fun H36 s36 => ⟨_, rfl, ?_⟩⟩
  refine itF (by decide) ?_
  have S36 := S35.sm s36
  clear S34 S35 hz3 hat3 s36 k35 D35 g3 l3 m3 hzt34
  -- a part twice
  refine ⟨_, rfl, _, rfl, _, rfl, dl, ql, m, rfl, S36.D, hm0, by omega, fun r4 H37 hr4 D37 k37 => ⟨(by show 2 ≤ sizeLine; decide), fun p7 hp7 => ⟨(by show 2 ≤ sizeLine; decide), fun p8 hp8 => ?_⟩⟩⟩
  have S37 := S36.dq D37 k37
  have t7 := same_upd (o := .tup [sv, .int (r4 : Nat)]) hp7
  have t8 := same_upd (o := .tup [.str "bare", .ref p7]) hp8
  have S38 := (S37.sm t7).sm t8
  have hdb : Dt (upd (upd H37 p7 (.tup [sv, .int (r4 : Nat)])) p8 (.tup [.str "bare", .ref p7])) (.ref p8) (enc (.knot .bare [t, .leaf (r4 : Int)])) :=
    dt_mk (k := .bare) upd_same (t8 _ _ upd_same) (.cons S38.v (.cons (by rw [enc]; exact .int _) .nil))
  revert S38 hdb
  generalize upd (upd H37 p7 (.tup [sv, .int (r4 : Nat)])) p8 (.tup [.str "bare", .ref p7]) = H38
  clear t8 t7 S37 hp7 hp8 D37 k37 S36
  intro S38 hdb
  have gdb : gd (.knot .bare [t, .leaf (r4 : Int)]) := dbl_gd hg
  have ldb : (lv (.knot .bare [t, .leaf (r4 : Int)])).length = m + 1 := by rw [dbl_lv, List.length_append, hlt]; rfl
  refine ⟨_, rfl, .ref p8, encV (.knot .bare [t, .leaf (r4 : Int)]), 1, rfl, dt_vd _ _ hdb, bd_enc gdb.ok (by omega), .lot gdb (dbl_full hpm hr4), by decide, fun H39 s39 => ⟨_, rfl, ?_⟩⟩
  refine itF (by decide) ?_
  have S39 := S38.sm s39
  refine ⟨_, rfl, _, rfl, dl, ql, .ref p8, .non, _, .oth, rfl, S39.D, hdb.sm s39, .non, gdb.ok, by omega, by decide, fun H40 z4 e4 D40 k40 hz4 hat4 => ?_⟩
  have S40 := S39.dq D40 k40
  have sz4 : Sm 26 e4 := (AtL.sm (s := 0) (sm_oth 0) _ gdb.ok 7 (by omega) (by decide) e4 hat4).mono (by decide)
  refine ⟨z4, e4, 0, rfl, hz4, bd_no (hat4.bad blt_oth) sz4, .bad (hat4.bad blt_oth), by decide, fun H41 s41 => ⟨_, rfl, ?_⟩⟩
  refine itF (by decide) ?_
  have S41 := S40.sm s41
  refine ⟨_, rfl, sv, encV t, none, rfl, dt_vd t sv S41.v, hbd, hver, (fun _ H42 s42 => ?_), (fun e er => by cases er)⟩
  have S42 := S41.sm s42
  refine ⟨_, rfl, enc t, enc t, S42.v.dp, S42.v.dp, shaped_ok (okd_enc ho hl8), shaped_ok (okd_enc ho hl8), _, rfl, ?_⟩
  rw [SeqAt.eqv_refl _ (enc_lay t)]
  refine itT rfl ?_
  refine ⟨_, rfl, sv, encV t, none, rfl, dt_vd t sv S42.v, hbd, hver, fun H43 _ => ?_⟩
  exact q H43
end
end K23
namespace K23
open PySem PySem.Spec PyProof.Rows L2
open LamX (Tabs TabB ExtN LawAtS)
/-- the table of a def's code object is empty -/
def EmTab (x : Str) (K : PySem.W.Frag) (mg : Str → Option Value) (h : Heap) : Prop := ∀ (f c : Addr) (o : Obj) (fd : FuncData), mg x = some (.ref f) → K.lookup f = some o → o.data = .func fd → fd.code = .ref c →
  ∃ PT, PySem.W.CodeHd h c PT ∧ h.get? PT = some { cls := .none, data := .fields #[] }
theorem walk {l : PySem.W.OpenLaw} {q : Program} {loose : List Str} {XP : (Str → Option Value) → Heap → Prop} {YP : World → Heap → Prop} {d : DefRec} {K : Params → PySem.W.Frag} (hn : l.most = some 63) (hdf : d.params.defaults = [])
    (hrec : ∀ x ∈ (["_law_told", "_law_bends", "law"] : List Str), ((recsOf q).any fun e => e.name == x) = true) (hY : ∀ (w : World) (h : Heap), YP w h → (K w.params).In h)
    (F : ∀ (w : World) (mg : Str → Option Value) (fa : Addr) (h : Heap), (K w.params).In h → h.Ns mainGlobals mg → mg d.name = some (.ref fa) → (∀ x ∈ (["_law_told", "_law_bends", "law"] : List Str), EmTab x (K w.params) mg h) → LawAtS l w (K w.params) CX0 19 63 "script" mg fa h) :
    PySem.W.WalkO q loose XP YP l.row.toRowW d [] (fun f vs => PySem.call f vs) := by
  refine Att.attach_callB hn hdf fun w s₀ s₁ mg mb fa o pm cd doc a vs ns G Y _ _ _ hmg hobj hints hlen hbits hg => ?_
  have KX := hY w _ Y
  have tt : ∀ x ∈ (["_law_told", "_law_bends", "law"] : List Str), EmTab x (K w.params) mg s₁.heap := fun x hx f c o1 fd1 g1 g2 g3 g4 => by
    obtain ⟨e, he, hn1⟩ := List.any_eq_true.mp (hrec x hx)
    obtain ⟨b, ob, fb, cb, PT, i1, i2, i3, i4, i5, i6⟩ := G.T.tab e he
    rw [beq_iff_eq.mp hn1, g1] at i1
    cases i1
    rw [KX _ _ g2] at i2
    cases i2
    rw [g3] at i3
    cases i3
    rw [g4] at i4
    cases i4
    exact ⟨PT, .of i5 i6, i6.2⟩
  obtain ⟨fd, cs, sp, hT, nT, C, hb, hsp, hF⟩ := F w mg fa _ KX G.T.g hmg tt
  refine LamX.law_callTs KX G.T.g G.T.b G.T.builtins G.T.nolimit hg hT nT C G.T.bmain hobj hints ?_ ⟨rfl, by decide, by decide⟩ hF hb (fun H hH hS => hsp H a ns hlen hbits hH hS) fun _ _ _ z => z
  exact Nat.le_trans hlen (by decide)
/-- what «except S» names -/
theorem self_named {K : PySem.W.Frag} {S : Addr} (h1 : PySem.W.subIn K (.ref S) (.type "BaseException") = some true) (h2 : PySem.W.isClsIn K S = true) (h3 : PySem.W.typeIn K (.ref S) = some (.type "type")) (h4 : PySem.W.subIn K (.ref S) (.ref S) = some true) :
    PySem.W.exmOne K (.ref S) (.ref S) = some true := by
  have e1 : (PySem.W.subIn K (.ref S) (.type "BaseException") == some true) = true := by rw [h1]; rfl
  have h2' : (PySem.W.clsIn K S).isSome = true := h2
  have e2 : ((PySem.W.clsIn K S).isSome && PySem.W.typeIn K (.ref S) == some (.type "type")) = true := by rw [h2', h3]; rfl
  unfold PySem.W.exmOne PySem.W.kitCls
  rw [if_pos e1]
  dsimp only
  rw [if_pos e2]
  exact h4
/-- the table of the fewest children -/
theorem few_mk {K : PySem.W.Frag} {w : World} {mg : Str → Option Value} {dF : Addr} {n : Nat} {t1 t2 t3 u1 u2 u3 : Tok} (g : mg "FEWEST_CHILDREN" = some (.ref dF)) (lo : (dF == sysModules) = false)
    (l : K.lookup dF = some ⟨.type "dict", none, .dict #[⟨PyData.keyHash w.params "bare", .str "bare" t1, .int 2 u1⟩, ⟨PyData.keyHash w.params "line", .str "line" t2, .int 3 u2⟩, ⟨PyData.keyHash w.params "free", .str "free" t3, .int 3 u3⟩] n, #[]⟩) : FewD K w mg dF := by
  refine ⟨g, ⟨_, _, l, ⟨⟨_, _, rfl, rfl⟩, ⟨_, _, rfl, rfl⟩, ⟨_, _, rfl, rfl⟩, trivial⟩, lo⟩, fun k => ?_, fun z hz => ?_⟩
  · unfold PySem.W.nsIn
    rw [l]
    cases k
    · exact ⟨_, rfl⟩
    · exact ⟨_, rfl⟩
    · exact ⟨_, rfl⟩
  · unfold PySem.W.nsIn
    rw [l]
    have hb : ((Str.ofString "bare") == z) = false := beq_eq_false_iff_ne.mpr fun e => hz .bare e.symm
    have hl : ((Str.ofString "line") == z) = false := beq_eq_false_iff_ne.mpr fun e => hz .line e.symm
    have hf : ((Str.ofString "free") == z) = false := beq_eq_false_iff_ne.mpr fun e => hz .free e.symm
    have hb' : (Value.str "bare" t1).isStr z = false := hb
    have hl' : (Value.str "line" t2).isStr z = false := hl
    have hf' : (Value.str "free" t3).isStr z = false := hf
    have e : ([⟨PyData.keyHash w.params "bare", .str "bare" t1, .int 2 u1⟩, ⟨PyData.keyHash w.params "line", .str "line" t2, .int 3 u2⟩, ⟨PyData.keyHash w.params "free", .str "free" t3, .int 3 u3⟩] : List DictEntry).find? (·.key.isStr z) = none := by
      rw [List.find?_cons_of_neg (by rw [hb']; decide), List.find?_cons_of_neg (by rw [hl']; decide), List.find?_cons_of_neg (by rw [hf']; decide)]
      rfl
    show (match ([⟨PyData.keyHash w.params "bare", .str "bare" t1, .int 2 u1⟩, ⟨PyData.keyHash w.params "line", .str "line" t2, .int 3 u2⟩, ⟨PyData.keyHash w.params "free", .str "free" t3, .int 3 u3⟩] : List DictEntry).find? (·.key.isStr z) with | some e => some (some e.val) | none => _) = _
    rw [e]
    rfl

set_option maxHeartbeats 0 in
theorem all_mk {l : PySem.W.OpenLaw} {w : World} {K : PySem.W.Frag} {h : Heap} {mg : Str → Option Value} {fa : Addr} (X : K.In h) (G : h.Ns mainGlobals mg) (hfa : mg "law" = some (.ref fa)) (hT : ∀ x ∈ (["_law_told", "_law_bends", "law"] : List Str), EmTab x K mg h)
    {f1 f2 f3 f4 f5 f6 f7 f8 f9 f10 f14 f15 f16 f17 f18 f19 f20 f21 f22 f23 f24 f25 f26 f27 f29 c19 c25 c27 PT PB PL C fI dF : Addr} {od1 an1 od2 an2 od3 an3 od4 an4 od5 an5 od6 an6 od7 an7 od8 an8 od9 an9 od10 an10 od14 an14 od15 an15 od16 an16 od17 an17 od18 an18 od19 an19 od20 an20 od21 an21 od22 an22 od23 an23 od24 an24 od25 an25 od26 an26 od27 an27 od29 an29 : Option Addr} {sl1 sl2 sl3 sl4 sl5 sl6 sl7 sl8 sl9 sl10 sl14 sl15 sl16 sl17 sl18 sl19 sl20 sl21 sl22 sl23 sl24 sl25 sl26 sl27 sl29 : Array (Option Value)} {oc1 kV1 dc1 pm1 cd1 ct1 oc2 kV2 dc2 pm2 cd2 ct2 oc3 kV3 dc3 pm3 cd3 ct3 oc4 kV4 dc4 pm4 cd4 ct4 oc5 kV5 dc5 pm5 cd5 ct5 oc6 kV6 dc6 pm6 cd6 ct6 oc7 kV7 dc7 pm7 cd7 ct7 oc8 kV8 dc8 pm8 cd8 ct8 oc9 kV9 dc9 pm9 cd9 ct9 oc10 kV10 dc10 pm10 cd10 ct10 oc14 kV14 dc14 pm14 cd14 ct14 oc15 kV15 dc15 pm15 cd15 ct15 oc16 kV16 dc16 pm16 cd16 ct16 oc17 kV17 dc17 pm17 cd17 ct17 oc18 kV18 dc18 pm18 cd18 ct18 oc19 kV19 dc19 pm19 ct19 oc20 kV20 dc20 pm20 cd20 ct20 oc21 kV21 dc21 pm21 cd21 ct21 oc22 kV22 dc22 pm22 cd22 ct22 oc23 kV23 dc23 pm23 cd23 ct23 oc24 kV24 dc24 pm24 cd24 ct24 oc25 kV25 dc25 pm25 ct25 oc26 kV26 dc26 pm26 cd26 ct26 oc27 kV27 dc27 pm27 ct27 oc29 kV29 dc29 pm29 cd29 ct29 : Value}
    {oCT : Value} {oDT : Option Addr} {vCT : Array Value} {sCT : Array (Option Value)} {oCB : Value} {oDB : Option Addr} {vCB : Array Value} {sCB : Array (Option Value)} {oCL : Value} {oDL : Option Addr} {vCL : Array Value} {sCL : Array (Option Value)}
    {nm q : Str} {N CB : Addr} {bs : List Value} {sn : List Str} {sub : List Value} {ab : Bool} {col : Option Bool} {ddC : Option Addr} {m0 m1 m2 m3 m5 : Option Value} {odI anI : Option Addr} {slI : Array (Option Value)} {ocI kVI dcI pmI cdI ctI : Value} {nF : Nat} {t1 t2 t3 u1 u2 u3 : Tok}
    (a1 : PySem.W.nsIn K mainGlobals "is_leaf" = some (some (.ref f1))) (l1 : K.lookup f1 = some ⟨oc1, od1, .func (PySem.W.fnOf "is_leaf" "is_leaf" (defArgs (top 1)) (defBody (top 1)) (defScope (top 1)) .none kV1 dc1 pm1 an1 cd1 ct1), sl1⟩) (c10 : PySem.W.codeIn K cd1 "is_leaf" = true) (k1 : PySem.W.keepIn K (.ref f1) = true)
    (a2 : PySem.W.nsIn K mainGlobals "parts_of" = some (some (.ref f2))) (l2 : K.lookup f2 = some ⟨oc2, od2, .func (PySem.W.fnOf "parts_of" "parts_of" (defArgs (top 2)) (defBody (top 2)) (defScope (top 2)) .none kV2 dc2 pm2 an2 cd2 ct2), sl2⟩) (c20 : PySem.W.codeIn K cd2 "parts_of" = true) (k2 : PySem.W.keepIn K (.ref f2) = true)
    (a3 : PySem.W.nsIn K mainGlobals "trees_of" = some (some (.ref f3))) (l3 : K.lookup f3 = some ⟨oc3, od3, .func (PySem.W.fnOf "trees_of" "trees_of" (defArgs (top 3)) (defBody (top 3)) (defScope (top 3)) .none kV3 dc3 pm3 an3 cd3 ct3), sl3⟩) (c30 : PySem.W.codeIn K cd3 "trees_of" = true) (k3 : PySem.W.keepIn K (.ref f3) = true)
    (a4 : PySem.W.nsIn K mainGlobals "strong_lots" = some (some (.ref f4))) (l4 : K.lookup f4 = some ⟨oc4, od4, .func (PySem.W.fnOf "strong_lots" "strong_lots" (defArgs (top 4)) (defBody (top 4)) (defScope (top 4)) .none kV4 dc4 pm4 an4 cd4 ct4), sl4⟩) (c40 : PySem.W.codeIn K cd4 "strong_lots" = true) (k4 : PySem.W.keepIn K (.ref f4) = true)
    (a5 : PySem.W.nsIn K mainGlobals "is_integer" = some (some (.ref f5))) (l5 : K.lookup f5 = some ⟨oc5, od5, .func (PySem.W.fnOf "is_integer" "is_integer" (defArgs (top 5)) (defBody (top 5)) (defScope (top 5)) .none kV5 dc5 pm5 an5 cd5 ct5), sl5⟩) (c50 : PySem.W.codeIn K cd5 "is_integer" = true) (k5 : PySem.W.keepIn K (.ref f5) = true)
    (a6 : PySem.W.nsIn K mainGlobals "is_built" = some (some (.ref f6))) (l6 : K.lookup f6 = some ⟨oc6, od6, .func (PySem.W.fnOf "is_built" "is_built" (defArgs (top 6)) (defBody (top 6)) (defScope (top 6)) .none kV6 dc6 pm6 an6 cd6 ct6), sl6⟩) (c60 : PySem.W.codeIn K cd6 "is_built" = true) (k6 : PySem.W.keepIn K (.ref f6) = true)
    (a7 : PySem.W.nsIn K mainGlobals "stands_right" = some (some (.ref f7))) (l7 : K.lookup f7 = some ⟨oc7, od7, .func (PySem.W.fnOf "stands_right" "stands_right" (defArgs (top 7)) (defBody (top 7)) (defScope (top 7)) .none kV7 dc7 pm7 an7 cd7 ct7), sl7⟩) (c70 : PySem.W.codeIn K cd7 "stands_right" = true) (k7 : PySem.W.keepIn K (.ref f7) = true)
    (a8 : PySem.W.nsIn K mainGlobals "need_shape" = some (some (.ref f8))) (l8 : K.lookup f8 = some ⟨oc8, od8, .func (PySem.W.fnOf "need_shape" "need_shape" (defArgs (top 8)) (defBody (top 8)) (defScope (top 8)) .none kV8 dc8 pm8 an8 cd8 ct8), sl8⟩) (c80 : PySem.W.codeIn K cd8 "need_shape" = true) (k8 : PySem.W.keepIn K (.ref f8) = true)
    (a9 : PySem.W.nsIn K mainGlobals "is_shape" = some (some (.ref f9))) (l9 : K.lookup f9 = some ⟨oc9, od9, .func (PySem.W.fnOf "is_shape" "is_shape" (defArgs (top 9)) (defBody (top 9)) (defScope (top 9)) .none kV9 dc9 pm9 an9 cd9 ct9), sl9⟩) (c90 : PySem.W.codeIn K cd9 "is_shape" = true) (k9 : PySem.W.keepIn K (.ref f9) = true)
    (a10 : PySem.W.nsIn K mainGlobals "knot_there" = some (some (.ref f10))) (l10 : K.lookup f10 = some ⟨oc10, od10, .func (PySem.W.fnOf "knot_there" "knot_there" (defArgs (top 10)) (defBody (top 10)) (defScope (top 10)) .none kV10 dc10 pm10 an10 cd10 ct10), sl10⟩) (c100 : PySem.W.codeIn K cd10 "knot_there" = true) (k10 : PySem.W.keepIn K (.ref f10) = true)
    (a14 : PySem.W.nsIn K mainGlobals "_law_deal" = some (some (.ref f14))) (l14 : K.lookup f14 = some ⟨oc14, od14, .func (PySem.W.fnOf "_law_deal" "_law_deal" (defArgs (top 14)) (defBody (top 14)) (defScope (top 14)) .none kV14 dc14 pm14 an14 cd14 ct14), sl14⟩) (c140 : PySem.W.codeIn K cd14 "_law_deal" = true) (k14 : PySem.W.keepIn K (.ref f14) = true)
    (a15 : PySem.W.nsIn K mainGlobals "_law_draw" = some (some (.ref f15))) (l15 : K.lookup f15 = some ⟨oc15, od15, .func (PySem.W.fnOf "_law_draw" "_law_draw" (defArgs (top 15)) (defBody (top 15)) (defScope (top 15)) .none kV15 dc15 pm15 an15 cd15 ct15), sl15⟩) (c150 : PySem.W.codeIn K cd15 "_law_draw" = true) (k15 : PySem.W.keepIn K (.ref f15) = true)
    (a16 : PySem.W.nsIn K mainGlobals "_law_pick" = some (some (.ref f16))) (l16 : K.lookup f16 = some ⟨oc16, od16, .func (PySem.W.fnOf "_law_pick" "_law_pick" (defArgs (top 16)) (defBody (top 16)) (defScope (top 16)) .none kV16 dc16 pm16 an16 cd16 ct16), sl16⟩) (c160 : PySem.W.codeIn K cd16 "_law_pick" = true) (k16 : PySem.W.keepIn K (.ref f16) = true)
    (a17 : PySem.W.nsIn K mainGlobals "_law_mixed" = some (some (.ref f17))) (l17 : K.lookup f17 = some ⟨oc17, od17, .func (PySem.W.fnOf "_law_mixed" "_law_mixed" (defArgs (top 17)) (defBody (top 17)) (defScope (top 17)) .none kV17 dc17 pm17 an17 cd17 ct17), sl17⟩) (c170 : PySem.W.codeIn K cd17 "_law_mixed" = true) (k17 : PySem.W.keepIn K (.ref f17) = true)
    (a18 : PySem.W.nsIn K mainGlobals "_law_leaves" = some (some (.ref f18))) (l18 : K.lookup f18 = some ⟨oc18, od18, .func (PySem.W.fnOf "_law_leaves" "_law_leaves" (defArgs (top 18)) (defBody (top 18)) (defScope (top 18)) .none kV18 dc18 pm18 an18 cd18 ct18), sl18⟩) (c180 : PySem.W.codeIn K cd18 "_law_leaves" = true) (k18 : PySem.W.keepIn K (.ref f18) = true)
    (a19 : PySem.W.nsIn K mainGlobals "_law_told" = some (some (.ref f19))) (l19 : K.lookup f19 = some ⟨oc19, od19, .func (PySem.W.fnOf "_law_told" "_law_told" (defArgs (top 19)) (defBody (top 19)) (defScope (top 19)) .none kV19 dc19 pm19 an19 (.ref c19) ct19), sl19⟩) (c190 : PySem.W.codeIn K (.ref c19) "_law_told" = true) (k19 : PySem.W.keepIn K (.ref f19) = true)
    (a20 : PySem.W.nsIn K mainGlobals "_law_shape" = some (some (.ref f20))) (l20 : K.lookup f20 = some ⟨oc20, od20, .func (PySem.W.fnOf "_law_shape" "_law_shape" (defArgs (top 20)) (defBody (top 20)) (defScope (top 20)) .none kV20 dc20 pm20 an20 cd20 ct20), sl20⟩) (c200 : PySem.W.codeIn K cd20 "_law_shape" = true) (k20 : PySem.W.keepIn K (.ref f20) = true)
    (a21 : PySem.W.nsIn K mainGlobals "_law_knots" = some (some (.ref f21))) (l21 : K.lookup f21 = some ⟨oc21, od21, .func (PySem.W.fnOf "_law_knots" "_law_knots" (defArgs (top 21)) (defBody (top 21)) (defScope (top 21)) .none kV21 dc21 pm21 an21 cd21 ct21), sl21⟩) (c210 : PySem.W.codeIn K cd21 "_law_knots" = true) (k21 : PySem.W.keepIn K (.ref f21) = true)
    (a22 : PySem.W.nsIn K mainGlobals "_law_at_leaf" = some (some (.ref f22))) (l22 : K.lookup f22 = some ⟨oc22, od22, .func (PySem.W.fnOf "_law_at_leaf" "_law_at_leaf" (defArgs (top 22)) (defBody (top 22)) (defScope (top 22)) .none kV22 dc22 pm22 an22 cd22 ct22), sl22⟩) (c220 : PySem.W.codeIn K cd22 "_law_at_leaf" = true) (k22 : PySem.W.keepIn K (.ref f22) = true)
    (a23 : PySem.W.nsIn K mainGlobals "_law_at_knot" = some (some (.ref f23))) (l23 : K.lookup f23 = some ⟨oc23, od23, .func (PySem.W.fnOf "_law_at_knot" "_law_at_knot" (defArgs (top 23)) (defBody (top 23)) (defScope (top 23)) .none kV23 dc23 pm23 an23 cd23 ct23), sl23⟩) (c230 : PySem.W.codeIn K cd23 "_law_at_knot" = true) (k23 : PySem.W.keepIn K (.ref f23) = true)
    (a24 : PySem.W.nsIn K mainGlobals "_law_wrong" = some (some (.ref f24))) (l24 : K.lookup f24 = some ⟨oc24, od24, .func (PySem.W.fnOf "_law_wrong" "_law_wrong" (defArgs (top 24)) (defBody (top 24)) (defScope (top 24)) .none kV24 dc24 pm24 an24 cd24 ct24), sl24⟩) (c240 : PySem.W.codeIn K cd24 "_law_wrong" = true) (k24 : PySem.W.keepIn K (.ref f24) = true)
    (a25 : PySem.W.nsIn K mainGlobals "_law_bends" = some (some (.ref f25))) (l25 : K.lookup f25 = some ⟨oc25, od25, .func (PySem.W.fnOf "_law_bends" "_law_bends" (defArgs (top 25)) (defBody (top 25)) (defScope (top 25)) .none kV25 dc25 pm25 an25 (.ref c25) ct25), sl25⟩) (c250 : PySem.W.codeIn K (.ref c25) "_law_bends" = true) (k25 : PySem.W.keepIn K (.ref f25) = true)
    (a26 : PySem.W.nsIn K mainGlobals "_law_is_refused" = some (some (.ref f26))) (l26 : K.lookup f26 = some ⟨oc26, od26, .func (PySem.W.fnOf "_law_is_refused" "_law_is_refused" (defArgs (top 26)) (defBody (top 26)) (defScope (top 26)) .none kV26 dc26 pm26 an26 cd26 ct26), sl26⟩) (c260 : PySem.W.codeIn K cd26 "_law_is_refused" = true) (k26 : PySem.W.keepIn K (.ref f26) = true)
    (a27 : PySem.W.nsIn K mainGlobals "law" = some (some (.ref f27))) (l27 : K.lookup f27 = some ⟨oc27, od27, .func (PySem.W.fnOf "law" "law" (defArgs (top 27)) (defBody (top 27)) (defScope (top 27)) .none kV27 dc27 pm27 an27 (.ref c27) ct27), sl27⟩) (c270 : PySem.W.codeIn K (.ref c27) "law" = true) (k27 : PySem.W.keepIn K (.ref f27) = true)
    (a29 : PySem.W.nsIn K mainGlobals "union_of" = some (some (.ref f29))) (l29 : K.lookup f29 = some ⟨oc29, od29, .func (PySem.W.fnOf "union_of" "union_of" (defArgs (sU)) (defBody (sU)) (defScope (sU)) .none kV29 dc29 pm29 an29 cd29 ct29), sl29⟩) (c290 : PySem.W.codeIn K cd29 "union_of" = true) (k29 : PySem.W.keepIn K (.ref f29) = true)
    (lCT : K.lookup c19 = some ⟨oCT, oDT, .fields vCT, sCT⟩) (vPT : vCT[11]? = some (.ref PT)) (nPT : K.lookup PT = none)
    (lCB : K.lookup c25 = some ⟨oCB, oDB, .fields vCB, sCB⟩) (vPB : vCB[11]? = some (.ref PB)) (nPB : K.lookup PB = none)
    (lCL : K.lookup c27 = some ⟨oCL, oDL, .fields vCL, sCL⟩) (vPL : vCL[11]? = some (.ref PL)) (nPL : K.lookup PL = none)
    (d1 : Nat.beq PT PB = false) (d2 : Nat.beq PT PL = false) (d3 : Nat.beq PB PL = false)
    (aC : PySem.W.nsIn K mainGlobals "InvalidShape" = some (some (.ref C)))
    (xL : K.lookup C = some (excClassObj nm q C N bs [.ref CB, .type "Exception", .type "BaseException", .type "object"] true sn sub ab col ddC m0 m1 m2 m3 m5 "Exception.__new__"))
    (sa : PySem.W.findIn K (.ref C) "__setattr__" = some (some (.builtin "object.__setattr__"))) (ga : PySem.W.findIn K (.ref C) "__getattribute__" = some (some (.builtin "BaseException.__getattribute__"))) (gg : PySem.W.findIn K (.ref C) "__getattr__" = some none) (na : PySem.W.findIn K (.ref C) "at" = some none)
    (aI : PySem.W.findIn K (.ref C) "__init__" = some (some (.ref fI))) (tI : PySem.W.typeIn K (.ref fI) = some (.type "function"))
    (lI : K.lookup fI = some ⟨ocI, odI, .func (PySem.W.fnOf "__init__" "InvalidShape.__init__" (defArgs sI) (defBody sI) (defScope sI) .none kVI dcI pmI anI cdI ctI), slI⟩) (cI : PySem.W.codeIn K cdI "InvalidShape.__init__" = true) (kI : PySem.W.keepIn K (.ref fI) = true)
    (kC : PySem.W.keepIn K (.ref C) = true) (eC : PySem.W.subIn K (.ref C) (.type "BaseException") = some true) (tC : PySem.W.typeIn K (.ref C) = some (.type "type")) (hC : PySem.W.hasDictIn K C = true) (iC : PySem.W.isClsIn K C = true) (sC : PySem.W.subIn K (.ref C) (.ref C) = some true)
    (aF : PySem.W.nsIn K mainGlobals "FEWEST_CHILDREN" = some (some (.ref dF))) (lo : (dF == sysModules) = false)
    (lF : K.lookup dF = some ⟨.type "dict", none, .dict #[⟨PyData.keyHash w.params "bare", .str "bare" t1, .int 2 u1⟩, ⟨PyData.keyHash w.params "line", .str "line" t2, .int 3 u2⟩, ⟨PyData.keyHash w.params "free", .str "free" t3, .int 3 u3⟩] nF, #[]⟩)
    (z_isi : PySem.W.nsIn K mainGlobals "isinstance" = some none)
    (z_int : PySem.W.nsIn K mainGlobals "int" = some none)
    (z_tup : PySem.W.nsIn K mainGlobals "tuple" = some none)
    (z_lst : PySem.W.nsIn K mainGlobals "list" = some none)
    (z_sorted : PySem.W.nsIn K mainGlobals "sorted" = some none)
    (z_all : PySem.W.nsIn K mainGlobals "all" = some none)
    (z_any : PySem.W.nsIn K mainGlobals "any" = some none)
    (z_enum : PySem.W.nsIn K mainGlobals "enumerate" = some none)
    (z_rng : PySem.W.nsIn K mainGlobals "range" = some none)
    (z_len : PySem.W.nsIn K mainGlobals "len" = some none)
    (z_abs : PySem.W.nsIn K mainGlobals "abs" = some none)
    (z_min : PySem.W.nsIn K mainGlobals "min" = some none)
    (z_zip : PySem.W.nsIn K mainGlobals "zip" = some none)
    (z_bool : PySem.W.nsIn K mainGlobals "bool" = some none)
    (z_str : PySem.W.nsIn K mainGlobals "str" = some none)
    (z_repr : PySem.W.nsIn K mainGlobals "repr" = some none) :
    LawAtS l w K CX0 19 63 "script" mg fa h := by
  have e := hfa.symm.trans (PySem.W.mg_of X G a27)
  cases e
  have F1 := fun_mk (st := top 1) l1 c10 k1
  have F2 := fun_mk (st := top 2) l2 c20 k2
  have F3 := fun_mk (st := top 3) l3 c30 k3
  have F4 := fun_mk (st := top 4) l4 c40 k4
  have F5 := fun_mk (st := top 5) l5 c50 k5
  have F6 := fun_mk (st := top 6) l6 c60 k6
  have F7 := fun_mk (st := top 7) l7 c70 k7
  have F8 := fun_mk (st := top 8) l8 c80 k8
  have F9 := fun_mk (st := top 9) l9 c90 k9
  have F10 := fun_mk (st := top 10) l10 c100 k10
  have F14 := fun_mk (st := top 14) l14 c140 k14
  have F15 := fun_mk (st := top 15) l15 c150 k15
  have F16 := fun_mk (st := top 16) l16 c160 k16
  have F17 := fun_mk (st := top 17) l17 c170 k17
  have F18 := fun_mk (st := top 18) l18 c180 k18
  have F19 : FunC K "_law_told" (top 19) f19 _ c19 := ⟨⟨oc19, od19, kV19, dc19, pm19, an19, ct19, sl19, rfl, l19, c190⟩, k19⟩
  have F20 := fun_mk (st := top 20) l20 c200 k20
  have F21 := fun_mk (st := top 21) l21 c210 k21
  have F22 := fun_mk (st := top 22) l22 c220 k22
  have F23 := fun_mk (st := top 23) l23 c230 k23
  have F24 := fun_mk (st := top 24) l24 c240 k24
  have F25 : FunC K "_law_bends" (top 25) f25 _ c25 := ⟨⟨oc25, od25, kV25, dc25, pm25, an25, ct25, sl25, rfl, l25, c250⟩, k25⟩
  have F26 := fun_mk (st := top 26) l26 c260 k26
  have F27 : FunC K "law" (top 27) fa _ c27 := ⟨⟨oc27, od27, kV27, dc27, pm27, an27, ct27, sl27, rfl, l27, c270⟩, k27⟩
  have F29 := fun_mk (st := sU) l29 c290 k29
  have FI := fun_mk (st := sI) lI cI kI
  have D1 : Df K mg "is_leaf" (top 1) f1 _ ["tree"] := ⟨F1, PySem.W.mg_of X G a1, F1.binds fun _ _ _ _ _ _ us hl => match us, hl with | [_], _ => rfl⟩
  have D2 : Df K mg "parts_of" (top 2) f2 _ ["shape"] := ⟨F2, PySem.W.mg_of X G a2, F2.binds fun _ _ _ _ _ _ us hl => match us, hl with | [_], _ => rfl⟩
  have D3 : Df K mg "trees_of" (top 3) f3 _ ["shape"] := ⟨F3, PySem.W.mg_of X G a3, F3.binds fun _ _ _ _ _ _ us hl => match us, hl with | [_], _ => rfl⟩
  have D4 : Df K mg "strong_lots" (top 4) f4 _ ["shape"] := ⟨F4, PySem.W.mg_of X G a4, F4.binds fun _ _ _ _ _ _ us hl => match us, hl with | [_], _ => rfl⟩
  have D5 : Df K mg "is_integer" (top 5) f5 _ ["value"] := ⟨F5, PySem.W.mg_of X G a5, F5.binds fun _ _ _ _ _ _ us hl => match us, hl with | [_], _ => rfl⟩
  have D6 : Df K mg "is_built" (top 6) f6 _ ["value"] := ⟨F6, PySem.W.mg_of X G a6, F6.binds fun _ _ _ _ _ _ us hl => match us, hl with | [_], _ => rfl⟩
  have D7 : Df K mg "stands_right" (top 7) f7 _ ["tree"] := ⟨F7, PySem.W.mg_of X G a7, F7.binds fun _ _ _ _ _ _ us hl => match us, hl with | [_], _ => rfl⟩
  have D8 : Df K mg "need_shape" (top 8) f8 _ ["value"] := ⟨F8, PySem.W.mg_of X G a8, F8.binds fun _ _ _ _ _ _ us hl => match us, hl with | [_], _ => rfl⟩
  have D9 : Df K mg "is_shape" (top 9) f9 _ ["value"] := ⟨F9, PySem.W.mg_of X G a9, F9.binds fun _ _ _ _ _ _ us hl => match us, hl with | [_], _ => rfl⟩
  have D10 : Df K mg "knot_there" (top 10) f10 _ ["shape", "lot"] := ⟨F10, PySem.W.mg_of X G a10, F10.binds fun _ _ _ _ _ _ us hl => match us, hl with | [_, _], _ => rfl⟩
  have D14 : Df K mg "_law_deal" (top 14) f14 _ ["script", "base"] := ⟨F14, PySem.W.mg_of X G a14, F14.binds fun _ _ _ _ _ _ us hl => match us, hl with | [_, _], _ => rfl⟩
  have D15 : Df K mg "_law_draw" (top 15) f15 _ ["deal", "bound"] := ⟨F15, PySem.W.mg_of X G a15, F15.binds fun _ _ _ _ _ _ us hl => match us, hl with | [_, _], _ => rfl⟩
  have D16 : Df K mg "_law_pick" (top 16) f16 _ ["deal", "some"] := ⟨F16, PySem.W.mg_of X G a16, F16.binds fun _ _ _ _ _ _ us hl => match us, hl with | [_, _], _ => rfl⟩
  have D17 : Df K mg "_law_mixed" (top 17) f17 _ ["deal", "things"] := ⟨F17, PySem.W.mg_of X G a17, F17.binds fun _ _ _ _ _ _ us hl => match us, hl with | [_, _], _ => rfl⟩
  have D18 : Df K mg "_law_leaves" (top 18) f18 _ ["shape"] := ⟨F18, PySem.W.mg_of X G a18, F18.binds fun _ _ _ _ _ _ us hl => match us, hl with | [_], _ => rfl⟩
  have D19 : DfC K mg "_law_told" (top 19) f19 _ c19 ["kind", "children"] := ⟨F19, PySem.W.mg_of X G a19, .all fun us hl => match us, hl with | [_, _], _ => rfl⟩
  have D20 : Df K mg "_law_shape" (top 20) f20 _ ["deal", "parts"] := ⟨F20, PySem.W.mg_of X G a20, F20.binds fun _ _ _ _ _ _ us hl => match us, hl with | [_, _], _ => rfl⟩
  have D21 : Df K mg "_law_knots" (top 21) f21 _ ["shape"] := ⟨F21, PySem.W.mg_of X G a21, F21.binds fun _ _ _ _ _ _ us hl => match us, hl with | [_], _ => rfl⟩
  have D22 : Df K mg "_law_at_leaf" (top 22) f22 _ ["deal", "shape", "value"] := ⟨F22, PySem.W.mg_of X G a22, F22.binds fun _ _ _ _ _ _ us hl => match us, hl with | [_, _, _], _ => rfl⟩
  have D23 : Df K mg "_law_at_knot" (top 23) f23 _ ["deal", "shape", "bend"] := ⟨F23, PySem.W.mg_of X G a23, F23.binds fun _ _ _ _ _ _ us hl => match us, hl with | [_, _, _], _ => rfl⟩
  have D24 : Df K mg "_law_wrong" (top 24) f24 _ ["value"] := ⟨F24, PySem.W.mg_of X G a24, F24.binds fun _ _ _ _ _ _ us hl => match us, hl with | [_], _ => rfl⟩
  have D25 : DfC K mg "_law_bends" (top 25) f25 _ c25 [] := ⟨F25, PySem.W.mg_of X G a25, .all fun us hl => match us, hl with | [], _ => rfl⟩
  have D26 : Df K mg "_law_is_refused" (top 26) f26 _ ["value", "due"] := ⟨F26, PySem.W.mg_of X G a26, F26.binds fun _ _ _ _ _ _ us hl => match us, hl with | [_, _], _ => rfl⟩
  have D29 : Df K mg "union_of" (sU) f29 _ ["lots"] := ⟨F29, PySem.W.mg_of X G a29, F29.binds fun _ _ _ _ _ _ us hl => match us, hl with | [_], _ => rfl⟩
  have Z : Zs mg := ⟨PySem.W.mg_none_of X G z_isi, PySem.W.mg_none_of X G z_int, PySem.W.mg_none_of X G z_tup, PySem.W.mg_none_of X G z_lst, PySem.W.mg_none_of X G z_sorted, PySem.W.mg_none_of X G z_all, PySem.W.mg_none_of X G z_any, PySem.W.mg_none_of X G z_enum, PySem.W.mg_none_of X G z_rng, PySem.W.mg_none_of X G z_len, PySem.W.mg_none_of X G z_abs, PySem.W.mg_none_of X G z_min, PySem.W.mg_none_of X G z_zip, PySem.W.mg_none_of X G z_bool, PySem.W.mg_none_of X G z_str, PySem.W.mg_none_of X G z_repr⟩
  have IS : InvS K mg C fI _ := ⟨PySem.W.mg_of X G aC, ⟨⟨nm, q, N, bs, _, sn, sub, ab, col, ddC, m0, m1, m2, m3, m5, xL, rfl⟩, sa, eC, tC, kC⟩, na, aI, tI, FI, FI.binds (ps := ["self", "at"]) fun _ _ _ _ _ _ us hl => match us, hl with | [_, _], _ => rfl, ⟨ga, gg, eC, hC⟩, self_named eC iC tC sC⟩
  have FD : FewD K w mg dF := few_mk (PySem.W.mg_of X G aF) lo lF
  let aa : Nat → Addr := fun i => [0, f1, f2, f3, f4, f5, f6, f7, f8, f9, f10, fI, C, dF, f14, f15, f16, f17, f18, f19, f20, f21, f22, f23, f24, f25, f26, 0, 0, f29].getD i 0
  let fl : FuncData := PySem.W.fnOf "law" "law" (defArgs (top 27)) (defBody (top 27)) (defScope (top 27)) .none kV27 dc27 pm27 an27 (.ref c27) ct27
  let dd : Nat → FuncData := fun i => [fl, PySem.W.fnOf "is_leaf" "is_leaf" (defArgs (top 1)) (defBody (top 1)) (defScope (top 1)) .none kV1 dc1 pm1 an1 cd1 ct1, PySem.W.fnOf "parts_of" "parts_of" (defArgs (top 2)) (defBody (top 2)) (defScope (top 2)) .none kV2 dc2 pm2 an2 cd2 ct2, PySem.W.fnOf "trees_of" "trees_of" (defArgs (top 3)) (defBody (top 3)) (defScope (top 3)) .none kV3 dc3 pm3 an3 cd3 ct3, PySem.W.fnOf "strong_lots" "strong_lots" (defArgs (top 4)) (defBody (top 4)) (defScope (top 4)) .none kV4 dc4 pm4 an4 cd4 ct4, PySem.W.fnOf "is_integer" "is_integer" (defArgs (top 5)) (defBody (top 5)) (defScope (top 5)) .none kV5 dc5 pm5 an5 cd5 ct5, PySem.W.fnOf "is_built" "is_built" (defArgs (top 6)) (defBody (top 6)) (defScope (top 6)) .none kV6 dc6 pm6 an6 cd6 ct6, PySem.W.fnOf "stands_right" "stands_right" (defArgs (top 7)) (defBody (top 7)) (defScope (top 7)) .none kV7 dc7 pm7 an7 cd7 ct7, PySem.W.fnOf "need_shape" "need_shape" (defArgs (top 8)) (defBody (top 8)) (defScope (top 8)) .none kV8 dc8 pm8 an8 cd8 ct8, PySem.W.fnOf "is_shape" "is_shape" (defArgs (top 9)) (defBody (top 9)) (defScope (top 9)) .none kV9 dc9 pm9 an9 cd9 ct9, PySem.W.fnOf "knot_there" "knot_there" (defArgs (top 10)) (defBody (top 10)) (defScope (top 10)) .none kV10 dc10 pm10 an10 cd10 ct10, PySem.W.fnOf "__init__" "InvalidShape.__init__" (defArgs sI) (defBody sI) (defScope sI) .none kVI dcI pmI anI cdI ctI, fl, fl, PySem.W.fnOf "_law_deal" "_law_deal" (defArgs (top 14)) (defBody (top 14)) (defScope (top 14)) .none kV14 dc14 pm14 an14 cd14 ct14, PySem.W.fnOf "_law_draw" "_law_draw" (defArgs (top 15)) (defBody (top 15)) (defScope (top 15)) .none kV15 dc15 pm15 an15 cd15 ct15, PySem.W.fnOf "_law_pick" "_law_pick" (defArgs (top 16)) (defBody (top 16)) (defScope (top 16)) .none kV16 dc16 pm16 an16 cd16 ct16, PySem.W.fnOf "_law_mixed" "_law_mixed" (defArgs (top 17)) (defBody (top 17)) (defScope (top 17)) .none kV17 dc17 pm17 an17 cd17 ct17, PySem.W.fnOf "_law_leaves" "_law_leaves" (defArgs (top 18)) (defBody (top 18)) (defScope (top 18)) .none kV18 dc18 pm18 an18 cd18 ct18, PySem.W.fnOf "_law_told" "_law_told" (defArgs (top 19)) (defBody (top 19)) (defScope (top 19)) .none kV19 dc19 pm19 an19 (.ref c19) ct19, PySem.W.fnOf "_law_shape" "_law_shape" (defArgs (top 20)) (defBody (top 20)) (defScope (top 20)) .none kV20 dc20 pm20 an20 cd20 ct20, PySem.W.fnOf "_law_knots" "_law_knots" (defArgs (top 21)) (defBody (top 21)) (defScope (top 21)) .none kV21 dc21 pm21 an21 cd21 ct21, PySem.W.fnOf "_law_at_leaf" "_law_at_leaf" (defArgs (top 22)) (defBody (top 22)) (defScope (top 22)) .none kV22 dc22 pm22 an22 cd22 ct22, PySem.W.fnOf "_law_at_knot" "_law_at_knot" (defArgs (top 23)) (defBody (top 23)) (defScope (top 23)) .none kV23 dc23 pm23 an23 cd23 ct23, PySem.W.fnOf "_law_wrong" "_law_wrong" (defArgs (top 24)) (defBody (top 24)) (defScope (top 24)) .none kV24 dc24 pm24 an24 cd24 ct24, PySem.W.fnOf "_law_bends" "_law_bends" (defArgs (top 25)) (defBody (top 25)) (defScope (top 25)) .none kV25 dc25 pm25 an25 (.ref c25) ct25, PySem.W.fnOf "_law_is_refused" "_law_is_refused" (defArgs (top 26)) (defBody (top 26)) (defScope (top 26)) .none kV26 dc26 pm26 an26 cd26 ct26, fl, fl, PySem.W.fnOf "union_of" "union_of" (defArgs (sU)) (defBody (sU)) (defScope (sU)) .none kV29 dc29 pm29 an29 cd29 ct29].getD i fl
  have T : Pr K w mg aa dd := ⟨Z, D29, D1, D2, D3, D4, D5, D6, D7, D8, D9, D10, IS, FD⟩
  have W : Lw K w mg aa dd c19 c25 c27 := ⟨T, D14, D15, D16, D17, D18, D19, D20, D21, D22, D23, D24, D25, D26⟩
  obtain ⟨PT2, hCT, hPT⟩ := hT "_law_told" (by simp) f19 c19 _ _ (PySem.W.mg_of X G a19) l19 rfl rfl
  obtain ⟨oT, usT, _, _, _, _, _, _, _, e1T, _, e3T, e4T, _⟩ := id hCT
  rw [X _ _ lCT] at e1T
  cases e1T
  cases e3T
  rw [vPT] at e4T
  cases e4T
  obtain ⟨PB2, hCB, hPB⟩ := hT "_law_bends" (by simp) f25 c25 _ _ (PySem.W.mg_of X G a25) l25 rfl rfl
  obtain ⟨oB, usB, _, _, _, _, _, _, _, e1B, _, e3B, e4B, _⟩ := id hCB
  rw [X _ _ lCB] at e1B
  cases e1B
  cases e3B
  rw [vPB] at e4B
  cases e4B
  obtain ⟨PL2, hCL, hPL⟩ := hT "law" (by simp) fa c27 _ _ (PySem.W.mg_of X G a27) l27 rfl rfl
  obtain ⟨oL, usL, _, _, _, _, _, _, _, e1L, _, e3L, e4L, _⟩ := id hCL
  rw [X _ _ lCL] at e1L
  cases e1L
  cases e3L
  rw [vPL] at e4L
  cases e4L
  have n1 : PT ≠ PB := fun z => by rw [z, Nat.beq_refl] at d1; cases d1
  have n2 : PT ≠ PL := fun z => by rw [z, Nat.beq_refl] at d2; cases d2
  have n3 : PB ≠ PL := fun z => by rw [z, Nat.beq_refl] at d3; cases d3
  have in3 : ∀ p ∈ [(c19, PT), (c25, PB), (c27, PL)], p = (c19, PT) ∨ p = (c25, PB) ∨ p = (c27, PL) := fun p hp => by simpa using hp
  have inT : ∀ p ∈ [(PT, nm19), (PB, nm25), (PL, nm27)], p = (PT, nm19) ∨ p = (PB, nm25) ∨ p = (PL, nm27) := fun p hp => by simpa using hp
  refine ⟨fl, [(c19, PT), (c25, PB), (c27, PL)], sp27 K [(PT, nm19), (PB, nm25), (PL, nm27)], fun p hp => ?_, fun p hp => ?_, fun p hp => ?_, fun s u => .of_eq rfl, fun H a ns hl _ hH hS => ⟨a, ns, rfl, hS, hl, fun p hp => ?_, fun _ => rfl⟩, fun base _ _ hB => ?_⟩
  · rcases in3 p hp with rfl | rfl | rfl
    · exact hPT
    · exact hPB
    · exact hPL
  · rcases in3 p hp with rfl | rfl | rfl
    · exact nPT
    · exact nPB
    · exact nPL
  · rcases in3 p hp with rfl | rfl | rfl
    · exact hCT
    · exact hCB
    · exact hCL
  · rcases inT p hp with rfl | rfl | rfl
    · exact .nil (hH (c19, PT) (by simp))
    · exact .nil (hH (c25, PB) (by simp))
    · exact .nil (hH (c27, PL) (by simp))
  · refine ok27 F27 W (hB (c19, PT) (by simp)) (hB (c25, PB) (by simp)) (hB (c27, PL) (by simp)) (by simp) (fun p hp e => ?_) (by simp) (fun p hp e => ?_) (by simp) (fun p hp e => ?_)
    · rcases inT p hp with rfl | rfl | rfl
      · rfl
      · exact absurd e.symm n1
      · exact absurd e.symm n2
    · rcases inT p hp with rfl | rfl | rfl
      · exact absurd e n1
      · rfl
      · exact absurd e.symm n3
    · rcases inT p hp with rfl | rfl | rfl
      · exact absurd e n2
      · exact absurd e n3
      · rfl
end K23
open PySem PySem.W PyProof.Rows in
set_option maxRecDepth 100000 in
set_option maxHeartbeats 0 in
theorem PySem.Challenge.cw_oncetested_k23_shapes_and_what_is_none_holds : PySem.Challenge.rw_oncetested_k23_shapes_and_what_is_none.Holds := by
  w_on; o_law; k_head; (case hw => w_witness2)
  k_fill
  refine K23.walk (l := PySem.Challenge.rw_oncetested_k23_shapes_and_what_is_none) rfl rfl ?hrec (fun w h Y => PySem.W.km_in_of Y) ?F
  case hrec =>
    intro x hx
    have : x = "_law_told" ∨ x = "_law_bends" ∨ x = "law" := by simpa using hx
    rcases this with rfl | rfl | rfl
    · kernel_rfl
    · kernel_rfl
    · kernel_rfl
  case F =>
    intro w mg fa h KX G hmg hT
    refine' K23.all_mk KX G hmg hT ?xa1 ?xl1 ?xc10 ?xk1 ?xa2 ?xl2 ?xc20 ?xk2 ?xa3 ?xl3 ?xc30 ?xk3 ?xa4 ?xl4 ?xc40 ?xk4 ?xa5 ?xl5 ?xc50 ?xk5 ?xa6 ?xl6 ?xc60 ?xk6 ?xa7 ?xl7 ?xc70 ?xk7 ?xa8 ?xl8 ?xc80 ?xk8 ?xa9 ?xl9 ?xc90 ?xk9 ?xa10 ?xl10 ?xc100 ?xk10 ?xa14 ?xl14 ?xc140 ?xk14 ?xa15 ?xl15 ?xc150 ?xk15 ?xa16 ?xl16 ?xc160 ?xk16 ?xa17 ?xl17 ?xc170 ?xk17 ?xa18 ?xl18 ?xc180 ?xk18 ?xa19 ?xl19 ?xc190 ?xk19 ?xa20 ?xl20 ?xc200 ?xk20 ?xa21 ?xl21 ?xc210 ?xk21 ?xa22 ?xl22 ?xc220 ?xk22 ?xa23 ?xl23 ?xc230 ?xk23 ?xa24 ?xl24 ?xc240 ?xk24 ?xa25 ?xl25 ?xc250 ?xk25 ?xa26 ?xl26 ?xc260 ?xk26 ?xa27 ?xl27 ?xc270 ?xk27 ?xa29 ?xl29 ?xc290 ?xk29 ?xlCT ?xvPT ?xnPT ?xlCB ?xvPB ?xnPB ?xlCL ?xvPL ?xnPL ?xd1 ?xd2 ?xd3 ?xaC ?xxL ?xsa ?xga ?xgg ?xna ?xaI ?xtI ?xlI ?xcI ?xkI ?xkC ?xeC ?xtC ?xhC ?xiC ?xsC ?xaF ?xlo ?xlF ?xz_isi ?xz_int ?xz_tup ?xz_lst ?xz_sorted ?xz_all ?xz_any ?xz_enum ?xz_rng ?xz_len ?xz_abs ?xz_min ?xz_zip ?xz_bool ?xz_str ?xz_repr
    (case xa1 => k_is)
    (case xl1 => k_is)
    (case xc10 => k_is)
    (case xk1 => k_is)
    (case xa2 => k_is)
    (case xl2 => k_is)
    (case xc20 => k_is)
    (case xk2 => k_is)
    (case xa3 => k_is)
    (case xl3 => k_is)
    (case xc30 => k_is)
    (case xk3 => k_is)
    (case xa4 => k_is)
    (case xl4 => k_is)
    (case xc40 => k_is)
    (case xk4 => k_is)
    (case xa5 => k_is)
    (case xl5 => k_is)
    (case xc50 => k_is)
    (case xk5 => k_is)
    (case xa6 => k_is)
    (case xl6 => k_is)
    (case xc60 => k_is)
    (case xk6 => k_is)
    (case xa7 => k_is)
    (case xl7 => k_is)
    (case xc70 => k_is)
    (case xk7 => k_is)
    (case xa8 => k_is)
    (case xl8 => k_is)
    (case xc80 => k_is)
    (case xk8 => k_is)
    (case xa9 => k_is)
    (case xl9 => k_is)
    (case xc90 => k_is)
    (case xk9 => k_is)
    (case xa10 => k_is)
    (case xl10 => k_is)
    (case xc100 => k_is)
    (case xk10 => k_is)
    (case xa14 => k_is)
    (case xl14 => k_is)
    (case xc140 => k_is)
    (case xk14 => k_is)
    (case xa15 => k_is)
    (case xl15 => k_is)
    (case xc150 => k_is)
    (case xk15 => k_is)
    (case xa16 => k_is)
    (case xl16 => k_is)
    (case xc160 => k_is)
    (case xk16 => k_is)
    (case xa17 => k_is)
    (case xl17 => k_is)
    (case xc170 => k_is)
    (case xk17 => k_is)
    (case xa18 => k_is)
    (case xl18 => k_is)
    (case xc180 => k_is)
    (case xk18 => k_is)
    (case xa19 => k_is)
    (case xl19 => k_is)
    (case xc190 => k_is)
    (case xk19 => k_is)
    (case xa20 => k_is)
    (case xl20 => k_is)
    (case xc200 => k_is)
    (case xk20 => k_is)
    (case xa21 => k_is)
    (case xl21 => k_is)
    (case xc210 => k_is)
    (case xk21 => k_is)
    (case xa22 => k_is)
    (case xl22 => k_is)
    (case xc220 => k_is)
    (case xk22 => k_is)
    (case xa23 => k_is)
    (case xl23 => k_is)
    (case xc230 => k_is)
    (case xk23 => k_is)
    (case xa24 => k_is)
    (case xl24 => k_is)
    (case xc240 => k_is)
    (case xk24 => k_is)
    (case xa25 => k_is)
    (case xl25 => k_is)
    (case xc250 => k_is)
    (case xk25 => k_is)
    (case xa26 => k_is)
    (case xl26 => k_is)
    (case xc260 => k_is)
    (case xk26 => k_is)
    (case xa27 => k_is)
    (case xl27 => k_is)
    (case xc270 => k_is)
    (case xk27 => k_is)
    (case xa29 => k_is)
    (case xl29 => k_is)
    (case xc290 => k_is)
    (case xk29 => k_is)
    (case xlCT => k_is)
    (case xvPT => rfl)
    (case xnPT => kernel_rfl)
    (case xlCB => k_is)
    (case xvPB => rfl)
    (case xnPB => kernel_rfl)
    (case xlCL => k_is)
    (case xvPL => rfl)
    (case xnPL => kernel_rfl)
    (case xd1 => kernel_rfl)
    (case xd2 => kernel_rfl)
    (case xd3 => kernel_rfl)
    (case xaC => k_is)
    (case xxL => k_is)
    (case xsa => k_is)
    (case xga => k_is)
    (case xgg => k_is)
    (case xna => k_is)
    (case xaI => k_is)
    (case xtI => k_is)
    (case xlI => k_is)
    (case xcI => k_is)
    (case xkI => k_is)
    (case xkC => k_is)
    (case xeC => k_is)
    (case xtC => k_is)
    (case xhC => k_is)
    (case xiC => k_is)
    (case xsC => first | rfl | k_is)
    (case xaF => k_is)
    (case xlo => kernel_rfl)
    (case xlF => k_is)
    (case xz_isi => k_is)
    (case xz_int => k_is)
    (case xz_tup => k_is)
    (case xz_lst => k_is)
    (case xz_sorted => k_is)
    (case xz_all => k_is)
    (case xz_any => k_is)
    (case xz_enum => k_is)
    (case xz_rng => k_is)
    (case xz_len => k_is)
    (case xz_abs => k_is)
    (case xz_min => k_is)
    (case xz_zip => k_is)
    (case xz_bool => k_is)
    (case xz_str => k_is)
    (case xz_repr => k_is)
