import PyProof.Rows.All
import Wide.All
import OpenK.AllK
import Wide.FinOn
import HandS.ForMost
import HandS.ForExc
import HandS.Wide
import HandS.Flow
import HandS.IsInst
import HandS.Conv
import HandS.Zip
import HandS.OwnEq
import HandS.Defaults
import HandS.MakeKw
import HandS.WideBits
import HandS.Style
import HandS.MakeKwOnly
import PyProof.InstNe
import PySem.Challenge.RW_carryways_k04_whole_houses_made_of_house
set_option Elab.async false
set_option linter.all false
set_option maxRecDepth 100000
set_option maxHeartbeats 4000000
/-! CDa: data without a heap, cells that change, the relation between both, and the step. -/
namespace CD
open PySem PySem.Spec PyProof.Rows L2

inductive D where
  | non | bl (b : Bool) | int (i : Int) | str (x : Str)
  | lst (ds : List D) | tup (ds : List D)
  | hs (bs rs : List Int)
  | ow (k : Nat)
  | scr (ns : List Int)

abbrev Cells := List (Option (List D))

/-- the class of houses, and the written part -/
structure Hc where
  a : Addr
  K : PySem.W.Frag

def hF (t1 t2 : Addr) : List (Str × V) := [("_bases", .ref t1), ("_rooms", .ref t2)]

mutual
inductive Rp (C : Hc) (r : List Addr) (H : Hp) : D → V → Prop
  | non : Rp C r H .non .non
  | bl (b : Bool) : Rp C r H (.bl b) (.bl b)
  | int (i : Int) : Rp C r H (.int i) (.int i)
  | str (x : Str) : Rp C r H (.str x) (.str x)
  | lst {a : Addr} {vs : List V} {ds : List D} : H a = some (.lst vs) → Rps C r H ds vs → Rp C r H (.lst ds) (.ref a)
  | tup {a : Addr} {vs : List V} {ds : List D} : H a = some (.tup vs) → Rps C r H ds vs → Rp C r H (.tup ds) (.ref a)
  | hs {a dx t1 t2 : Addr} {bs rs : List Int} : H a = some (.ins C.a dx (hF t1 t2)) → H t1 = some (.tup (bs.map V.int)) → H t2 = some (.tup (rs.map V.int)) → Rp C r H (.hs bs rs) (.ref a)
  | ow {k : Nat} {a : Addr} : r[k]? = some a → Rp C r H (.ow k) (.ref a)
  | scr {a : Addr} {ns : List Int} : SqL C.K H a (ns.map V.int) → Rp C r H (.scr ns) (.ref a)
inductive Rps (C : Hc) (r : List Addr) (H : Hp) : List D → List V → Prop
  | nil : Rps C r H [] []
  | cons {d : D} {v : V} {ds : List D} {vs : List V} : Rp C r H d v → Rps C r H ds vs → Rps C r H (d :: ds) (v :: vs)
end

theorem pre_get {r r' : List Addr} (h : r <+: r') {k : Nat} {a : Addr} (e : r[k]? = some a) : r'[k]? = some a := by
  obtain ⟨t, rfl⟩ := h
  rw [List.getElem?_append_left (List.getElem?_eq_some_iff.mp e).1]
  exact e

mutual
theorem Rp.mono {C : Hc} {r r' : List Addr} {H H' : Hp} (hr : r <+: r') (hs : Same H H') : ∀ {d : D} {v : V}, Rp C r H d v → Rp C r' H' d v
  | _, _, .non => .non
  | _, _, .bl b => .bl b
  | _, _, .int i => .int i
  | _, _, .str x => .str x
  | _, _, .lst h t => .lst (hs _ _ h) (Rps.mono hr hs t)
  | _, _, .tup h t => .tup (hs _ _ h) (Rps.mono hr hs t)
  | _, _, .hs h1 h2 h3 => .hs (hs _ _ h1) (hs _ _ h2) (hs _ _ h3)
  | _, _, .ow e => .ow (pre_get hr e)
  | _, _, .scr e => .scr (Same.seq hs e)
theorem Rps.mono {C : Hc} {r r' : List Addr} {H H' : Hp} (hr : r <+: r') (hs : Same H H') : ∀ {d : List D} {v : List V}, Rps C r H d v → Rps C r' H' d v
  | _, _, .nil => .nil
  | _, _, .cons h t => .cons (Rp.mono hr hs h) (Rps.mono hr hs t)
end
section
variable {C : Hc} {r : List Addr} {H : Hp}
theorem Rps.length : ∀ {ds : List D} {vs : List V}, Rps C r H ds vs → ds.length = vs.length
  | _, _, .nil => rfl
  | _, _, .cons _ t => by rw [List.length_cons, List.length_cons, Rps.length t]
theorem Rps.get : ∀ {ds : List D} {vs : List V} {i : Nat} {d : D}, Rps C r H ds vs → ds[i]? = some d → ∃ v, vs[i]? = some v ∧ Rp C r H d v
  | _, _, _, _, .nil, e => by simp at e
  | _, _, 0, _, .cons h _, e => by simp at e; subst e; exact ⟨_, rfl, h⟩
  | _, _, i + 1, d, .cons _ t, e => by
    obtain ⟨v, h1, h2⟩ := Rps.get (i := i) (d := d) t (by simpa using e)
    exact ⟨v, by simpa using h1, h2⟩
theorem Rps.getv : ∀ {ds : List D} {vs : List V} {i : Nat} {v : V}, Rps C r H ds vs → vs[i]? = some v → ∃ d, ds[i]? = some d ∧ Rp C r H d v
  | _, _, _, _, .nil, e => by simp at e
  | _, _, 0, _, .cons h _, e => by simp at e; subst e; exact ⟨_, rfl, h⟩
  | _, _, i + 1, v, .cons _ t, e => by
    obtain ⟨d, h1, h2⟩ := Rps.getv (i := i) (v := v) t (by simpa using e)
    exact ⟨d, by simpa using h1, h2⟩
theorem Rps.append : ∀ {ds es : List D} {vs ws : List V}, Rps C r H ds vs → Rps C r H es ws → Rps C r H (ds ++ es) (vs ++ ws)
  | _, _, _, _, .nil, t => t
  | _, _, _, _, .cons h t, u => .cons h (Rps.append t u)
theorem Rps.take : ∀ (n : Nat) {ds : List D} {vs : List V}, Rps C r H ds vs → Rps C r H (ds.take n) (vs.take n)
  | 0, _, _, _ => .nil
  | _ + 1, _, _, .nil => .nil
  | n + 1, _, _, .cons h t => .cons h (Rps.take n t)
theorem Rps.drop : ∀ (n : Nat) {ds : List D} {vs : List V}, Rps C r H ds vs → Rps C r H (ds.drop n) (vs.drop n)
  | 0, _, _, t => t
  | _ + 1, _, _, .nil => .nil
  | n + 1, _, _, .cons _ t => Rps.drop n t
theorem Rps.set {d : D} {v : V} (h : Rp C r H d v) : ∀ (i : Nat) {ds : List D} {vs : List V}, Rps C r H ds vs → Rps C r H (ds.set i d) (vs.set i v)
  | _, _, _, .nil => .nil
  | 0, _, _, .cons _ t => .cons h t
  | i + 1, _, _, .cons g t => .cons g (Rps.set h i t)
theorem Rps.reverse : ∀ {ds : List D} {vs : List V}, Rps C r H ds vs → Rps C r H ds.reverse vs.reverse
  | _, _, .nil => .nil
  | _, _, .cons h t => by
    rw [List.reverse_cons, List.reverse_cons]
    exact Rps.append (Rps.reverse t) (.cons h .nil)
theorem Rps.ints : ∀ {ns : List Int} {vs : List V}, Rps C r H (ns.map D.int) vs → vs = ns.map V.int
  | [], _, .nil => rfl
  | _ :: _, _, .cons h t => by
    cases h
    rw [List.map_cons, Rps.ints t]
theorem Rps.ofInts : ∀ (ns : List Int), Rps C r H (ns.map D.int) (ns.map V.int)
  | [] => .nil
  | n :: ns => .cons (.int n) (Rps.ofInts ns)
theorem Rps.bls : ∀ {ns : List Bool} {vs : List V}, Rps C r H (ns.map D.bl) vs → vs = ns.map V.bl
  | [], _, .nil => rfl
  | _ :: _, _, .cons h t => by
    cases h
    rw [List.map_cons, Rps.bls t]
end

/-! ### cells -/
def Lw (r : List Addr) (c : Cells) (a : Addr) : Prop := ∃ (k : Nat) (ds : List D), r[k]? = some a ∧ c[k]? = some (some ds)
/-- what is hidden: what the callers keep for themselves, and the living cells -/
def Lv (S : Addr → Prop) (r : List Addr) (c : Cells) (a : Addr) : Prop := S a ∨ Lw r c a
open Classical in
noncomputable def hid (S : Addr → Prop) (r : List Addr) (c : Cells) (H : Hp) : Hp := fun a => if Lv S r c a then none else H a
theorem hid_some {S : Addr → Prop} {r : List Addr} {c : Cells} {H : Hp} {a : Addr} {o : HO} : hid S r c H a = some o ↔ ¬ Lv S r c a ∧ H a = some o := by
  unfold hid
  by_cases h : Lv S r c a
  · rw [if_pos h]; simp [h]
  · rw [if_neg h]; simp [h]
theorem hid_same {S : Addr → Prop} {r : List Addr} {c : Cells} {H : Hp} : Same (hid S r c H) H := fun _ _ h => (hid_some.mp h).2

structure CelR (S : Addr → Prop) (C : Hc) (r : List Addr) (c : Cells) (H : Hp) : Prop where
  nd : r.Nodup
  sal : ∀ a, S a → H a ≠ none
  dis : ∀ a ∈ r, ¬ S a
  len : r.length = c.length
  al : ∀ a ∈ r, H a ≠ none
  cell : ∀ (k : Nat) (ds : List D), c[k]? = some (some ds) → ∃ (a : Addr) (vs : List V), r[k]? = some a ∧ H a = some (.lst vs) ∧ Rps C r (hid S r c H) ds vs

structure Stp (S : Addr → Prop) (r : List Addr) (c : Cells) (H : Hp) (r' : List Addr) (c' : Cells) (H' : Hp) : Prop where
  ext : r <+: r'
  sm : Same (hid S r c H) (hid S r' c' H')
  al : ∀ a, H a ≠ none → H' a ≠ none
  ks : ∀ a o, S a → H a = some o → H' a = some o
theorem Stp.refl {S : Addr → Prop} {r : List Addr} {c : Cells} {H : Hp} : Stp S r c H r c H := ⟨List.prefix_rfl, Same.refl _, fun _ h => h, fun _ _ _ h => h⟩
theorem Stp.trans {S : Addr → Prop} {r r1 r2 : List Addr} {c c1 c2 : Cells} {H H1 H2 : Hp} (a : Stp S r c H r1 c1 H1) (b : Stp S r1 c1 H1 r2 c2 H2) : Stp S r c H r2 c2 H2 :=
  ⟨a.ext.trans b.ext, a.sm.trans b.sm, fun x h => b.al x (a.al x h), fun x o hs h => b.ks x o hs (a.ks x o hs h)⟩
theorem Rp.stp {S : Addr → Prop} {C : Hc} {r r' : List Addr} {c c' : Cells} {H H' : Hp} (s : Stp S r c H r' c' H') {d : D} {v : V} (h : Rp C r (hid S r c H) d v) : Rp C r' (hid S r' c' H') d v := h.mono s.ext s.sm
theorem Rps.stp {S : Addr → Prop} {C : Hc} {r r' : List Addr} {c c' : Cells} {H H' : Hp} (s : Stp S r c H r' c' H') {d : List D} {v : List V} (h : Rps C r (hid S r c H) d v) : Rps C r' (hid S r' c' H') d v := h.mono s.ext s.sm

theorem ix_inj {r : List Addr} (nd : r.Nodup) {j k : Nat} {a : Addr} (h1 : r[j]? = some a) (h2 : r[k]? = some a) : j = k := by
  obtain ⟨l1, e1⟩ := List.getElem?_eq_some_iff.mp h1
  obtain ⟨l2, e2⟩ := List.getElem?_eq_some_iff.mp h2
  exact (List.getElem_inj nd).mp (e1.trans e2.symm)

section
variable {S : Addr → Prop} {C : Hc} {r : List Addr} {c : Cells} {H : Hp}
theorem CelR.mem (R : CelR S C r c H) {p : Addr} (hp : H p = none) : p ∉ r := fun h => R.al p h hp
theorem not_lv (R : CelR S C r c H) {p : Addr} (hp : H p = none) : ¬ Lv S r c p := fun h => h.elim (fun h => R.sal p h hp) fun ⟨k, _, e, _⟩ => R.mem hp (List.mem_of_getElem? e)
/-- a new object that never changes -/
theorem CelR.laid (R : CelR S C r c H) {p : Addr} (o : HO) (hp : H p = none) : CelR S C r c (upd H p o) ∧ Stp S r c H r c (upd H p o) := by
  have hs : Same (hid S r c H) (hid S r c (upd H p o)) := fun a u e => by
    obtain ⟨h1, h2⟩ := hid_some.mp e
    exact hid_some.mpr ⟨h1, by rw [upd_ne (ne_of_none h2 hp)]; exact h2⟩
  have ha : ∀ a, H a ≠ none → upd H p o a ≠ none := fun a h => by
    by_cases e : a = p
    · subst e; exact absurd hp h
    · rw [upd_ne e]; exact h
  refine ⟨⟨R.nd, fun a h => ha a (R.sal a h), R.dis, R.len, fun a h => ha a (R.al a h), fun k ds e => ?_⟩, List.prefix_rfl, hs, ha, fun a u _ e => by rw [upd_ne (ne_of_none e hp)]; exact e⟩
  obtain ⟨a, vs, h1, h2, h3⟩ := R.cell k ds e
  exact ⟨a, vs, h1, by rw [upd_ne (ne_of_none h2 hp)]; exact h2, h3.mono List.prefix_rfl hs⟩
theorem hid_laid (R : CelR S C r c H) {p : Addr} {o : HO} (hp : H p = none) : hid S r c (upd H p o) p = some o := hid_some.mpr ⟨not_lv R hp, upd_same⟩
theorem lw_append {p a : Addr} {x : Option (List D)} (hl : r.length = c.length) : Lw (r ++ [p]) (c ++ [x]) a ↔ Lw r c a ∨ (a = p ∧ x ≠ none) := by
  constructor
  · rintro ⟨k, ds, h1, h2⟩
    by_cases hk : k < r.length
    · rw [List.getElem?_append_left hk] at h1
      rw [List.getElem?_append_left (by omega)] at h2
      exact .inl ⟨k, ds, h1, h2⟩
    · rw [List.getElem?_append_right (by omega)] at h1
      rw [List.getElem?_append_right (by omega)] at h2
      have e0 : k - r.length = 0 := by
        have q := (List.getElem?_eq_some_iff.mp h1).1
        simp at q
        omega
      rw [e0] at h1
      rw [show k - c.length = 0 by omega] at h2
      simp at h1 h2
      exact .inr ⟨h1.symm, by rw [h2]; simp⟩
  · rintro (⟨k, ds, h1, h2⟩ | ⟨rfl, hx⟩)
    · refine ⟨k, ds, ?_, ?_⟩
      · rw [List.getElem?_append_left (List.getElem?_eq_some_iff.mp h1).1]; exact h1
      · rw [List.getElem?_append_left (List.getElem?_eq_some_iff.mp h2).1]; exact h2
    · obtain ⟨ds, rfl⟩ := Option.ne_none_iff_exists'.mp hx
      exact ⟨r.length, ds, by simp, by rw [hl]; simp⟩
theorem lv_append {p a : Addr} {x : Option (List D)} (hl : r.length = c.length) : Lv S (r ++ [p]) (c ++ [x]) a ↔ Lv S r c a ∨ (a = p ∧ x ≠ none) := by
  unfold Lv
  rw [lw_append hl, or_assoc]
/-- a new list that may change: a cell -/
theorem CelR.grow (R : CelR S C r c H) {p : Addr} {vs : List V} {ds : List D} (hp : H p = none) (hv : Rps C r (hid S r c H) ds vs) :
    CelR S C (r ++ [p]) (c ++ [some ds]) (upd H p (.lst vs)) ∧ Stp S r c H (r ++ [p]) (c ++ [some ds]) (upd H p (.lst vs)) := by
  have hs : Same (hid S r c H) (hid S (r ++ [p]) (c ++ [some ds]) (upd H p (.lst vs))) := fun a u e => by
    obtain ⟨h1, h2⟩ := hid_some.mp e
    refine hid_some.mpr ⟨fun h => ?_, by rw [upd_ne (ne_of_none h2 hp)]; exact h2⟩
    rcases (lv_append R.len).mp h with h | ⟨rfl, _⟩
    · exact h1 h
    · rw [hp] at h2; cases h2
  have ha : ∀ a, H a ≠ none → upd H p (.lst vs) a ≠ none := fun a h => by
    by_cases e : a = p
    · subst e; exact absurd hp h
    · rw [upd_ne e]; exact h
  refine ⟨⟨?_, fun a h => ha a (R.sal a h), fun a h hS => ?_, by simp [R.len], fun a h => ?_, fun k es e => ?_⟩, List.prefix_append _ _, hs, ha, fun a u _ e => by rw [upd_ne (ne_of_none e hp)]; exact e⟩
  · rw [List.nodup_append]
    refine ⟨R.nd, by simp, fun a h b hb e => ?_⟩
    simp at hb
    subst hb
    subst e
    exact R.mem hp h
  · rcases List.mem_append.mp h with h | h
    · exact R.dis a h hS
    · simp at h
      subst h
      exact R.sal a hS hp
  · rcases List.mem_append.mp h with h | h
    · exact ha a (R.al a h)
    · simp at h
      subst h
      rw [upd_same]
      simp
  · by_cases hk : k < c.length
    · rw [List.getElem?_append_left hk] at e
      obtain ⟨a, ws, h1, h2, h3⟩ := R.cell k es e
      refine ⟨a, ws, ?_, by rw [upd_ne (ne_of_none h2 hp)]; exact h2, h3.mono (List.prefix_append _ _) hs⟩
      rw [List.getElem?_append_left (List.getElem?_eq_some_iff.mp h1).1]
      exact h1
    · have q := (List.getElem?_eq_some_iff.mp e).1
      simp at q
      have e0 : k = c.length := by omega
      subst e0
      rw [List.getElem?_append_right (Nat.le_refl _)] at e
      simp at e
      subst e
      exact ⟨p, vs, by rw [← R.len]; simp, upd_same, hv.mono (List.prefix_append _ _) hs⟩
theorem lw_set {k : Nat} {x : Option (List D)} {a : Addr} (hx : x ≠ none ↔ ∃ ds, c[k]? = some (some ds)) : Lw r (c.set k x) a ↔ Lw r c a := by
  constructor
  · rintro ⟨j, ds, h1, h2⟩
    by_cases e : k = j
    · subst e
      have hk : k < c.length := by
        have q := (List.getElem?_eq_some_iff.mp h2).1
        simpa using q
      rw [List.getElem?_set_self hk] at h2
      obtain ⟨es, he⟩ := hx.mp (by rw [Option.some.inj h2]; simp)
      exact ⟨k, es, h1, he⟩
    · rw [List.getElem?_set_ne e] at h2
      exact ⟨j, ds, h1, h2⟩
  · rintro ⟨j, ds, h1, h2⟩
    by_cases e : k = j
    · subst e
      have hk : k < c.length := (List.getElem?_eq_some_iff.mp h2).1
      obtain ⟨es, he⟩ := Option.ne_none_iff_exists'.mp (hx.mpr ⟨ds, h2⟩)
      exact ⟨k, es, h1, by rw [List.getElem?_set_self hk, he]⟩
    · exact ⟨j, ds, h1, by rw [List.getElem?_set_ne e]; exact h2⟩
theorem lv_set {k : Nat} {x : Option (List D)} {a : Addr} (hx : x ≠ none ↔ ∃ ds, c[k]? = some (some ds)) : Lv S r (c.set k x) a ↔ Lv S r c a := by
  unfold Lv
  rw [lw_set hx]
/-- a cell's list is written -/
theorem CelR.write (R : CelR S C r c H) {k : Nat} {a : Addr} {ds es : List D} {vs : List V} (hc : c[k]? = some (some ds)) (ha : r[k]? = some a) (hv : Rps C r (hid S r c H) es vs) :
    CelR S C r (c.set k (some es)) (upd H a (.lst vs)) ∧ Stp S r c H r (c.set k (some es)) (upd H a (.lst vs)) := by
  have hk : k < c.length := (List.getElem?_eq_some_iff.mp hc).1
  have hlv : ∀ b, Lv S r (c.set k (some es)) b ↔ Lv S r c b := fun b => lv_set ⟨fun _ => ⟨ds, hc⟩, fun _ => by simp⟩
  have hs : Same (hid S r c H) (hid S r (c.set k (some es)) (upd H a (.lst vs))) := fun b u e => by
    obtain ⟨h1, h2⟩ := hid_some.mp e
    refine hid_some.mpr ⟨fun h => h1 ((hlv b).mp h), ?_⟩
    rw [upd_ne (fun e => h1 (by subst e; exact .inr ⟨k, ds, ha, hc⟩))]
    exact h2
  have hal : ∀ b, H b ≠ none → upd H a (.lst vs) b ≠ none := fun b h => by
    by_cases e : b = a
    · subst e; rw [upd_same]; simp
    · rw [upd_ne e]; exact h
  refine ⟨⟨R.nd, fun b h => hal b (R.sal b h), R.dis, by simp [R.len], fun b h => hal b (R.al b h), fun j gs e => ?_⟩, List.prefix_rfl, hs, hal, fun b u hS e => by rw [upd_ne (fun (z : b = a) => R.dis a (List.mem_of_getElem? ha) (z ▸ hS))]; exact e⟩
  by_cases ej : k = j
  · subst ej
    rw [List.getElem?_set_self hk] at e
    have e' : es = gs := by simpa using e
    subst e'
    exact ⟨a, vs, ha, upd_same, hv.mono List.prefix_rfl hs⟩
  · rw [List.getElem?_set_ne ej] at e
    obtain ⟨b, ws, h1, h2, h3⟩ := R.cell j gs e
    refine ⟨b, ws, h1, ?_, h3.mono List.prefix_rfl hs⟩
    rw [upd_ne (fun eb => ej (by subst eb; exact ix_inj R.nd ha h1))]
    exact h2
/-- some cells' lists never change from here on -/
theorem CelR.kill (R : CelR S C r c H) {c' : Cells} (hl : c'.length = c.length) (h : ∀ (k : Nat) (ds : List D), c'[k]? = some (some ds) → c[k]? = some (some ds)) : CelR S C r c' H ∧ Stp S r c H r c' H := by
  have hs : Same (hid S r c H) (hid S r c' H) := fun b u e => by
    obtain ⟨h1, h2⟩ := hid_some.mp e
    exact hid_some.mpr ⟨fun z => h1 (z.elim .inl fun ⟨k, ds, q1, q2⟩ => .inr ⟨k, ds, q1, h k ds q2⟩), h2⟩
  refine ⟨⟨R.nd, R.sal, R.dis, by rw [R.len, hl], R.al, fun k ds e => ?_⟩, List.prefix_rfl, hs, fun _ h => h, fun _ _ _ h => h⟩
  obtain ⟨a, vs, h1, h2, h3⟩ := R.cell k ds (h k ds e)
  exact ⟨a, vs, h1, h2, h3.mono List.prefix_rfl hs⟩
end
end CD

/-! CDb: what a piece of a program does to data and cells, and that the judgements hold of it. -/
namespace CD
open PySem PySem.Spec PyProof.Rows L2

structure En where
  sl : List (Option D)
  c : Cells
inductive Res (α : Type) where
  | ok (a : α) | exc (n : Str) (d : D)
abbrev M (α : Type) := En → Option (Res α × En)
def pureM {α : Type} (a : α) : M α := fun e => some (.ok a, e)
def bindM {α β : Type} (f : M α) (g : α → M β) : M β := fun e => match f e with
  | none => none
  | some (.ok a, e') => g a e'
  | some (.exc n d, e') => some (.exc n d, e')
def failM {α : Type} : M α := fun _ => none
structure Par where
  K : PySem.W.Frag
  C : Hc
  E : XK
  xa : Str → Addr
  S : Addr → Prop

structure Rl (G : Par) (r : List Addr) (en : En) (σ : L2.St) (H : Hp) : Prop where
  cr : CelR G.S G.C r en.c H
  len : en.sl.length = σ.length
  slot : ∀ (i : Nat) (d : D), en.sl[i]? = some (some d) → ∃ v, σ[i]? = some (some v) ∧ Rp G.C r (hid G.S r en.c H) d v

theorem Rl.stp {G : Par} {r r' : List Addr} {sl : List (Option D)} {c c' : Cells} {σ : L2.St} {H H' : Hp} (R : Rl G r ⟨sl, c⟩ σ H) (cr : CelR G.S G.C r' c' H') (s : Stp G.S r c H r' c' H') : Rl G r' ⟨sl, c'⟩ σ H' :=
  ⟨cr, R.len, fun i d e => let ⟨v, h1, h2⟩ := R.slot i d e; ⟨v, h1, h2.stp s⟩⟩

/-- what is wanted of an exception -/
def ExQ (G : Par) (r : List Addr) (c : Cells) (n : Str) (d : D) (H : Hp) : Prop := ∀ dx v, H dx = some (.xd [("value", v)]) → Rp G.C r (hid G.S r c H) d v → G.E (.ref (G.xa n)) (some dx) H

abbrev Rel (α β : Type) := Par → List Addr → Cells → Hp → α → β → Prop
def rD : Rel D V := fun G r c H d v => Rp G.C r (hid G.S r c H) d v
def rL : Rel (List D) (List V) := fun G r c H d v => Rps G.C r (hid G.S r c H) d v
def rB : Rel Bool Bool := fun _ _ _ _ b b' => b = b'
def PostG {α β : Type} (G : Par) (R : Rel α β) (r : List Addr) (en : En) (σ : L2.St) (H : Hp) (x : Res α × En) (Q : β → Hp → Prop) : Prop :=
  ∀ r' H', Stp G.S r en.c H r' x.2.c H' → Rl G r' x.2 σ H' → match x.1 with
    | .ok a => ∀ v, R G r' x.2.c H' a v → Q v H'
    | .exc n d => ExQ G r' x.2.c n d H'
def tG {α β : Type} (G : Par) (R : Rel α β) (f : M α) : L2.St → Hp → (β → Hp → Prop) → Prop := fun σ H Q => ∃ r en x, Rl G r en σ H ∧ f en = some x ∧ PostG G R r en σ H x Q
abbrev tE (G : Par) (f : M D) : TE := tG G rD f
abbrev tA (G : Par) (f : M (List D)) : TA := tG G rL f
abbrev tT (G : Par) (f : M Bool) : TT := tG G rB f

section
variable {G : Par} {α β γ δ : Type} {Ra : Rel α β} {Rb : Rel γ δ} {r : List Addr} {en : En} {σ : L2.St} {H : Hp}
theorem PostG.stp {x : Res α × En} {Q : β → Hp → Prop} {r1 : List Addr} {en1 : En} {H1 : Hp} (s : Stp G.S r en.c H r1 en1.c H1) (p : PostG G Ra r en σ H x Q) : PostG G Ra r1 en1 σ H1 x Q :=
  fun r' H' s' R => p r' H' (s.trans s') R
/-- what holds between two pieces -/
structure Mid (G : Par) (Ra : Rel α β) (Rb : Rel γ δ) (r : List Addr) (en : En) (σ : L2.St) (H : Hp) (g : α → M γ) (x : Res γ × En) (Q : δ → Hp → Prop) (v : β) (r1 : List Addr) (en1 : En) (a : α) (H1 : Hp) : Prop where
  s : Stp G.S r en.c H r1 en1.c H1
  R : Rl G r1 en1 σ H1
  ha : Ra G r1 en1.c H1 a v
  run : g a en1 = some x
  post : PostG G Rb r1 en1 σ H1 x Q
theorem bindG {f : M α} {g : α → M γ} {x : Res γ × En} {Q : δ → Hp → Prop} (R : Rl G r en σ H) (e : bindM f g en = some x) (p : PostG G Rb r en σ H x Q) :
    tG G Ra f σ H fun v H1 => ∃ r1 en1 a, Mid G Ra Rb r en σ H g x Q v r1 en1 a H1 := by
  unfold bindM at e
  cases hf : f en with
  | none => rw [hf] at e; cases e
  | some y =>
    rw [hf] at e
    obtain ⟨y1, en1⟩ := y
    cases y1 with
    | ok a =>
      refine ⟨r, en, (.ok a, en1), R, hf, fun r1 H1 s R1 v hv => ⟨r1, en1, a, s, R1, hv, e, p.stp s⟩⟩
    | exc n d =>
      cases e
      exact ⟨r, en, (.exc n d, en1), R, hf, fun r1 H1 s R1 => p r1 H1 s R1⟩
/-- the end of a piece that changes nothing -/
theorem PostG.here {x : Res α × En} {a : α} {v : β} {Q : β → Hp → Prop} (R : Rl G r en σ H) (p : PostG G Ra r en σ H x Q) (e : pureM a en = some x) (h : Ra G r en.c H a v) : Q v H := by
  cases e
  exact p r H Stp.refl R v h
theorem PostG.laid {x : Res α × En} {a : α} {v : β} {Q : β → Hp → Prop} (R : Rl G r en σ H) (p : PostG G Ra r en σ H x Q) (e : pureM a en = some x) {q : Addr} {o : HO} (hq : H q = none)
    (h : Ra G r en.c (upd H q o) a v) : Q v (upd H q o) := by
  cases e
  obtain ⟨c1, s1⟩ := R.cr.laid o hq
  exact p r (upd H q o) s1 (R.stp c1 s1) v h
end

theorem tG.imp {α β : Type} {G : Par} {Ra : Rel α β} {f : M α} {σ : L2.St} {H : Hp} {Q Q' : β → Hp → Prop} (h : tG G Ra f σ H Q) (m : ∀ v H', Q v H' → Q' v H') : tG G Ra f σ H Q' := by
  obtain ⟨r, en, x, R, e, p⟩ := h
  refine ⟨r, en, x, R, e, fun r' H' s R' => ?_⟩
  have q := p r' H' s R'
  cases h1 : x.1 with
  | exc n d => rw [h1] at q; exact q
  | ok a => rw [h1] at q; exact fun v hv => m _ _ (q v hv)

/-! ### consequences -/
section
variable {X : Cx}
theorem _root_.L2.PE.mono {e : Expr} {t t' : TE} (h : PE X e t) (m : ∀ σ H Q, t' σ H Q → t σ H Q) : PE X e t' := ⟨fun pins s σ H Q I q => h.run pins s σ H Q I (m _ _ _ q)⟩
theorem _root_.L2.PA.mono {es : List Expr} {t t' : TA} (h : PA X es t) (m : ∀ σ H Q, t' σ H Q → t σ H Q) : PA X es t' := ⟨fun pos pins s σ H Q I q => h.run pos pins s σ H Q I (m _ _ _ q)⟩
theorem _root_.L2.PT.mono {e : Expr} {t t' : TT} (h : PT X e t) (m : ∀ σ H Q, t' σ H Q → t σ H Q) : PT X e t' := ⟨fun pins s σ H Q I q => h.run pins s σ H Q I (m _ _ _ q)⟩
theorem _root_.L2.PS.mono {st : Stmt} {t t' : TS} (h : PS X st t) (m : ∀ D σ H, t' D σ H → t D σ H) : PS X st t' := ⟨fun pins s σ H D I q => h.run pins s σ H D I (m _ _ _ q)⟩
theorem _root_.L2.PSs.mono {st : List Stmt} {t t' : TS} (h : PSs X st t) (m : ∀ D σ H, t' D σ H → t D σ H) : PSs X st t' := ⟨fun pins s σ H D I q => h.run pins s σ H D I (m _ _ _ q)⟩
theorem _root_.L2.PI.mono {tg it : Expr} {t t' : TI} (h : PI X tg it t) (m : ∀ σ H Q, t' σ H Q → t σ H Q) : PI X tg it t' := ⟨fun pins s σ H Q I q => h.run pins s σ H Q I (m _ _ _ q)⟩
theorem _root_.L2.PTs.mono {es : List Expr} {t t' : TT} (h : PTs X es t) (m : ∀ σ H Q, t' σ H Q → t σ H Q) : PTs X es t' := ⟨fun pins s σ H Q I q => h.run pins s σ H Q I (m _ _ _ q)⟩
end

/-! ### names, constants -/
def nmM (i : Nat) : M D := fun en => match en.sl[i]? with
  | some (some d) => some (.ok d, en)
  | _ => none
section
variable {X : Cx} {G : Par}
theorem d_nm {i : Nat} {e : Expr} (h : PE X e (tVar i)) : PE X e (tE G (nmM i)) := h.mono fun σ H Q ⟨r, en, x, R, hx, p⟩ => by
  unfold nmM at hx
  split at hx
  · rename_i d e
    obtain ⟨v, h1, h2⟩ := R.slot i d e
    exact ⟨v, h1, p.here R hx h2⟩
  · cases hx
theorem d_const {e : Expr} {v : V} {d : D} (h : PE X e (tC v)) (hd : ∀ C r H, Rp C r H d v) : PE X e (tE G (pureM d)) := h.mono fun σ H Q ⟨r, en, x, R, hx, p⟩ => p.here R hx (hd _ _ _)
theorem d_int {i : Int} {j pos} : PE X (.Constant (.int i) j pos) (tE G (pureM (.int i))) := d_const pe_int fun _ _ _ => .int i
theorem d_bl {i : Bool} {j pos} : PE X (.Constant (.bool i) j pos) (tE G (pureM (.bl i))) := d_const pe_bl fun _ _ _ => .bl i
theorem d_non {j pos} : PE X (.Constant .none j pos) (tE G (pureM .non)) := d_const pe_non fun _ _ _ => .non
theorem d_str {i : Str} {j pos} : PE X (.Constant (.str i) j pos) (tE G (pureM (.str i))) := d_const pe_str fun _ _ _ => .str i

/-! ### operators -/
/-- by values: r does what g says -/
def Op2 (G : Par) (r2 : R2) (g : D → D → M D) : Prop := ∀ (r : List Addr) (en : En) (σ : L2.St) (H : Hp) (a b : D) (x y : V) (z : Res D × En) (Q : VK), Rl G r en σ H → rD G r en.c H a x → rD G r en.c H b y → g a b en = some z →
  PostG G rD r en σ H z Q → r2 x y H Q
def Op1 (G : Par) (r1 : V → Hp → VK → Prop) (g : D → M D) : Prop := ∀ (r : List Addr) (en : En) (σ : L2.St) (H : Hp) (a : D) (x : V) (z : Res D × En) (Q : VK), Rl G r en σ H → rD G r en.c H a x → g a en = some z →
  PostG G rD r en σ H z Q → r1 x H Q
def OpL (G : Par) (rl : List V → Hp → VK → Prop) (g : List D → M D) : Prop := ∀ (r : List Addr) (en : En) (σ : L2.St) (H : Hp) (a : List D) (x : List V) (z : Res D × En) (Q : VK), Rl G r en σ H → rL G r en.c H a x → g a en = some z →
  PostG G rD r en σ H z Q → rl x H Q
def binM (g : D → D → M D) (fa fb : M D) : M D := bindM fa fun a => bindM fb fun b => g a b
theorem t_op {r2 : R2} {g : D → D → M D} {fa fb : M D} (hg : Op2 G r2 g) : ∀ σ H Q, tE G (binM g fa fb) σ H Q → tOp r2 (tE G fa) (tE G fb) σ H Q := by
  rintro σ H Q ⟨r, en, x, R, hx, p⟩
  refine (bindG (Ra := rD) R hx p).imp fun v H1 ⟨r1, en1, a1, m1⟩ => ?_
  refine (bindG (Ra := rD) m1.R m1.run m1.post).imp fun w H2 ⟨r2', en2, b1, m2⟩ => ?_
  exact hg r2' en2 σ H2 a1 b1 v w x Q m2.R (Rp.stp m2.s m1.ha) m2.ha m2.run m2.post
end
end CD

/-! CDc: operators, subscripts, displays. -/
namespace CD
open PySem PySem.Spec PyProof.Rows L2

theorem OpR.or2 {X : Cx} {f : Value → Value → Sem Value} {r r' : R2} (h : OpR X f r) (h' : OpR X f r') : OpR X f (fun x y H Q => r x y H Q ∨ r' x y H Q) := by
  intro pins s σ H x y v u Q I rx ry q
  rcases q with q | q
  · exact h pins s σ H x y v u Q I rx ry q
  · exact h' pins s σ H x y v u Q I rx ry q

def lstOf (c : Cells) : D → Option (List D)
  | .lst ds => some ds
  | .ow k => match c[k]? with
    | some (some ds) => some ds
    | _ => none
  | _ => none
/-- a list that may be read -/
def rdOf (c : Cells) : D → Option (List D)
  | .scr ns => some (ns.map D.int)
  | d => lstOf c d
def tupOf : D → Option (List D)
  | .tup ds => some ds
  | _ => none
def retM (d : D) : M D := pureM d
/-- a new list that stays as it is -/
def newL (ds : List D) : M D := fun en => if ds.length ≤ sizeLine then some (.ok (.lst ds), en) else none
def newT (ds : List D) : M D := fun en => if ds.length ≤ sizeLine then some (.ok (.tup ds), en) else none
/-- a new list that may change -/
def newC (ds : List D) : M D := fun en => if ds.length ≤ sizeLine then some (.ok (.ow en.c.length), ⟨en.sl, en.c ++ [some ds]⟩) else none
def setC (k : Nat) (ds : List D) (d : D) : M D := fun en => some (.ok d, ⟨en.sl, en.c.set k (some ds)⟩)

section
variable {G : Par} {r : List Addr} {en : En} {σ : L2.St} {H : Hp} {Q : VK} {x : Res D × En}
theorem Rl.list {d : D} {v : V} {ds : List D} (R : Rl G r en σ H) (h : rD G r en.c H d v) (e : lstOf en.c d = some ds) : ∃ a vs, v = .ref a ∧ H a = some (.lst vs) ∧ Rps G.C r (hid G.S r en.c H) ds vs := by
  unfold lstOf at e
  split at e
  · cases e
    cases h with
    | lst h1 h2 => exact ⟨_, _, rfl, hid_same _ _ h1, h2⟩
  · rename_i k
    split at e
    · rename_i es hk
      cases e
      obtain ⟨a, vs, h1, h2, h3⟩ := R.cr.cell k ds hk
      cases h with
      | ow hr =>
        rw [h1] at hr
        cases hr
        exact ⟨a, vs, rfl, h2, h3⟩
    · cases e
  · cases e
theorem Rl.read {d : D} {v : V} {ds : List D} (R : Rl G r en σ H) (h : rD G r en.c H d v) (e : rdOf en.c d = some ds) : ∃ a vs, v = .ref a ∧ SqL G.C.K H a vs ∧ Rps G.C r (hid G.S r en.c H) ds vs := by
  unfold rdOf at e
  split at e
  · rename_i ns
    cases e
    cases h with
    | scr h1 => exact ⟨_, _, rfl, Same.seq hid_same h1, Rps.ofInts ns⟩
  · obtain ⟨a, vs, h1, h2, h3⟩ := R.list h e
    exact ⟨a, vs, h1, SqL.of h2, h3⟩
theorem Rl.tupl {d : D} {v : V} {ds : List D} (h : rD G r en.c H d v) (e : tupOf d = some ds) : ∃ a vs, v = .ref a ∧ H a = some (.tup vs) ∧ Rps G.C r (hid G.S r en.c H) ds vs := by
  unfold tupOf at e
  split at e
  · cases e
    cases h with
    | tup h1 h2 => exact ⟨_, _, rfl, hid_same _ _ h1, h2⟩
  · cases e
theorem PostG.newL {ds : List D} {vs : List V} (R : Rl G r en σ H) (p : PostG G rD r en σ H x Q) (e : newL ds en = some x) (h : Rps G.C r (hid G.S r en.c H) ds vs) : vs.length ≤ sizeLine ∧ ∀ q, H q = none → Q (.ref q) (upd H q (.lst vs)) := by
  unfold CD.newL at e
  split at e
  · rename_i hl
    refine ⟨by rw [← h.length]; exact hl, fun q hq => ?_⟩
    cases e
    obtain ⟨c1, s1⟩ := R.cr.laid (.lst vs) hq
    exact p r _ s1 (R.stp c1 s1) _ (.lst (hid_laid R.cr hq) (h.stp s1))
  · cases e
theorem PostG.newT {ds : List D} {vs : List V} (R : Rl G r en σ H) (p : PostG G rD r en σ H x Q) (e : newT ds en = some x) (h : Rps G.C r (hid G.S r en.c H) ds vs) : vs.length ≤ sizeLine ∧ ∀ q, H q = none → Q (.ref q) (upd H q (.tup vs)) := by
  unfold CD.newT at e
  split at e
  · rename_i hl
    refine ⟨by rw [← h.length]; exact hl, fun q hq => ?_⟩
    cases e
    obtain ⟨c1, s1⟩ := R.cr.laid (.tup vs) hq
    exact p r _ s1 (R.stp c1 s1) _ (.tup (hid_laid R.cr hq) (h.stp s1))
  · cases e
theorem PostG.newC {ds : List D} {vs : List V} (R : Rl G r en σ H) (p : PostG G rD r en σ H x Q) (e : newC ds en = some x) (h : Rps G.C r (hid G.S r en.c H) ds vs) : vs.length ≤ sizeLine ∧ ∀ q, H q = none → Q (.ref q) (upd H q (.lst vs)) := by
  unfold CD.newC at e
  split at e
  · rename_i hl
    refine ⟨by rw [← h.length]; exact hl, fun q hq => ?_⟩
    cases e
    obtain ⟨c1, s1⟩ := R.cr.grow hq h
    exact p _ _ s1 (R.stp c1 s1) _ (.ow (by rw [← R.cr.len]; simp))
  · cases e
theorem PostG.setC {k : Nat} {ds es : List D} {d : D} {a : Addr} {v : V} {vs : List V} (R : Rl G r en σ H) (p : PostG G rD r en σ H x Q) (e : setC k es d en = some x) (hk : en.c[k]? = some (some ds)) (ha : r[k]? = some a) (h : Rps G.C r (hid G.S r en.c H) es vs)
    (hd : rD G r en.c H d v) : Q v (upd H a (.lst vs)) := by
  unfold CD.setC at e
  cases e
  obtain ⟨c1, s1⟩ := R.cr.write hk ha h
  exact p _ _ s1 (R.stp c1 s1) _ (Rp.stp s1 hd)
end

/-! ### arithmetic -/
def addG (mk : List D → M D) : D → D → M D
  | .int i, .int j => pureM (.int (i + j))
  | .str i, .str j => fun en => if i.length + j.length ≤ sizeLine then some (.ok (.str (i ++ j)), en) else none
  | a, b => fun en => match lstOf en.c a, lstOf en.c b with
    | some x, some y => mk (x ++ y) en
    | _, _ => none
def subG : D → D → M D
  | .int i, .int j => pureM (.int (i - j))
  | _, _ => failM
def mulG : D → D → M D
  | .int i, .int j => fun en => if i.natAbs.log2 + j.natAbs.log2 < 1000000 then some (.ok (.int (i * j)), en) else none
  | _, _ => failM
def repG (mk : List D → M D) : D → D → M D
  | a, .int k => fun en => match lstOf en.c a with
    | some x => if -(2 ^ 63) ≤ k ∧ k < 2 ^ 63 ∧ x.length * k.toNat ≤ sizeLine then mk (List.replicate k.toNat x).flatten en else none
    | none => none
  | _, _ => failM
def divG : D → D → M D
  | .int i, .int j => fun en => if 0 < j ∧ j.natAbs.log2 < 9000 then some (.ok (.int (i / j)), en) else none
  | _, _ => failM
def modG : D → D → M D
  | .int i, .int j => fun en => if 0 < j then some (.ok (.int (i % j)), en) else none
  | _, _ => failM
def powG : D → D → M D
  | .int i, .int j => fun en => if 0 ≤ j ∧ j ≤ 1000000 ∧ i.natAbs < 2 ^ 64 then some (.ok (.int (i ^ j.toNat)), en) else none
  | _, _ => failM
def negG : D → M D
  | .int i => pureM (.int (-i))
  | _ => failM

/-- how a new list is kept: as data, or as a cell -/
structure Mk1 (mk : List D → M D) : Prop where
  post : ∀ {G : Par} {r : List Addr} {en : En} {σ : L2.St} {H : Hp} {Q : VK} {x : Res D × En} {ds : List D} {vs : List V}, Rl G r en σ H → PostG G rD r en σ H x Q → mk ds en = some x → Rps G.C r (hid G.S r en.c H) ds vs →
    vs.length ≤ sizeLine ∧ ∀ q, H q = none → Q (.ref q) (upd H q (.lst vs))
theorem mkL : Mk1 newL := ⟨fun R p e h => p.newL R e h⟩
theorem mkC : Mk1 newC := ⟨fun R p e h => p.newC R e h⟩

section
variable {X : Cx} {G : Par}
def rAddA : R2 := fun x y H Q => (rI0 (fun i j => .int (i + j)) x y H Q ∨ (∃ i j, x = .str i ∧ y = .str j ∧ i.length + j.length ≤ sizeLine ∧ Q (.str (i ++ j)) H)) ∨ rCat x y H Q
theorem op_addA : OpR X (binaryOp .Add) rAddA := OpR.or2 (OpR.or2 op_add op_add_str) op_cat
theorem o_add {mk : List D → M D} (hm : Mk1 mk) : Op2 G rAddA (addG mk) := by
  intro r en σ H a b x y z Q R hx hy e p
  unfold addG at e
  split at e
  · cases hx; cases hy
    exact .inl (.inl ⟨_, _, rfl, rfl, p.here R e (.int _)⟩)
  · cases hx; cases hy
    split at e
    · rename_i hl
      exact .inl (.inr ⟨_, _, rfl, rfl, hl, p.here R e (.str _)⟩)
    · cases e
  · dsimp only at e
    split at e
    · rename_i x' y' ex ey
      obtain ⟨a1, v1, rfl, h1, r1⟩ := R.list hx ex
      obtain ⟨a2, v2, rfl, h2, r2⟩ := R.list hy ey
      have q := hm.post R p e (r1.append r2)
      rw [List.length_append] at q
      exact .inr ⟨a1, a2, v1, v2, rfl, rfl, h1, h2, q⟩
    · cases e
theorem o_sub : Op2 G (rI0 fun i j => .int (i - j)) subG := by
  intro r en σ H a b x y z Q R hx hy e p
  unfold subG at e
  split at e
  · cases hx; cases hy
    exact ⟨_, _, rfl, rfl, p.here R e (.int _)⟩
  · cases e
theorem o_mul : Op2 G (rI CMulW fun i j => .int (i * j)) mulG := by
  intro r en σ H a b x y z Q R hx hy e p
  unfold mulG at e
  split at e
  · cases hx; cases hy
    split at e
    · rename_i h; exact ⟨_, _, rfl, rfl, h, p.here R e (.int _)⟩
    · cases e
  · cases e
theorem o_rep {mk : List D → M D} (hm : Mk1 mk) : Op2 G rRep (repG mk) := by
  intro r en σ H a b x y z Q R hx hy e p
  unfold repG at e
  split at e
  · cases hy
    split at e
    · rename_i k _ x' ex
      split at e
      · rename_i h
        obtain ⟨a1, v1, rfl, h1, r1⟩ := R.list hx ex
        have hrep : ∀ n : Nat, Rps G.C r (hid G.S r en.c H) (List.replicate n x').flatten (List.replicate n v1).flatten := fun n => by
          induction n with
          | zero => exact .nil
          | succ n ih =>
            rw [List.replicate_succ, List.replicate_succ, List.flatten_cons, List.flatten_cons]
            exact r1.append ih
        have q := hm.post R p e (hrep k.toNat)
        exact ⟨a1, k, v1, rfl, rfl, h1, h.1, h.2.1, by rw [← r1.length]; exact h.2.2, q.2⟩
      · cases e
    · cases e
  · cases e
theorem o_div : Op2 G (rI CDivW fun i j => .int (i / j)) divG := by
  intro r en σ H a b x y z Q R hx hy e p
  unfold divG at e
  split at e
  · cases hx; cases hy
    split at e
    · rename_i h; exact ⟨_, _, rfl, rfl, h, p.here R e (.int _)⟩
    · cases e
  · cases e
theorem o_mod : Op2 G (rI (fun _ j => 0 < j) fun i j => .int (i % j)) modG := by
  intro r en σ H a b x y z Q R hx hy e p
  unfold modG at e
  split at e
  · cases hx; cases hy
    split at e
    · rename_i h; exact ⟨_, _, rfl, rfl, h, p.here R e (.int _)⟩
    · cases e
  · cases e
theorem o_pow : Op2 G (rI CPow fun i j => .int (i ^ j.toNat)) powG := by
  intro r en σ H a b x y z Q R hx hy e p
  unfold powG at e
  split at e
  · cases hx; cases hy
    split at e
    · rename_i h; exact ⟨_, _, rfl, rfl, h, p.here R e (.int _)⟩
    · cases e
  · cases e
variable {a b : Expr} {fa fb : M D} {pos : Pos}
theorem d_bin {op : Operator} {r2 : R2} {g : D → D → M D} (ho : OpR X (binaryOp op) r2) (hg : Op2 G r2 g) (ha : PE X a (tE G fa)) (hb : PE X b (tE G fb)) : PE X (.BinOp a op b pos) (tE G (binM g fa fb)) := (pe_op ho ha hb).mono (t_op hg)
theorem d_add {mk : List D → M D} (hm : Mk1 mk) (ha : PE X a (tE G fa)) (hb : PE X b (tE G fb)) : PE X (.BinOp a .Add b pos) (tE G (binM (addG mk) fa fb)) := d_bin op_addA (o_add hm) ha hb
theorem d_sub (ha : PE X a (tE G fa)) (hb : PE X b (tE G fb)) : PE X (.BinOp a .Sub b pos) (tE G (binM subG fa fb)) := d_bin op_sub o_sub ha hb
theorem d_mul (ha : PE X a (tE G fa)) (hb : PE X b (tE G fb)) : PE X (.BinOp a .Mult b pos) (tE G (binM mulG fa fb)) := d_bin op_mulW o_mul ha hb
theorem d_rep {mk : List D → M D} (hm : Mk1 mk) (ha : PE X a (tE G fa)) (hb : PE X b (tE G fb)) : PE X (.BinOp a .Mult b pos) (tE G (binM (repG mk) fa fb)) := d_bin op_rep (o_rep hm) ha hb
theorem d_div (ha : PE X a (tE G fa)) (hb : PE X b (tE G fb)) : PE X (.BinOp a .FloorDiv b pos) (tE G (binM divG fa fb)) := d_bin op_fdivW o_div ha hb
theorem d_mod (ha : PE X a (tE G fa)) (hb : PE X b (tE G fb)) : PE X (.BinOp a .Mod b pos) (tE G (binM modG fa fb)) := d_bin op_mod o_mod ha hb
theorem d_pow (ha : PE X a (tE G fa)) (hb : PE X b (tE G fb)) : PE X (.BinOp a .Pow b pos) (tE G (binM powG fa fb)) := d_bin op_pow o_pow ha hb
theorem d_neg (ha : PE X a (tE G fa)) : PE X (.UnaryOp .USub a pos) (tE G (bindM fa negG)) := (pe_un un_neg ha).mono fun σ H Q ⟨r, en, x, R, hx, p⟩ =>
  (bindG (Ra := rD) R hx p).imp fun v H1 ⟨r1, en1, a1, m⟩ => by
    have e := m.run
    unfold negG at e
    split at e
    · cases m.ha
      exact ⟨_, rfl, m.post.here m.R e (.int _)⟩
    · cases e

/-! ### subscripts -/
def ixG : D → D → M D
  | a, .int i => fun en => match lstOf en.c a with
    | some x => (match atI x i with
      | some d => some (.ok d, en)
      | none => none)
    | none => match tupOf a with
      | some x => (match atI x i with
        | some d => some (.ok d, en)
        | none => none)
      | none => none
  | _, _ => failM
theorem Rps.atI {C : Hc} {r : List Addr} {H : Hp} {ds : List D} {vs : List V} {i : Int} {d : D} (h : Rps C r H ds vs) (e : atI ds i = some d) : ∃ v, L2.atI vs i = some v ∧ Rp C r H d v := by
  unfold L2.atI at e ⊢
  rw [← h.length]
  cases hj : ixN ds.length i with
  | none => rw [hj] at e; cases e
  | some j =>
    rw [hj] at e
    exact h.get e
theorem o_ix {K : PySem.W.Frag} : Op2 G (fun x y H Q => rIxL K x y H Q ∨ rIxT K x y H Q) ixG := by
  intro r en σ H a b x y z Q R hx hy e p
  unfold ixG at e
  split at e
  · cases hy
    split at e
    · rename_i i _ x' ex
      split at e
      · rename_i d ed
        obtain ⟨a1, v1, rfl, h1, r1⟩ := R.list hx ex
        obtain ⟨v, h2, h3⟩ := r1.atI ed
        exact .inl ⟨a1, v1, i, v, rfl, rfl, SqL.of h1, h2, p.here R e h3⟩
      · cases e
    · rename_i i _ ex
      split at e
      · rename_i x' ex'
        split at e
        · rename_i d ed
          obtain ⟨a1, v1, rfl, h1, r1⟩ := Rl.tupl hx ex'
          obtain ⟨v, h2, h3⟩ := r1.atI ed
          exact .inr ⟨a1, v1, i, v, rfl, rfl, SqT.of h1, h2, p.here R e h3⟩
        · cases e
      · cases e
  · cases e
theorem d_ix (ha : PE X a (tE G fa)) (hb : PE X b (tE G fb)) (hs : PlainIx b) : PE X (.Subscript a b pos) (tE G (binM ixG fa fb)) := (pe_ix (IxR.or ix_list ix_tup) ha hb hs).mono (t_op o_ix)

/-! ### argument lists, displays -/
def consM (f : M D) (g : M (List D)) : M (List D) := bindM f fun d => bindM g fun ds => pureM (d :: ds)
theorem da_nil : PA X [] (tA G (pureM [])) := pa_nil.mono fun σ H Q ⟨r, en, x, R, hx, p⟩ => p.here R hx .nil
theorem da_cons {e : Expr} {es : List Expr} {f : M D} {g : M (List D)} (ha : PE X e (tE G f)) (hr : PA X es (tA G g)) (hs : starEach (e :: es) X.env = (false, eval e X.env) :: starEach es X.env := by rfl) : PA X (e :: es) (tA G (consM f g)) :=
  (pa_cons ha hr hs).mono fun σ H Q ⟨r, en, x, R, hx, p⟩ => (bindG (Ra := rD) R hx p).imp fun v H1 ⟨r1, en1, a1, m1⟩ => (bindG (Ra := rL) m1.R m1.run m1.post).imp fun w H2 ⟨r2, en2, b1, m2⟩ =>
    m2.post.here m2.R m2.run (.cons (Rp.stp m2.s m1.ha) m2.ha)
theorem d_lst {mk : List D → M D} (hm : Mk1 mk) {es : List Expr} {g : M (List D)} (h : PA X es (tA G g)) : PE X (.List es pos) (tE G (bindM g mk)) := (pe_lst h).mono fun σ H Q ⟨r, en, x, R, hx, p⟩ =>
  (bindG (Ra := rL) R hx p).imp fun v H1 ⟨r1, en1, a1, m⟩ => hm.post m.R m.post m.run m.ha
theorem d_tup {es : List Expr} {g : M (List D)} {x1} (h : PA X es (tA G g)) : PE X (.Tuple es x1 pos) (tE G (bindM g newT)) := (pe_tup h).mono fun σ H Q ⟨r, en, x, R, hx, p⟩ =>
  (bindG (Ra := rL) R hx p).imp fun v H1 ⟨r1, en1, a1, m⟩ => m.post.newT m.R m.run m.ha

/-! ### slices -/
def cutD (xs : List D) (lo hi : Option Int) : List D := (xs.drop (HT.sIx xs.length 0 lo)).take (HT.sIx xs.length xs.length hi - HT.sIx xs.length 0 lo)
theorem Rps.cut {C : Hc} {r : List Addr} {H : Hp} {ds : List D} {vs : List V} {lo hi : Option Int} (h : Rps C r H ds vs) : Rps C r H (cutD ds lo hi) (cutV vs lo hi) := by
  unfold cutD cutV
  rw [h.length]
  exact (h.drop _).take _
def rO : Rel (Option Int) (Option Int) := fun _ _ _ _ a b => a = b
abbrev tO (G : Par) (f : M (Option Int)) : TO := tG G rO f
def partM (f : M D) : M (Option Int) := bindM f fun d => match d with
  | .int i => pureM (some i)
  | _ => failM
theorem do_none : PO X none (tO G (pureM none)) := ⟨fun pins s σ H Q I ⟨r, en, x, R, hx, p⟩ => po_none.run pins s σ H Q I (p.here R hx rfl)⟩
theorem do_some {e : Expr} {f : M D} (h : PE X e (tE G f)) : PO X (some e) (tO G (partM f)) := ⟨fun pins s σ H Q I ⟨r, en, x, R, hx, p⟩ => (po_some h).run pins s σ H Q I ((bindG (Ra := rD) R hx p).imp fun v H1 ⟨r1, en1, a1, m⟩ => by
  have e := m.run
  split at e
  · cases m.ha
    exact ⟨_, rfl, m.post.here m.R e rfl⟩
  · cases e)⟩
def cutG (mk : List D → M D) (d : D) (lo hi : Option Int) : M D := fun en => match rdOf en.c d with
  | some x => mk (cutD x lo hi) en
  | none => none
def sliM (mk : List D → M D) (f : M D) (fl fh : M (Option Int)) : M D := bindM f fun d => bindM fl fun lo => bindM fh fun hi => cutG mk d lo hi
theorem d_sli {mk : List D → M D} (hm : Mk1 mk) (hK : G.C.K = X.K) {lo hi : Option Expr} {fl fh : M (Option Int)} {p2 : Pos} (ha : PE X a (tE G fa)) (hl : PO X lo (tO G fl)) (hh : PO X hi (tO G fh)) : PE X (.Subscript a (.Slice lo hi none p2) pos) (tE G (sliM mk fa fl fh)) :=
  (pe_slice sl_list ha hl hh).mono fun σ H Q ⟨r, en, x, R, hx, p⟩ => (bindG (Ra := rD) R hx p).imp fun v H1 ⟨r1, en1, a1, m1⟩ => (bindG (Ra := rO) m1.R m1.run m1.post).imp fun w H2 ⟨r2, en2, b1, m2⟩ => (bindG (Ra := rO) m2.R m2.run m2.post).imp fun w3 H3 ⟨r3, en3, c1, m3⟩ => by
    have e := m3.run
    have hb := m2.ha
    have hc := m3.ha
    unfold rO at hb hc
    subst hb hc
    unfold cutG at e
    split at e
    · rename_i x' ex
      obtain ⟨a1, v1, rfl, h1, r1⟩ := m3.R.read (Rp.stp (m2.s.trans m3.s) m1.ha) ex
      exact ⟨a1, v1, rfl, hK ▸ h1, (hm.post m3.R m3.post e r1.cut).2⟩
    · cases e
end
end CD

/-! CDd: comparisons, tests, conditions, isinstance, built-ins. -/
namespace CD
open PySem PySem.Spec PyProof.Rows L2

def blG : D → M Bool
  | .bl b => pureM b
  | _ => failM
def testM (f : M D) : M Bool := bindM f blG
section
variable {X : Cx} {G : Par} {a b c : Expr} {fa fb fc : M D} {ga gb : M Bool} {pos : Pos}
theorem t_bl : ∀ {σ : L2.St} {H : Hp} {Q : Bool → Hp → Prop}, tT G (testM fa) σ H Q → tE G fa σ H fun x H1 => ∃ k, x = .bl k ∧ Q k H1 := fun {σ H Q} ⟨r, en, x, R, hx, p⟩ =>
  (bindG (Ra := rD) (Rb := rB) R hx p).imp fun v H1 ⟨r1, en1, a1, m⟩ => by
    have e := m.run
    unfold blG at e
    split at e
    · cases m.ha
      exact ⟨_, rfl, m.post.here m.R e rfl⟩
    · cases e
theorem dt_val (h : PE X a (tE G fa)) (he : ∀ whole, isTrue a X.env whole = (do let v ← whole; standAt a.pos; holding [v] (truthy v)) := by intro _; rfl) : PT X a (tT G (testM fa)) := (pt_val h he).mono fun σ H Q h => t_bl h
theorem dt_cmp {op : CmpOp} {r2 : R2} {g : D → D → M D} (ho : OpR X (compareOp op) r2) (hg : Op2 G r2 g) (ha : PE X a (tE G fa)) (hb : PE X b (tE G fb)) (hm : behindInMarks op b = false := by first | exact nomark _ | rfl) :
    PT X (.Compare a [op] [b] pos) (tT G (testM (binM g fa fb))) := (pt_cmpR ho ha hb hm).mono fun σ H Q h => by
  obtain ⟨r, en, x, R, hx, p⟩ := h
  exact t_op hg _ _ _ (t_bl ⟨r, en, x, R, hx, p⟩)
theorem d_cmp {op : CmpOp} {r2 : R2} {g : D → D → M D} (ho : OpR X (compareOp op) r2) (hg : Op2 G r2 g) (ha : PE X a (tE G fa)) (hb : PE X b (tE G fb)) (hm : behindInMarks op b = false := by first | exact nomark _ | rfl) :
    PE X (.Compare a [op] [b] pos) (tE G (binM g fa fb)) := (pe_cmpR ho ha hb hm).mono (t_op hg)
/-! ### and, or, not, if .. else -/
def andT (f g : M Bool) : M Bool := bindM f fun c => if c = true then g else pureM false
def orT (f g : M Bool) : M Bool := bindM f fun c => if c = true then pureM true else g
def notT (f : M Bool) : M Bool := bindM f fun c => pureM (!c)
theorem t_and {t u : M Bool} : ∀ σ H Q, tT G (andT t u) σ H Q → tAnd (tT G t) (tT G u) σ H Q := fun σ H Q ⟨r, en, x, R, hx, p⟩ =>
  (bindG (Ra := rB) (Rb := rB) R hx p).imp fun v H1 ⟨r1, en1, a1, m⟩ => by
    have e := m.run
    have ha : a1 = v := m.ha
    subst ha
    cases a1 with
    | true => exact ⟨r1, en1, x, m.R, e, m.post⟩
    | false => exact m.post.here m.R e rfl
theorem t_or {t u : M Bool} : ∀ σ H Q, tT G (orT t u) σ H Q → tOr (tT G t) (tT G u) σ H Q := fun σ H Q ⟨r, en, x, R, hx, p⟩ =>
  (bindG (Ra := rB) (Rb := rB) R hx p).imp fun v H1 ⟨r1, en1, a1, m⟩ => by
    have e := m.run
    have ha : a1 = v := m.ha
    subst ha
    cases a1 with
    | true => exact m.post.here m.R e rfl
    | false => exact ⟨r1, en1, x, m.R, e, m.post⟩
theorem L2_PWmono {e : Expr} {t t' : TT} (h : PW X e t) (m : ∀ σ H Q, t' σ H Q → t σ H Q) : PW X e t' := ⟨fun wh pins s σ H Q I q => h.run wh pins s σ H Q I (m _ _ _ q)⟩
theorem dw_and1 (ha : PT X a (tT G ga)) : PW X (.BoolOp .And [a] pos) (tT G ga) := pw_and1 ha
theorem dw_or1 (ha : PT X a (tT G ga)) : PW X (.BoolOp .Or [a] pos) (tT G ga) := pw_or1 ha
theorem dw_and {rest : List Expr} (ha : PT X a (tT G ga)) (hb : PW X (.BoolOp .And (b :: rest) pos) (tT G gb)) : PW X (.BoolOp .And (a :: b :: rest) pos) (tT G (andT ga gb)) := L2_PWmono (pw_and ha hb) t_and
theorem dw_or {rest : List Expr} (ha : PT X a (tT G ga)) (hb : PW X (.BoolOp .Or (b :: rest) pos) (tT G gb)) : PW X (.BoolOp .Or (a :: b :: rest) pos) (tT G (orT ga gb)) := L2_PWmono (pw_or ha hb) t_or
theorem dt_w (h : PW X a (tT G ga)) : PT X a (tT G ga) := h.pt
theorem dt_not (ha : PT X a (tT G ga)) : PT X (.UnaryOp .Not a pos) (tT G (notT ga)) := (pt_not ha).mono fun σ H Q ⟨r, en, x, R, hx, p⟩ =>
  (bindG (Ra := rB) (Rb := rB) R hx p).imp fun v H1 ⟨r1, en1, a1, m⟩ => by
    have ha : a1 = v := m.ha
    subst ha
    exact m.post.here m.R m.run rfl
/-- as values -/
def andV (f g : M D) : M D := bindM (testM f) fun c => if c = true then g else pureM (.bl false)
def orV (f g : M D) : M D := bindM (testM f) fun c => if c = true then pureM (.bl true) else g
def notV (f : M D) : M D := bindM (testM f) fun c => pureM (.bl (!c))
theorem d_one {op : BoolOp} (h : PE X a (tE G fa)) : PE X (.BoolOp op [a] pos) (tE G fa) := pe_one h
theorem d_and {rest : List Expr} (ha : PE X a (tE G fa)) (hb : PE X (.BoolOp .And (b :: rest) pos) (tE G fb)) : PE X (.BoolOp .And (a :: b :: rest) pos) (tE G (andV fa fb)) := (pe_and ha hb).mono fun σ H Q ⟨r, en, x, R, hx, p⟩ =>
  (t_bl (bindG (Ra := rB) (Rb := rD) R hx p)).imp fun v H1 ⟨k, ek, r1, en1, a1, m⟩ => ⟨k, ek, by
    have e := m.run
    have ha : a1 = k := m.ha
    subst ha
    cases a1 with
    | true => exact ⟨r1, en1, x, m.R, e, m.post⟩
    | false => exact m.post.here m.R e (.bl false)⟩
theorem d_or {rest : List Expr} (ha : PE X a (tE G fa)) (hb : PE X (.BoolOp .Or (b :: rest) pos) (tE G fb)) : PE X (.BoolOp .Or (a :: b :: rest) pos) (tE G (orV fa fb)) := (pe_or ha hb).mono fun σ H Q ⟨r, en, x, R, hx, p⟩ =>
  (t_bl (bindG (Ra := rB) (Rb := rD) R hx p)).imp fun v H1 ⟨k, ek, r1, en1, a1, m⟩ => ⟨k, ek, by
    have e := m.run
    have ha : a1 = k := m.ha
    subst ha
    cases a1 with
    | true => exact m.post.here m.R e (.bl true)
    | false => exact ⟨r1, en1, x, m.R, e, m.post⟩⟩
theorem d_not (ha : PE X a (tE G fa)) : PE X (.UnaryOp .Not a pos) (tE G (notV fa)) := (pe_not ha).mono fun σ H Q ⟨r, en, x, R, hx, p⟩ =>
  (t_bl (bindG (Ra := rB) (Rb := rD) R hx p)).imp fun v H1 ⟨k, ek, r1, en1, a1, m⟩ => ⟨k, ek, by
    have ha : a1 = k := m.ha
    subst ha
    exact m.post.here m.R m.run (.bl _)⟩
def ifM {α : Type} (c : M Bool) (f g : M α) : M α := bindM c fun k => if k = true then f else g
theorem d_ifx (hc : PT X c (tT G ga)) (ha : PE X a (tE G fa)) (hb : PE X b (tE G fb)) : PE X (.IfExp c a b pos) (tE G (ifM ga fa fb)) := (pe_ifExp hc ha hb).mono fun σ H Q ⟨r, en, x, R, hx, p⟩ =>
  (bindG (Ra := rB) (Rb := rD) R hx p).imp fun v H1 ⟨r1, en1, a1, m⟩ => by
    have e := m.run
    have ha : a1 = v := m.ha
    subst ha
    cases a1 with
    | true => exact ⟨r1, en1, x, m.R, e, m.post⟩
    | false => exact ⟨r1, en1, x, m.R, e, m.post⟩
/-! ### comparisons -/
def ordG (p : Int → Int → Bool) : D → D → M D
  | .int i, .int j => pureM (.bl (p i j))
  | _, _ => failM
theorem o_ord {p : Int → Int → Bool} : Op2 G (rI0 fun i j => .bl (p i j)) (ordG p) := by
  intro r en σ H a b x y z Q R hx hy e q
  unfold ordG at e
  split at e
  · cases hx; cases hy
    exact ⟨_, _, rfl, rfl, q.here R e (.bl _)⟩
  · cases e
abbrev ltG := ordG fun i j => decide (i < j)
abbrev leG := ordG fun i j => decide (i ≤ j)
abbrev gtG := ordG fun i j => decide (j < i)
abbrev geG := ordG fun i j => decide (j ≤ i)
def isNoneG : D → D → M D
  | .non, .non => pureM (.bl true)
  | _, .non => pureM (.bl false)
  | _, _ => failM
def notNoneG : D → D → M D
  | .non, .non => pureM (.bl false)
  | _, .non => pureM (.bl true)
  | _, _ => failM
theorem Rp.notNon {C : Hc} {r : List Addr} {H : Hp} {d : D} {v : V} (h : Rp C r H d v) (n : d = .non → False) : decide (v = V.non) = false := by
  cases h with
  | non => exact (n rfl).elim
  | _ => rfl
theorem o_isN : Op2 G (fun x y H Q => y = .non ∧ Q (.bl (decide (x = .non))) H) isNoneG := by
  intro r en σ H a b x y z Q R hx hy e q
  unfold isNoneG at e
  split at e
  · cases hy
    cases hx
    exact ⟨rfl, q.here R e (.bl true)⟩
  · rename_i h
    cases hy
    exact ⟨rfl, by rw [Rp.notNon hx h]; exact q.here R e (.bl false)⟩
  · cases e
theorem o_notN : Op2 G (fun x y H Q => y = .non ∧ Q (.bl (!decide (x = .non))) H) notNoneG := by
  intro r en σ H a b x y z Q R hx hy e q
  unfold notNoneG at e
  split at e
  · cases hy
    cases hx
    exact ⟨rfl, q.here R e (.bl false)⟩
  · rename_i h
    cases hy
    exact ⟨rfl, by rw [Rp.notNon hx h]; exact q.here R e (.bl true)⟩
  · cases e
/-! ### == of data -/
def mapO {α β : Type} (f : α → Option β) : List α → Option (List β)
  | [] => some []
  | a :: as => match f a, mapO f as with
    | some b, some bs => some (b :: bs)
    | _, _ => none
def toP (c : Cells) : Nat → D → Option PyData
  | 0, _ => none
  | n + 1, d => match d with
    | .non => some .none
    | .bl b => some (.bool b)
    | .int i => some (.int i)
    | .str x => some (.str x)
    | .lst ds => (mapO (toP c n) ds).map .list
    | .tup ds => (mapO (toP c n) ds).map .tuple
    | .ow k => match c[k]? with
      | some (some ds) => (mapO (toP c n) ds).map .list
      | _ => none
    | .hs _ _ => none
    | .scr _ => none
theorem toP_all {K : PySem.W.Frag} {C : Hc} {r : List Addr} {H H' : Hp} {f : D → Option PyData} (hf : ∀ d v p, Rp C r H d v → f d = some p → Dp K H' v p) : ∀ (ds : List D) (vs : List V) (ps : List PyData), Rps C r H ds vs → mapO f ds = some ps → DpAll K H' vs ps
  | [], _, ps, .nil, e => by cases e; exact .nil
  | d :: ds, _, ps, .cons h t, e => by
    unfold mapO at e
    split at e
    · rename_i b bs h1 h2
      cases e
      exact .cons (hf _ _ _ h h1) (toP_all hf ds _ _ t h2)
    · cases e
theorem toP_ok {K : PySem.W.Frag} {r : List Addr} {en : En} {σ : L2.St} {H : Hp} (R : Rl G r en σ H) : ∀ (n : Nat) (d : D) (v : V) (p : PyData), Rp G.C r (hid G.S r en.c H) d v → toP en.c n d = some p → Dp K H v p
  | 0, _, _, _, _, e => by cases e
  | n + 1, d, v, p, h, e => by
    cases h with
    | non => cases e; exact .non
    | bl b => cases e; exact .bl b
    | int i => cases e; exact .int i
    | str x => cases e; exact .str x
    | @lst a vs ds h1 h2 =>
      have e : (mapO (toP en.c n) ds).map PyData.list = some p := e
      cases hm : mapO (toP en.c n) ds with
      | none => rw [hm] at e; cases e
      | some ps =>
        rw [hm] at e
        cases e
        exact .lst (SqL.of (hid_same _ _ h1)) (toP_all (fun d v p h e => toP_ok R n d v p h e) ds vs ps h2 hm)
    | @tup a vs ds h1 h2 =>
      have e : (mapO (toP en.c n) ds).map PyData.tuple = some p := e
      cases hm : mapO (toP en.c n) ds with
      | none => rw [hm] at e; cases e
      | some ps =>
        rw [hm] at e
        cases e
        exact .tup (SqT.of (hid_same _ _ h1)) (toP_all (fun d v p h e => toP_ok R n d v p h e) ds vs ps h2 hm)
    | hs h1 h2 h3 => cases e
    | scr h1 => cases e
    | @ow k a hk =>
      cases hc : en.c[k]? with
      | none => simp [toP, hc] at e
      | some o =>
        cases o with
        | none => simp [toP, hc] at e
        | some ds =>
          have e : (mapO (toP en.c n) ds).map PyData.list = some p := by simpa [toP, hc] using e
          obtain ⟨a', vs, h1, h2, h3⟩ := R.cr.cell k ds hc
          rw [h1] at hk
          cases hk
          cases hm : mapO (toP en.c n) ds with
          | none => rw [hm] at e; cases e
          | some ps =>
            rw [hm] at e
            cases e
            exact .lst (SqL.of h2) (toP_all (fun d v p h e => toP_ok R n d v p h e) ds vs ps h3 hm)
def eqG (neg : Bool) : D → D → M D := fun a b en => match toP en.c 9 a, toP en.c 9 b with
  | some p, some q => if SeqAt.shaped p = true ∧ SeqAt.shaped q = true then some (.ok (.bl (if neg then !PyData.eqv p q else PyData.eqv p q)), en) else none
  | _, _ => none
theorem o_eq {K : PySem.W.Frag} : Op2 G (rEqD K) (eqG false) := by
  intro r en σ H a b x y z Q R hx hy e q
  unfold eqG at e
  split at e
  · rename_i p1 p2 h1 h2
    split at e
    · rename_i hs
      exact ⟨p1, p2, toP_ok R 9 a x p1 hx h1, toP_ok R 9 b y p2 hy h2, hs.1, hs.2, q.here R e (.bl _)⟩
    · cases e
  · cases e
theorem o_ne {K : PySem.W.Frag} : Op2 G (rNeD K) (eqG true) := by
  intro r en σ H a b x y z Q R hx hy e q
  unfold eqG at e
  split at e
  · rename_i p1 p2 h1 h2
    split at e
    · rename_i hs
      exact ⟨p1, p2, toP_ok R 9 a x p1 hx h1, toP_ok R 9 b y p2 hy h2, hs.1, hs.2, q.here R e (.bl _)⟩
    · cases e
  · cases e
end
end CD

/-! CDe: statements, targets, loops, comprehensions. -/
namespace CD
open PySem PySem.Spec PyProof.Rows L2

inductive Ctl where
  | nx | rt (d : D) | bk | ct

def PostS (G : Par) (r : List Addr) (en : En) (H : Hp) (x : Res Ctl × En) (Dn : Ends) : Prop :=
  ∀ r' σ' H', Stp G.S r en.c H r' x.2.c H' → Rl G r' x.2 σ' H' → match x.1 with
    | .ok .nx => Dn.nx σ' H'
    | .ok (.rt d) => ∀ v, Rp G.C r' (hid G.S r' x.2.c H') d v → Dn.rt v H'
    | .ok .bk => Dn.bk σ' H'
    | .ok .ct => Dn.ct σ' H'
    | .exc n d => ExQ G r' x.2.c n d H'
def tS (G : Par) (f : M Ctl) : TS := fun Dn σ H => ∃ r en x, Rl G r en σ H ∧ f en = some x ∧ PostS G r en H x Dn
section
variable {G : Par} {α β : Type} {Ra : Rel α β} {r r1 : List Addr} {en en1 : En} {σ σ1 : L2.St} {H H1 : Hp} {x : Res Ctl × En} {Dn : Ends}
theorem PostS.stp (s : Stp G.S r en.c H r1 en1.c H1) (p : PostS G r en H x Dn) : PostS G r1 en1 H1 x Dn := fun r' σ' H' s' R => p r' σ' H' (s.trans s') R
structure MidS (G : Par) (Ra : Rel α β) (r : List Addr) (en : En) (σ : L2.St) (H : Hp) (g : α → M Ctl) (x : Res Ctl × En) (Dn : Ends) (v : β) (r1 : List Addr) (en1 : En) (a : α) (H1 : Hp) : Prop where
  s : Stp G.S r en.c H r1 en1.c H1
  R : Rl G r1 en1 σ H1
  ha : Ra G r1 en1.c H1 a v
  run : g a en1 = some x
  post : PostS G r1 en1 H1 x Dn
theorem bindS {f : M α} {g : α → M Ctl} (R : Rl G r en σ H) (e : bindM f g en = some x) (p : PostS G r en H x Dn) : tG G Ra f σ H fun v H1 => ∃ r1 en1 a, MidS G Ra r en σ H g x Dn v r1 en1 a H1 := by
  unfold bindM at e
  cases hf : f en with
  | none => rw [hf] at e; cases e
  | some y =>
    rw [hf] at e
    obtain ⟨y1, en1⟩ := y
    cases y1 with
    | ok a => exact ⟨r, en, (.ok a, en1), R, hf, fun r1 H1 s R1 v hv => ⟨r1, en1, a, s, R1, hv, e, p.stp s⟩⟩
    | exc n d =>
      cases e
      exact ⟨r, en, (.exc n d, en1), R, hf, fun r1 H1 s R1 => p r1 σ H1 s R1⟩
theorem Rl.put {i : Nat} {d : D} {v : V} (R : Rl G r en σ H) (h : rD G r en.c H d v) : Rl G r ⟨en.sl.set i (some d), en.c⟩ (σ.set i (some v)) H := by
  refine ⟨R.cr, by simp [R.len], fun j d' e => ?_⟩
  by_cases hj : i = j
  · subst hj
    have hi : i < en.sl.length := by
      have q := (List.getElem?_eq_some_iff.mp e).1
      simpa using q
    have e : (en.sl.set i (some d))[i]? = some (some d') := e
    rw [List.getElem?_set_self hi] at e
    have e2 : d = d' := by simpa using e
    subst e2
    exact ⟨v, by rw [List.getElem?_set_self (by rw [← R.len]; exact hi)], h⟩
  · have e : (en.sl.set i (some d))[j]? = some (some d') := e
    rw [List.getElem?_set_ne hj] at e
    obtain ⟨w, h1, h2⟩ := R.slot j d' e
    exact ⟨w, by rw [List.getElem?_set_ne hj]; exact h1, h2⟩
end

/-! ### targets -/
inductive Tg where
  | one (i : Nat) | tup (is : List Nat)
def setAll {α : Type} : List (Option α) → List Nat → List α → List (Option α)
  | σ, i :: is, v :: vs => setAll (σ.set i (some v)) is vs
  | σ, _, _ => σ
def namesG : List Nat → TGs
  | [] => gNil
  | i :: is => gCons (gName i) (namesG is)
def Tg.G (K : PySem.W.Frag) : Tg → TG
  | .one i => gName i
  | .tup is => gTup K is.length (namesG is)
def Tg.vs : Tg → List Nat
  | .one i => [i]
  | .tup is => is
def Tg.st : Tg → D → List (Option D) → Option (List (Option D))
  | .one i, d, sl => some (sl.set i (some d))
  | .tup is, .tup ds, sl => if ds.length = is.length then some (setAll sl is ds) else none
  | _, _, _ => none
theorem names_ok : ∀ (is : List Nat) (vs : List V) (σ : L2.St) (H : Hp) (Q : L2.St → Hp → Prop), vs.length = is.length → Q (setAll σ is vs) H → namesG is vs σ H Q
  | [], [], σ, H, Q, _, h => ⟨rfl, h⟩
  | i :: is, v :: vs, σ, H, Q, e, h => ⟨v, vs, rfl, names_ok is vs _ H Q (by simpa using e) h⟩
theorem Rl.putAll {G : Par} {r : List Addr} {H : Hp} {c : Cells} : ∀ (is : List Nat) (ds : List D) (vs : List V) (sl : List (Option D)) (σ : L2.St), Rl G r ⟨sl, c⟩ σ H → Rps G.C r (hid G.S r c H) ds vs → Rl G r ⟨setAll sl is ds, c⟩ (setAll σ is vs) H
  | [], ds, vs, sl, σ, R, h => by cases h <;> exact R
  | i :: is, _, _, sl, σ, R, .nil => R
  | i :: is, _, _, sl, σ, R, .cons h t => Rl.putAll is _ _ _ _ (R.put h) t
/-- a target's store -/
theorem tg_ok {G : Par} {r : List Addr} {en : En} {σ : L2.St} {H : Hp} {Q : L2.St → Hp → Prop} {d : D} {v : V} {sl' : List (Option D)} (t : Tg) (R : Rl G r en σ H) (h : rD G r en.c H d v) (e : t.st d en.sl = some sl')
    (k : ∀ σ', Rl G r ⟨sl', en.c⟩ σ' H → (∃ ws, ws.length = t.vs.length ∧ σ' = setAll σ t.vs ws) → Q σ' H) : t.G G.K v σ H Q := by
  cases t with
  | one i =>
    cases e
    exact k _ (R.put h) ⟨[v], rfl, rfl⟩
  | tup is =>
    unfold Tg.st at e
    split at e
    · rename_i h0; cases h0
    · rename_i is' ds _ h0
      cases h0
      split at e
      · rename_i hl
        cases e
        cases h with
        | @tup a vs _ h1 h2 =>
          refine ⟨a, vs, rfl, SqT.of (hid_same _ _ h1), by rw [← h2.length]; exact hl, names_ok _ _ _ _ _ (by rw [← h2.length]; exact hl) ?_⟩
          exact k _ (Rl.putAll _ _ _ _ _ R h2) ⟨vs, by rw [← h2.length]; exact hl, rfl⟩
      · cases e
    · cases e

/-! ### statements -/
section
variable {X : Cx} {G : Par} {a b c e : Expr} {fa fb fc : M D} {ga gb : M Bool} {pos : Pos} {st : Stmt} {rest : List Stmt} {f g : M Ctl}
def seqM (f g : M Ctl) : M Ctl := bindM f fun c => match c with
  | .nx => g
  | c => pureM c
theorem PostS.end' {r : List Addr} {en : En} {σ : L2.St} {H : Hp} {x : Res Ctl × En} {Dn : Ends} (R : Rl G r en σ H) (p : PostS G r en H x Dn) (e : pureM .nx en = some x) : Dn.nx σ H := by
  cases e
  exact p r σ H Stp.refl R
theorem ds_nil : PSs X [] (tS G (pureM .nx)) := pss_nil.mono fun Dn σ H ⟨r, en, x, R, hx, p⟩ => p.end' R hx
theorem ds_cons (h1 : PS X st (tS G f)) (h2 : PSs X rest (tS G g)) : PSs X (st :: rest) (tS G (seqM f g)) := (pss_cons h1 h2).mono fun Dn σ H ⟨r, en, x, R, hx, p⟩ => by
  unfold seqM bindM at hx
  cases hf : f en with
  | none => rw [hf] at hx; cases hx
  | some y =>
    rw [hf] at hx
    obtain ⟨y1, en1⟩ := y
    refine ⟨r, en, (y1, en1), R, hf, fun r' σ' H' s R' => ?_⟩
    cases y1 with
    | exc n d => cases hx; exact p r' σ' H' s R'
    | ok c =>
      cases c with
      | nx => exact ⟨r', en1, x, R', hx, p.stp s⟩
      | rt d => cases hx; exact p r' σ' H' s R'
      | bk => cases hx; exact p r' σ' H' s R'
      | ct => cases hx; exact p r' σ' H' s R'
theorem ds_one (h1 : PS X st (tS G f)) : PSs X [st] (tS G f) := pss_one h1
def asgM (f : M D) (t : Tg) : M Ctl := bindM f fun d en => match t.st d en.sl with
  | some sl' => some (.ok .nx, ⟨sl', en.c⟩)
  | none => none
theorem t_asg {t : Tg} : ∀ Dn σ H, tS G (asgM fa t) Dn σ H → tAsg (tE G fa) (t.G G.K) Dn σ H := fun Dn σ H ⟨r, en, x, R, hx, p⟩ =>
  (bindS (Ra := rD) R hx p).imp fun v H1 ⟨r1, en1, d, m⟩ => by
    have e := m.run
    split at e
    · rename_i sl' hs
      cases e
      exact tg_ok t m.R m.ha hs fun σ' R' _ => m.post r1 σ' H1 Stp.refl R'
    · cases e
/-- x = e, the target by its rule -/
theorem ds_asg {t : Tg} {g : TG} (h : PS X st (tAsg (tE G fa) g)) (hg : g = t.G G.K) : PS X st (tS G (asgM fa t)) := by
  subst hg
  exact h.mono t_asg
def dropM (f : M D) : M Ctl := bindM f fun _ => pureM .nx
theorem ds_expr (h : PS X st (tDrop (tE G fa))) : PS X st (tS G (dropM fa)) := h.mono fun Dn σ H ⟨r, en, x, R, hx, p⟩ => (bindS (Ra := rD) R hx p).imp fun v H1 ⟨r1, en1, d, m⟩ => m.post.end' m.R m.run
def retS (f : M D) : M Ctl := bindM f fun d => pureM (.rt d)
theorem ds_ret (ha : PE X a (tE G fa)) : PS X (.Return (some a) pos) (tS G (retS fa)) := (ps_ret ha).mono fun Dn σ H ⟨r, en, x, R, hx, p⟩ => (bindS (Ra := rD) R hx p).imp fun v H1 ⟨r1, en1, d, m⟩ => by
  have e := m.run
  cases e
  exact m.post r1 σ H1 Stp.refl m.R v m.ha
theorem ds_if {A B : List Stmt} (hc : PT X c (tT G ga)) (ha : PSs X A (tS G f)) (hb : PSs X B (tS G g)) : PS X (.If c A B pos) (tS G (ifM ga f g)) := (ps_if hc ha hb).mono fun Dn σ H ⟨r, en, x, R, hx, p⟩ =>
  (bindS (Ra := rB) R hx p).imp fun v H1 ⟨r1, en1, k, m⟩ => by
    have e := m.run
    have hk : k = v := m.ha
    subst hk
    cases k with
    | true => exact ⟨r1, en1, x, m.R, e, m.post⟩
    | false => exact ⟨r1, en1, x, m.R, e, m.post⟩
theorem ds_never : PS X st (tS G failM) := ps_never.mono fun Dn σ H ⟨r, en, x, R, hx, p⟩ => by cases hx
theorem dss_never {sts : List Stmt} : PSs X sts (tS G failM) := pss_never.mono fun Dn σ H ⟨r, en, x, R, hx, p⟩ => by cases hx
theorem ds_break : PS X (.Break pos) (tS G (pureM .bk)) := ps_break.mono fun Dn σ H ⟨r, en, x, R, hx, p⟩ => by
  cases hx
  exact p r σ H Stp.refl R
theorem ds_continue : PS X (.Continue pos) (tS G (pureM .ct)) := ps_continue.mono fun Dn σ H ⟨r, en, x, R, hx, p⟩ => by
  cases hx
  exact p r σ H Stp.refl R
/-- x op= e -/
def augM (i : Nat) (g : D → D → M D) (f : M D) : M Ctl := fun en => match en.sl[i]? with
  | some (some d) => bindM f (fun y => bindM (g d y) fun z en => some (.ok .nx, ⟨en.sl.set i (some z), en.c⟩)) en
  | _ => none
theorem ds_aug {i : Nat} {ti : TIp} {g : D → D → M D} (hg : Op2 G ti g) (h : PS X st (tAug i (tE G fa) ti)) : PS X st (tS G (augM i g fa)) := h.mono fun Dn σ H ⟨r, en, x, R, hx, p⟩ => by
  unfold augM at hx
  split at hx
  · rename_i d hd
    obtain ⟨v, h1, h2⟩ := R.slot i d hd
    refine ⟨v, h1, (bindS (Ra := rD) R hx p).imp fun y H1 ⟨r1, en1, d1, m⟩ => ?_⟩
    have e := m.run
    unfold bindM at e
    cases hz : g d d1 en1 with
    | none => rw [hz] at e; cases e
    | some z =>
      rw [hz] at e
      refine hg r1 en1 σ H1 d d1 v y z _ m.R (Rp.stp m.s h2) m.ha hz fun r2 H2 s2 R2 => ?_
      obtain ⟨z1, en2⟩ := z
      cases z1 with
      | ok zz =>
        intro w hw
        cases e
        exact m.post r2 _ H2 s2 (R2.put hw)
      | exc n d =>
        cases e
        exact m.post r2 σ H2 s2 R2
  · cases hx

end

/-! ### what a for walks -/
def rIt : Rel (List D) It := fun G r c H ds J => ∀ (S' : Addr → Prop) r' c' H', r <+: r' → Same (hid G.S r c H) (hid S' r' c' H') → CelR S' G.C r' c' H' → ∀ i : Nat,
  (∀ d, ds[i]? = some d → J.go i H' ∧ ∀ x H'', J.yld i H' x H'' → CelR S' G.C r' c' H'' ∧ Stp S' r' c' H' r' c' H'' ∧ Rp G.C r' (hid S' r' c' H'') d x) ∧ (ds.length ≤ i → J.stop i H')
abbrev tI (G : Par) (f : M (List D)) : TI := tG G rIt f
def itmM (f : M D) : M (List D) := bindM f fun d en => match d with
  | .lst ds => some (.ok ds, en)
  | _ => none
def ittM (f : M D) : M (List D) := bindM f fun d en => match d with
  | .tup ds => some (.ok ds, en)
  | _ => none
section
variable {X : Cx} {G : Par} {e e2 tg : Expr} {fa fb : M D} {ga : M (List D)}
theorem it_list {K : PySem.W.Frag} {r : List Addr} {c : Cells} {H : Hp} {a : Addr} {vs : List V} {ds : List D} (h1 : hid G.S r c H a = some (.lst vs)) (h2 : Rps G.C r (hid G.S r c H) ds vs) : rIt G r c H ds (Itl K a) := fun S' r' c' H' sx sm R i => by
  have h1' := hid_same _ _ (sm _ _ h1)
  have h2' := h2.mono sx sm
  refine ⟨fun d hd => ?_, fun hl => ⟨vs, SqL.of h1', by rw [← h2.length]; exact hl⟩⟩
  obtain ⟨v, hv, hr⟩ := h2'.get hd
  refine ⟨⟨vs, v, SqL.of h1', hv⟩, fun x H'' y => ?_⟩
  obtain ⟨rfl, y⟩ := y
  have e := (y vs (SqL.of h1')).symm.trans hv
  cases e
  exact ⟨R, Stp.refl, hr⟩
theorem it_tup {K : PySem.W.Frag} {r : List Addr} {c : Cells} {H : Hp} {a : Addr} {vs : List V} {ds : List D} (h1 : hid G.S r c H a = some (.tup vs)) (h2 : Rps G.C r (hid G.S r c H) ds vs) : rIt G r c H ds (Itt K a) := fun S' r' c' H' sx sm R i => by
  have h1' := hid_same _ _ (sm _ _ h1)
  have h2' := h2.mono sx sm
  refine ⟨fun d hd => ?_, fun hl => ⟨vs, SqT.of h1', by rw [← h2.length]; exact hl⟩⟩
  obtain ⟨v, hv, hr⟩ := h2'.get hd
  refine ⟨⟨vs, v, SqT.of h1', hv⟩, fun x H'' y => ?_⟩
  obtain ⟨rfl, y⟩ := y
  have e := (y vs (SqT.of h1')).symm.trans hv
  cases e
  exact ⟨R, Stp.refl, hr⟩
theorem di_list (h : PE X e (tE G fa)) : PI X tg e (tI G (itmM fa)) := (pi_list h).mono fun σ H Q ⟨r, en, x, R, hx, p⟩ => (bindG (Ra := rD) (Rb := rIt) R hx p).imp fun v H1 ⟨r1, en1, d, m⟩ => by
  have e := m.run
  split at e
  · rename_i ds
    cases m.ha with
    | @lst a vs _ h1 h2 => exact ⟨a, rfl, ⟨vs, SqL.of (hid_same _ _ h1)⟩, m.post.here m.R e (it_list h1 h2)⟩
  · cases e
theorem di_tup (h : PE X e (tE G fa)) : PI X tg e (tI G (ittM fa)) := (pi_tup h).mono fun σ H Q ⟨r, en, x, R, hx, p⟩ => (bindG (Ra := rD) (Rb := rIt) R hx p).imp fun v H1 ⟨r1, en1, d, m⟩ => by
  have e := m.run
  split at e
  · rename_i ds
    cases m.ha with
    | @tup a vs _ h1 h2 => exact ⟨a, rfl, ⟨vs, SqT.of (hid_same _ _ h1)⟩, m.post.here m.R e (it_tup h1 h2)⟩
  · cases e
/-- range(n), range(a, b) -/
def rngD (lo : Int) (n : Nat) : List D := (List.range n).map fun (i : Nat) => D.int (lo + (i : Int))
theorem it_rng {r : List Addr} {c : Cells} {H : Hp} {lo : Int} {n : Nat} : rIt G r c H (rngD lo n) (Itr lo n) := fun S' r' c' H' sx sm R i => by
  refine ⟨fun d hd => ?_, fun hl => show n ≤ i by simpa [rngD] using hl⟩
  unfold rngD at hd
  rw [List.getElem?_map] at hd
  cases hi : (List.range n)[i]? with
  | none => rw [hi] at hd; cases hd
  | some j =>
    rw [hi] at hd
    cases hd
    obtain ⟨h1, h2⟩ := List.getElem?_eq_some_iff.mp hi
    rw [List.getElem_range] at h2
    subst h2
    refine ⟨show i < n by simpa using h1, fun x H'' y => ?_⟩
    obtain ⟨rfl, rfl⟩ := y
    exact ⟨R, Stp.refl, .int _⟩
def rng1M (f : M (List D)) : M (List D) := bindM f fun ds en => match ds with
  | [.int n] => if -(2 ^ 62) ≤ n ∧ n < 2 ^ 62 then some (.ok (rngD 0 n.toNat), en) else none
  | _ => none
def rng2M (f : M (List D)) : M (List D) := bindM f fun ds en => match ds with
  | [.int a, .int n] => if -(2 ^ 62) ≤ a ∧ a < 2 ^ 62 ∧ -(2 ^ 62) ≤ n ∧ n < 2 ^ 62 then some (.ok (rngD a (n - a).toNat), en) else none
  | _ => none
theorem di_rng1 (h : PI X tg e (iRng1 (tA G ga))) : PI X tg e (tI G (rng1M ga)) := h.mono fun σ H Q ⟨r, en, x, R, hx, p⟩ => (bindG (Ra := rL) (Rb := rIt) R hx p).imp fun v H1 ⟨r1, en1, d, m⟩ => by
  have e := m.run
  split at e
  · rename_i n
    split at e
    · rename_i hb
      have ha : Rps G.C r1 (hid G.S r1 en1.c H1) [.int n] v := m.ha
      cases ha with
      | cons h1 h2 =>
        cases h2
        cases h1
        exact ⟨n, rfl, hb.1, hb.2, m.post.here m.R e it_rng⟩
    · cases e
  · cases e
theorem di_rng2 (h : PI X tg e (iRng2 (tA G ga))) : PI X tg e (tI G (rng2M ga)) := h.mono fun σ H Q ⟨r, en, x, R, hx, p⟩ => (bindG (Ra := rL) (Rb := rIt) R hx p).imp fun v H1 ⟨r1, en1, d, m⟩ => by
  have e := m.run
  split at e
  · rename_i a n
    split at e
    · rename_i hb
      have ha : Rps G.C r1 (hid G.S r1 en1.c H1) [.int a, .int n] v := m.ha
      cases ha with
      | cons h1 h2 =>
        cases h2 with
        | cons h2 h3 =>
          cases h3
          cases h1
          cases h2
          exact ⟨a, n, rfl, hb, m.post.here m.R e it_rng⟩
    · cases e
  · cases e
/-- enumerate(xs), zip(xs, ys), reversed(xs) -/
def enuD (k : Nat) : List D → List D
  | [] => []
  | d :: ds => .tup [.int k, d] :: enuD (k + 1) ds
theorem enuD_get : ∀ (ds : List D) (k i : Nat), (enuD k ds)[i]? = (ds[i]?).map fun d => D.tup [.int ((k + i : Nat) : Int), d]
  | [], k, i => by simp [enuD]
  | d :: ds, k, 0 => by simp [enuD]
  | d :: ds, k, i + 1 => by
    simp only [enuD, List.getElem?_cons_succ]
    rw [enuD_get ds (k + 1) i, show k + 1 + i = k + (i + 1) by omega]
theorem enuD_len : ∀ (ds : List D) (k : Nat), (enuD k ds).length = ds.length
  | [], _ => rfl
  | d :: ds, k => by simp [enuD, enuD_len ds]
def zipD : List D → List D → List D
  | a :: as, b :: bs => .tup [a, b] :: zipD as bs
  | _, _ => []
theorem zipD_get : ∀ (as bs : List D) (i : Nat) (d : D), (zipD as bs)[i]? = some d → ∃ a b, as[i]? = some a ∧ bs[i]? = some b ∧ d = .tup [a, b]
  | a :: as, b :: bs, 0, d, h => by simp [zipD] at h; subst h; exact ⟨a, b, rfl, rfl, rfl⟩
  | a :: as, b :: bs, i + 1, d, h => by
    simp only [zipD, List.getElem?_cons_succ] at h
    obtain ⟨x, y, h1, h2, h3⟩ := zipD_get as bs i d h
    exact ⟨x, y, by simpa using h1, by simpa using h2, h3⟩
  | [], _, i, d, h => by simp [zipD] at h
  | _ :: _, [], i, d, h => by simp [zipD] at h
theorem zipD_len : ∀ (as bs : List D), (zipD as bs).length = min as.length bs.length
  | a :: as, b :: bs => by simp [zipD, zipD_len as bs]
  | [], _ => by simp [zipD]
  | _ :: _, [] => by simp [zipD]
theorem it_enu {K : PySem.W.Frag} {r : List Addr} {c : Cells} {H : Hp} {a : Addr} {vs : List V} {ds : List D} (h1 : hid G.S r c H a = some (.lst vs)) (h2 : Rps G.C r (hid G.S r c H) ds vs) : rIt G r c H (enuD 0 ds) (Ite K a) := fun S' r' c' H' sx sm R i => by
  have h1' := hid_same _ _ (sm _ _ h1)
  have h2' := h2.mono sx sm
  refine ⟨fun d hd => ?_, fun hl => ⟨vs, SqL.of h1', by rw [← h2.length]; rw [enuD_len] at hl; exact hl⟩⟩
  rw [enuD_get] at hd
  cases hi : ds[i]? with
  | none => rw [hi] at hd; cases hd
  | some d0 =>
    rw [hi] at hd
    cases hd
    obtain ⟨v, hv, hr⟩ := h2'.get hi
    refine ⟨⟨vs, v, SqL.of h1', hv⟩, fun x H'' y => ?_⟩
    obtain ⟨T, x0, rfl, hT, rfl, y⟩ := y
    have e := (y vs (SqL.of h1')).symm.trans hv
    cases e
    obtain ⟨c1, s1⟩ := R.laid (.tup [.int (i : Nat), v]) hT
    refine ⟨c1, s1, .tup (hid_laid R hT) (.cons ?_ (.cons (hr.stp s1) .nil))⟩
    rw [show ((0 + i : Nat) : Int) = ((i : Nat) : Int) by omega]
    exact .int _
theorem it_zip {K : PySem.W.Frag} {r : List Addr} {c : Cells} {H : Hp} {a b : Addr} {vs ws : List V} {ds es : List D} (h1 : hid G.S r c H a = some (.lst vs)) (h2 : Rps G.C r (hid G.S r c H) ds vs) (h3 : hid G.S r c H b = some (.lst ws)) (h4 : Rps G.C r (hid G.S r c H) es ws) :
    rIt G r c H (zipD ds es) (Itz K a b) := fun S' r' c' H' sx sm R i => by
  have h1' := hid_same _ _ (sm _ _ h1)
  have h2' := h2.mono sx sm
  have h3' := hid_same _ _ (sm _ _ h3)
  have h4' := h4.mono sx sm
  refine ⟨fun d hd => ?_, fun hl => ⟨vs, ws, SqL.of h1', SqL.of h3', ?_⟩⟩
  · obtain ⟨x0, y0, e1, e2, rfl⟩ := zipD_get _ _ _ _ hd
    obtain ⟨v, hv, hr⟩ := h2'.get e1
    obtain ⟨w, hw, hr2⟩ := h4'.get e2
    refine ⟨⟨vs, ws, v, w, SqL.of h1', SqL.of h3', hv, hw⟩, fun x H'' y => ?_⟩
    obtain ⟨T, x1, y1, rfl, hT, rfl, q1, q2⟩ := y
    have e := (q1 vs (SqL.of h1')).symm.trans hv
    cases e
    have e := (q2 ws (SqL.of h3')).symm.trans hw
    cases e
    obtain ⟨c1, s1⟩ := R.laid (.tup [v, w]) hT
    exact ⟨c1, s1, .tup (hid_laid R hT) (.cons (hr.stp s1) (.cons (hr2.stp s1) .nil))⟩
  · rw [zipD_len] at hl
    rw [← h2.length, ← h4.length]
    omega
theorem it_rev {K : PySem.W.Frag} {r : List Addr} {c : Cells} {H : Hp} {a : Addr} {vs : List V} {ds : List D} (h1 : hid G.S r c H a = some (.lst vs)) (h2 : Rps G.C r (hid G.S r c H) ds vs) : rIt G r c H ds.reverse (Itv K a vs.length) := fun S' r' c' H' sx sm R i => by
  have h1' := hid_same _ _ (sm _ _ h1)
  have h2' := h2.mono sx sm
  refine ⟨fun d hd => ?_, fun hl => by rw [List.length_reverse, h2.length] at hl; exact hl⟩
  have hi : i < ds.length := by
    have q := (List.getElem?_eq_some_iff.mp hd).1
    simpa using q
  rw [List.getElem?_reverse hi] at hd
  obtain ⟨v, hv, hr⟩ := h2'.get hd
  rw [h2.length] at hv
  refine ⟨⟨by rw [← h2.length]; exact hi, vs, v, SqL.of h1', hv⟩, fun x H'' y => ?_⟩
  obtain ⟨rfl, y⟩ := y
  have e := (y vs (SqL.of h1')).symm.trans hv
  cases e
  exact ⟨R, Stp.refl, hr⟩
def enuM (f : M (List D)) : M (List D) := bindM f fun ds en => match ds with
  | [.lst ds] => some (.ok (enuD 0 ds), en)
  | _ => none
def revM (f : M (List D)) : M (List D) := bindM f fun ds en => match ds with
  | [.lst ds] => some (.ok ds.reverse, en)
  | _ => none
def zipM (f : M (List D)) : M (List D) := bindM f fun ds en => match ds with
  | [.lst as, .lst bs] => some (.ok (zipD as bs), en)
  | _ => none
theorem di_enu (h : PI X tg e (iEnum X.K (tA G ga))) : PI X tg e (tI G (enuM ga)) := h.mono fun σ H Q ⟨r, en, x, R, hx, p⟩ => (bindG (Ra := rL) (Rb := rIt) R hx p).imp fun v H1 ⟨r1, en1, d, m⟩ => by
  have e := m.run
  split at e
  · rename_i ds
    have ha : Rps G.C r1 (hid G.S r1 en1.c H1) [.lst ds] v := m.ha
    cases ha with
    | cons h1 h2 =>
      cases h2
      cases h1 with
      | @lst a vs _ h1 h2 => exact ⟨a, vs, rfl, SqL.of (hid_same _ _ h1), m.post.here m.R e (it_enu h1 h2)⟩
  · cases e
theorem di_rev (h : PI X tg e (iRev X.K (tA G ga))) : PI X tg e (tI G (revM ga)) := h.mono fun σ H Q ⟨r, en, x, R, hx, p⟩ => (bindG (Ra := rL) (Rb := rIt) R hx p).imp fun v H1 ⟨r1, en1, d, m⟩ => by
  have e := m.run
  split at e
  · rename_i ds
    have ha : Rps G.C r1 (hid G.S r1 en1.c H1) [.lst ds] v := m.ha
    cases ha with
    | cons h1 h2 =>
      cases h2
      cases h1 with
      | @lst a vs _ h1 h2 => exact ⟨a, vs, rfl, SqL.of (hid_same _ _ h1), m.post.here m.R e (it_rev h1 h2)⟩
  · cases e
theorem di_zip (h : PI X tg e (iZip X.K (tA G ga))) : PI X tg e (tI G (zipM ga)) := h.mono fun σ H Q ⟨r, en, x, R, hx, p⟩ => (bindG (Ra := rL) (Rb := rIt) R hx p).imp fun v H1 ⟨r1, en1, d, m⟩ => by
  have e := m.run
  split at e
  · rename_i as bs
    have ha : Rps G.C r1 (hid G.S r1 en1.c H1) [.lst as, .lst bs] v := m.ha
    cases ha with
    | cons h1 h2 =>
      cases h2 with
      | cons h2 h3 =>
        cases h3
        cases h1 with
        | @lst a vs _ h1 k1 =>
          cases h2 with
          | @lst b ws _ h2 k2 => exact ⟨a, b, vs, ws, rfl, SqL.of (hid_same _ _ h1), SqL.of (hid_same _ _ h2), m.post.here m.R e (it_zip h1 k1 h2 k2)⟩
  · cases e
end

/-! ### for -/
def loopM (t : Tg) (fb : M Ctl) : List D → M Ctl
  | [], en => some (.ok .nx, en)
  | d :: ds, en => match t.st d en.sl with
    | none => none
    | some sl => match fb ⟨sl, en.c⟩ with
      | none => none
      | some (.exc n d, en') => some (.exc n d, en')
      | some (.ok .nx, en') => loopM t fb ds en'
      | some (.ok .ct, en') => loopM t fb ds en'
      | some (.ok .bk, en') => some (.ok .nx, en')
      | some (.ok (.rt d), en') => some (.ok (.rt d), en')
def forM (fi : M (List D)) (t : Tg) (fb : M Ctl) : M Ctl := bindM fi fun ds => loopM t fb ds
section
variable {X : Cx} {G : Par} {fi : M (List D)} {t : Tg} {fb : M Ctl} {st : Stmt}
theorem ds_for (h : PS X st (tFor (tI G fi) (t.G G.K) (tS G fb))) : PS X st (tS G (forM fi t fb)) := h.mono fun Dn σ H ⟨r, en, x, R, hx, p⟩ => by
  refine (bindS (Ra := rIt) R hx p).imp fun J H1 ⟨r1, en1, ds, m⟩ => ?_
  refine ⟨fun i k σ' H' => k = ds.length - i ∧ i ≤ ds.length ∧ ∃ r' en', Rl G r' en' σ' H' ∧ Stp G.S r1 en1.c H1 r' en'.c H' ∧ loopM t fb (ds.drop i) en' = some x, ⟨ds.length, rfl, Nat.zero_le _, r1, en1, m.R, Stp.refl, m.run⟩, ?_⟩
  rintro i k σ' H' ⟨rfl, hi, r', en', R', s', e⟩
  obtain ⟨hgo, hstop⟩ := m.ha G.S r' en'.c H' s'.ext s'.sm R'.cr i
  by_cases hlt : i < ds.length
  · right
    have hd : ds[i]? = some ds[i] := List.getElem?_eq_getElem hlt
    obtain ⟨g, y⟩ := hgo _ hd
    refine ⟨g, fun σ2 H2 => ∃ r2 en2, Rl G r2 en2 σ2 H2 ∧ Stp G.S r1 en1.c H1 r2 en2.c H2 ∧ loopM t fb (ds.drop (i + 1)) en2 = some x, fun σ2 H2 ⟨r2, en2, z⟩ => ⟨ds.length - (i + 1), by omega, rfl, hlt, r2, en2, z⟩, fun v H2 yv => ?_⟩
    obtain ⟨c2, s2, hv⟩ := y v H2 yv
    rw [List.drop_eq_getElem_cons hlt] at e
    unfold loopM at e
    cases hs : t.st ds[i] en'.sl with
    | none => rw [hs] at e; cases e
    | some sl =>
      rw [hs] at e
      have R2 : Rl G r' en' σ' H2 := R'.stp (sl := en'.sl) (c := en'.c) c2 s2
      refine tg_ok t R2 hv hs fun σ3 R3 _ => ?_
      dsimp only at e
      cases hb : fb ⟨sl, en'.c⟩ with
      | none => rw [hb] at e; cases e
      | some z =>
        rw [hb] at e
        obtain ⟨z1, en3⟩ := z
        refine ⟨r', ⟨sl, en'.c⟩, (z1, en3), R3, hb, fun r4 σ4 H4 s4 R4 => ?_⟩
        have s5 : Stp G.S r1 en1.c H1 r4 en3.c H4 := (s'.trans s2).trans s4
        cases z1 with
        | exc n d => cases e; exact m.post r4 σ4 H4 s5 R4
        | ok c =>
          cases c with
          | nx => exact ⟨r4, en3, R4, s5, e⟩
          | ct => exact ⟨r4, en3, R4, s5, e⟩
          | bk => cases e; exact m.post r4 σ4 H4 s5 R4
          | rt d => cases e; exact m.post r4 σ4 H4 s5 R4
  · left
    have hi' : i = ds.length := by omega
    refine ⟨hstop (by omega), ?_⟩
    rw [hi', List.drop_length] at e
    cases e
    exact m.post r' σ' H' s' R'
/-! ### while -/
def whileM : Nat → M Bool → M Ctl → M Ctl
  | 0, _, _ => failM
  | n + 1, c, fb => fun en => match c en with
    | none => none
    | some (.exc n d, en') => some (.exc n d, en')
    | some (.ok false, en') => some (.ok .nx, en')
    | some (.ok true, en') => match fb en' with
      | none => none
      | some (.exc n d, en2) => some (.exc n d, en2)
      | some (.ok .nx, en2) => whileM n c fb en2
      | some (.ok .ct, en2) => whileM n c fb en2
      | some (.ok .bk, en2) => some (.ok .nx, en2)
      | some (.ok (.rt d), en2) => some (.ok (.rt d), en2)
theorem ds_while {n : Nat} {gc : M Bool} (h : PS X st (tWhile (tT G gc) (tS G fb))) : PS X st (tS G (whileM n gc fb)) := h.mono fun Dn σ H ⟨r, en, x, R, hx, p⟩ => by
  refine ⟨fun k σ' H' => ∃ r' en', Rl G r' en' σ' H' ∧ Stp G.S r en.c H r' en'.c H' ∧ whileM k gc fb en' = some x, ⟨n, r, en, R, Stp.refl, hx⟩, ?_⟩
  rintro k σ' H' ⟨r', en', R', s', e⟩
  cases k with
  | zero => cases e
  | succ k =>
    unfold whileM at e
    cases hc : gc en' with
    | none => rw [hc] at e; cases e
    | some z =>
      rw [hc] at e
      obtain ⟨z1, en1⟩ := z
      refine ⟨r', en', (z1, en1), R', hc, fun r1 H1 s1 R1 => ?_⟩
      cases z1 with
      | exc n d => cases e; exact p r1 σ' H1 (s'.trans s1) R1
      | ok b =>
        intro b' hb
        have hb : b = b' := hb
        subst hb
        cases b with
        | false =>
          cases e
          exact p r1 σ' H1 (s'.trans s1) R1
        | true =>
          rw [if_pos rfl]
          dsimp only at e
          refine ⟨fun σ2 H2 => ∃ r2 en2, Rl G r2 en2 σ2 H2 ∧ Stp G.S r en.c H r2 en2.c H2 ∧ whileM k gc fb en2 = some x, fun σ2 H2 z => ⟨k, Nat.lt_succ_self k, z⟩, ?_⟩
          cases hf : fb en1 with
          | none => rw [hf] at e; cases e
          | some y =>
            rw [hf] at e
            obtain ⟨y1, en2⟩ := y
            refine ⟨r1, en1, (y1, en2), R1, hf, fun r4 σ4 H4 s4 R4 => ?_⟩
            have s5 : Stp G.S r en.c H r4 en2.c H4 := (s'.trans s1).trans s4
            cases y1 with
            | exc n d => cases e; exact p r4 σ4 H4 s5 R4
            | ok c =>
              cases c with
              | nx => exact ⟨r4, en2, R4, s5, e⟩
              | ct => exact ⟨r4, en2, R4, s5, e⟩
              | bk => cases e; exact p r4 σ4 H4 s5 R4
              | rt d => cases e; exact p r4 σ4 H4 s5 R4
end
end CD

/-! CDf: comprehensions, calls of built-ins, of methods of lists. -/
namespace CD
open PySem PySem.Spec PyProof.Rows L2

/-! ### a list that is being made, hidden -/
abbrev addS (S : Addr → Prop) (p : Addr) : Addr → Prop := fun a => S a ∨ a = p
abbrev Par.wS (G : Par) (S : Addr → Prop) : Par := { G with S := S }
section
variable {S : Addr → Prop} {C : Hc} {r : List Addr} {c : Cells} {H : Hp} {p : Addr}
theorem lv_add {a : Addr} : Lv (addS S p) r c a ↔ Lv S r c a ∨ a = p := by
  unfold Lv addS
  constructor
  · rintro ((h | h) | h)
    · exact .inl (.inl h)
    · exact .inr h
    · exact .inl (.inr h)
  · rintro ((h | h) | h)
    · exact .inl (.inl h)
    · exact .inr h
    · exact .inl (.inr h)
theorem hid_less : Same (hid (addS S p) r c H) (hid S r c H) := fun a o e => by
  obtain ⟨h1, h2⟩ := hid_some.mp e
  exact hid_some.mpr ⟨fun h => h1 (lv_add.mpr (.inl h)), h2⟩
theorem hid_new {o : HO} (hp : H p = none) : Same (hid S r c H) (hid (addS S p) r c (upd H p o)) := fun a u e => by
  obtain ⟨h1, h2⟩ := hid_some.mp e
  have n := ne_of_none h2 hp
  exact hid_some.mpr ⟨fun h => (lv_add.mp h).elim h1 n, by rw [upd_ne n]; exact h2⟩
theorem CelR.hide (R : CelR S C r c H) {o : HO} (hp : H p = none) : CelR (addS S p) C r c (upd H p o) := by
  have ha : ∀ a, H a ≠ none → upd H p o a ≠ none := fun a h => by
    by_cases e : a = p
    · subst e; exact absurd hp h
    · rw [upd_ne e]; exact h
  refine ⟨R.nd, fun a h => ?_, fun a h z => ?_, R.len, fun a h => ha a (R.al a h), fun k ds e => ?_⟩
  · rcases h with h | rfl
    · exact ha a (R.sal a h)
    · rw [upd_same]; simp
  · rcases z with z | rfl
    · exact R.dis a h z
    · exact R.al _ h hp
  · obtain ⟨a, vs, h1, h2, h3⟩ := R.cell k ds e
    exact ⟨a, vs, h1, by rw [upd_ne (ne_of_none h2 hp)]; exact h2, h3.mono List.prefix_rfl (hid_new hp)⟩
theorem CelR.show (R : CelR (addS S p) C r c H) : CelR S C r c H := by
  refine ⟨R.nd, fun a h => R.sal a (.inl h), fun a h z => R.dis a h (.inl z), R.len, R.al, fun k ds e => ?_⟩
  obtain ⟨a, vs, h1, h2, h3⟩ := R.cell k ds e
  exact ⟨a, vs, h1, h2, h3.mono List.prefix_rfl hid_less⟩
/-- the hidden list is written -/
theorem hid_wr {o : HO} : Same (hid (addS S p) r c H) (hid (addS S p) r c (upd H p o)) := fun a u e => by
  obtain ⟨h1, h2⟩ := hid_some.mp e
  exact hid_some.mpr ⟨h1, by rw [upd_ne (fun z => h1 (lv_add.mpr (.inr z)))]; exact h2⟩
theorem CelR.wr (R : CelR (addS S p) C r c H) {o : HO} : CelR (addS S p) C r c (upd H p o) := by
  have ha : ∀ a, H a ≠ none → upd H p o a ≠ none := fun a h => by
    by_cases e : a = p
    · subst e; rw [upd_same]; simp
    · rw [upd_ne e]; exact h
  refine ⟨R.nd, fun a h => ha a (R.sal a h), R.dis, R.len, fun a h => ha a (R.al a h), fun k ds e => ?_⟩
  obtain ⟨a, vs, h1, h2, h3⟩ := R.cell k ds e
  exact ⟨a, vs, h1, by rw [upd_ne (fun z => R.dis a (List.mem_of_getElem? h1) (.inr z))]; exact h2, h3.mono List.prefix_rfl hid_wr⟩
end
theorem hid_cell {S : Addr → Prop} {r : List Addr} {c : Cells} {H : Hp} {p : Addr} {ds : List D} (hl : r.length = c.length) : hid S (r ++ [p]) (c ++ [some ds]) H = hid (addS S p) r c H := by
  funext a
  have hh : Lv S (r ++ [p]) (c ++ [some ds]) a ↔ Lv (addS S p) r c a := by
    rw [lv_append hl, lv_add]
    simp
  unfold hid
  by_cases h : Lv (addS S p) r c a
  · rw [if_pos h, if_pos (hh.mpr h)]
  · rw [if_neg h, if_neg (fun z => h (hh.mp z))]
/-- a hidden list becomes a cell -/
theorem CelR.cellOf {S : Addr → Prop} {C : Hc} {r : List Addr} {c : Cells} {H : Hp} {p : Addr} {ds : List D} {vs : List V} (R : CelR (addS S p) C r c H) (hS : ¬ S p) (hp : H p = some (.lst vs)) (hv : Rps C r (hid (addS S p) r c H) ds vs) : CelR S C (r ++ [p]) (c ++ [some ds]) H := by
  refine ⟨?_, fun a h => R.sal a (.inl h), fun a h hs => ?_, by simp [R.len], fun a h => ?_, fun k es e => ?_⟩
  · rw [List.nodup_append]
    refine ⟨R.nd, by simp, fun a h b hb e => ?_⟩
    simp at hb
    subst hb
    subst e
    exact R.dis a h (.inr rfl)
  · rcases List.mem_append.mp h with h | h
    · exact R.dis a h (.inl hs)
    · simp at h
      subst h
      exact hS hs
  · rcases List.mem_append.mp h with h | h
    · exact R.al a h
    · simp at h
      subst h
      rw [hp]
      simp
  · rw [hid_cell R.len]
    by_cases hk : k < c.length
    · rw [List.getElem?_append_left hk] at e
      obtain ⟨a, ws, h1, h2, h3⟩ := R.cell k es e
      refine ⟨a, ws, ?_, h2, h3.mono (List.prefix_append _ _) (Same.refl _)⟩
      rw [List.getElem?_append_left (List.getElem?_eq_some_iff.mp h1).1]
      exact h1
    · have q := (List.getElem?_eq_some_iff.mp e).1
      simp at q
      have e0 : k = c.length := by omega
      subst e0
      rw [List.getElem?_append_right (Nat.le_refl _)] at e
      simp at e
      subst e
      exact ⟨p, vs, by rw [← R.len]; simp, hp, hv.mono (List.prefix_append _ _) (Same.refl _)⟩
theorem Rl.mono {G : Par} {S' : Addr → Prop} {r r' : List Addr} {sl : List (Option D)} {c c' : Cells} {σ : L2.St} {H H' : Hp} (R : Rl G r ⟨sl, c⟩ σ H) (cr : CelR S' G.C r' c' H') (hx : r <+: r') (hs : Same (hid G.S r c H) (hid S' r' c' H')) : Rl (G.wS S') r' ⟨sl, c'⟩ σ H' :=
  ⟨cr, R.len, fun i d e => let ⟨v, h1, h2⟩ := R.slot i d e; ⟨v, h1, h2.mono hx hs⟩⟩

/-! ### comprehensions -/
def tEs (G : Par) (f : M D) : TE := fun σ H Q => ∃ S, tE (G.wS S) f σ H Q
def tTs (G : Par) (f : M Bool) : TT := fun σ H Q => ∃ S, tT (G.wS S) f σ H Q
theorem pe_exS {X : Cx} {G : Par} {e : Expr} {f : M D} (h : ∀ S, PE X e (tE (G.wS S) f)) : PE X e (tEs G f) := ⟨fun pins s σ H Q I ⟨S, q⟩ => (h S).run pins s σ H Q I q⟩
theorem pts_exS {X : Cx} {G : Par} {e : Expr} {f : M Bool} (h : ∀ S, PT X e (tT (G.wS S) f)) : PTs X [e] (tTs G f) := ⟨fun pins s σ H Q I ⟨S, q⟩ => (pts_one (h S)).run pins s σ H Q I q⟩
theorem pts_yes {X : Cx} {G : Par} : PTs X [] (tTs G (pureM true)) := ⟨fun pins s σ H Q I ⟨S, r, en, x, R, hx, p⟩ => pts_nil.run pins s σ H Q I (p.here R hx rfl)⟩
def wipeD (sl : List (Option D)) : List Nat → List (Option D)
  | [] => sl
  | v :: vs => (wipeD sl vs).set v none
def lcTurn (t : Tg) (vs : List Nat) (ft : M Bool) (fe : M D) (sl : List (Option D)) (d : D) (c : Cells) : Option (Option D × Cells) :=
  match t.st d (wipeD sl vs) with
  | none => none
  | some sl1 => match ft ⟨sl1, c⟩ with
    | some (.ok true, en2) => match fe en2 with
      | some (.ok y, en3) => some (some y, en3.c)
      | _ => none
    | some (.ok false, en2) => some (none, en2.c)
    | _ => none
def lcLoop (t : Tg) (vs : List Nat) (ft : M Bool) (fe : M D) (sl : List (Option D)) : List D → Cells → Option (List D × Cells)
  | [], c => some ([], c)
  | d :: ds, c => match lcTurn t vs ft fe sl d c with
    | none => none
    | some (o, c1) => match lcLoop t vs ft fe sl ds c1 with
      | none => none
      | some (ys, c2) => some (o.toList ++ ys, c2)
def finL (cell : Bool) (ys : List D) (en : En) : Option (Res D × En) := if ys.length ≤ sizeLine then (if cell then some (.ok (.ow en.c.length), ⟨en.sl, en.c ++ [some ys]⟩) else some (.ok (.lst ys), en)) else none
def lcM (cell : Bool) (fi : M (List D)) (t : Tg) (vs : List Nat) (ft : M Bool) (fe : M D) : M D := bindM fi fun ds en => match lcLoop t vs ft fe en.sl ds en.c with
  | none => none
  | some (ys, c) => finL cell ys ⟨en.sl, c⟩

theorem wipe_rl {G : Par} {r : List Addr} {c : Cells} {σ : L2.St} {H : Hp} {sl : List (Option D)} (R : Rl G r ⟨sl, c⟩ σ H) : ∀ vs, Rl G r ⟨wipeD sl vs, c⟩ (wipe σ vs) H
  | [] => R
  | v :: vs => by
    have R1 := wipe_rl R vs
    refine ⟨R1.cr, by show ((wipeD sl vs).set v none).length = ((wipe σ vs).set v none).length; rw [List.length_set, List.length_set]; exact R1.len, fun i d e => ?_⟩
    have e : ((wipeD sl vs).set v none)[i]? = some (some d) := e
    by_cases hi : v = i
    · subst hi
      by_cases hv : v < (wipeD sl vs).length
      · rw [List.getElem?_set_self hv] at e; cases e
      · rw [List.getElem?_eq_none (by simpa using hv)] at e; cases e
    · rw [List.getElem?_set_ne hi] at e
      obtain ⟨w, h1, h2⟩ := R1.slot i d e
      exact ⟨w, by show ((wipe σ vs).set v none)[i]? = _; rw [List.getElem?_set_ne hi]; exact h1, h2⟩
theorem wipe_get {σ : L2.St} {i : Nat} : ∀ {vs : List Nat}, i ∈ vs → i < σ.length → (wipe σ vs)[i]? = some none
  | v :: vs, h, hl => by
    show ((wipe σ vs).set v none)[i]? = some none
    by_cases e : v = i
    · subst e
      rw [List.getElem?_set_self (by rw [wipe_length]; exact hl)]
    · rw [List.getElem?_set_ne e]
      exact wipe_get ((List.mem_cons.mp h).resolve_left fun z => e z.symm) hl
theorem wipe_setAll {σ : L2.St} {vs : List Nat} : ∀ (is : List Nat) (ws : List V) (τ : L2.St), (∀ i ∈ is, i ∈ vs) → wipe τ vs = wipe σ vs → wipe (setAll τ is ws) vs = wipe σ vs
  | [], _, τ, _, e => by unfold setAll; exact e
  | i :: is, [], τ, _, e => by unfold setAll; exact e
  | i :: is, w :: ws, τ, h, e => by
    refine wipe_setAll is ws (τ.set i (some w)) (fun j hj => h j (List.mem_cons_of_mem _ hj)) (Eq.trans ?_ e)
    have hi := h i List.mem_cons_self
    apply List.ext_getElem?
    intro j
    by_cases hj : j ∈ vs
    · by_cases hl : j < τ.length
      · rw [wipe_get hj (by rw [List.length_set]; exact hl), wipe_get hj hl]
      · rw [List.getElem?_eq_none (by rw [wipe_length, List.length_set]; omega), List.getElem?_eq_none (by rw [wipe_length]; omega)]
    · rw [wipe_out hj, wipe_out hj, List.getElem?_set_ne (fun (e : i = j) => hj (e ▸ hi))]

structure LcW (G : Par) (Dd : Addr) (σ : L2.St) (r1 : List Addr) (en1 : En) (H1 : Hp) (r' : List Addr) (c' : Cells) (H : Hp) (acc : List D) (accv : List V) : Prop where
  ext : r1 <+: r'
  sm : Same (hid G.S r1 en1.c H1) (hid (addS G.S Dd) r' c' H)
  al : ∀ a, H1 a ≠ none → H a ≠ none
  ks : ∀ a o, G.S a → H1 a = some o → H a = some o
  R : Rl (G.wS (addS G.S Dd)) r' ⟨en1.sl, c'⟩ σ H
  hD : H Dd = some (.lst accv)
  ha : Rps G.C r' (hid (addS G.S Dd) r' c' H) acc accv
theorem LcW.step {G : Par} {Dd : Addr} {σ : L2.St} {r1 : List Addr} {en1 : En} {H1 : Hp} {r' r2 : List Addr} {c' c2 : Cells} {H H2 : Hp} {acc : List D} {accv : List V} (w : LcW G Dd σ r1 en1 H1 r' c' H acc accv) (R2 : CelR (addS G.S Dd) G.C r2 c2 H2) (s : Stp (addS G.S Dd) r' c' H r2 c2 H2) :
    LcW G Dd σ r1 en1 H1 r2 c2 H2 acc accv :=
  ⟨w.ext.trans s.ext, w.sm.trans s.sm, fun a h => s.al a (w.al a h), fun a o h e => s.ks a o (.inl h) (w.ks a o h e), w.R.stp R2 s, s.ks Dd _ (.inr rfl) w.hD, w.ha.stp s⟩
theorem LcW.app {G : Par} {Dd : Addr} {σ : L2.St} {r1 : List Addr} {en1 : En} {H1 : Hp} {r' : List Addr} {c' : Cells} {H : Hp} {acc : List D} {accv : List V} {y : D} {v : V} (w : LcW G Dd σ r1 en1 H1 r' c' H acc accv) (hn : H1 Dd = none) (hS : ¬ G.S Dd) (hy : Rp G.C r' (hid (addS G.S Dd) r' c' H) y v) :
    LcW G Dd σ r1 en1 H1 r' c' (upd H Dd (.lst (accv ++ [v]))) (acc ++ [y]) (accv ++ [v]) :=
  ⟨w.ext, w.sm.trans hid_wr, fun a h => by
    by_cases e : a = Dd
    · subst e; rw [upd_same]; simp
    · rw [upd_ne e]; exact w.al a h, fun a o h e => by
    rw [upd_ne (fun (z : a = Dd) => hS (z ▸ h))]
    exact w.ks a o h e, w.R.mono (S' := addS G.S Dd) w.R.cr.wr List.prefix_rfl hid_wr, upd_same, (w.ha.append (.cons hy .nil)).mono List.prefix_rfl hid_wr⟩

theorem lc_ok {X : Cx} {G : Par} {e : Expr} {cell : Bool} {fi : M (List D)} {t : Tg} {vs : List Nat} {ft : M Bool} {fe : M D} (hv : ∀ i ∈ t.vs, i ∈ vs) : ∀ σ H Q, tE G (lcM cell fi t vs ft fe) σ H Q → tLc (tI G fi) (t.G G.K) (tTs G ft) (tEs G fe) vs σ H Q := fun σ H Q ⟨r, en, x, R, hx, p⟩ => by
  refine (bindG (Ra := rIt) R hx p).imp fun J H1 ⟨r1, en1, ds, m⟩ => fun Dd hD => ?_
  have e := m.run
  cases hl : lcLoop t vs ft fe en1.sl ds en1.c with
  | none => rw [hl] at e; cases e
  | some z =>
    obtain ⟨ys, cF⟩ := z
    rw [hl] at e
    dsimp only at e
    have hsz : ys.length ≤ sizeLine := by
      unfold finL at e
      split at e
      · assumption
      · cases e
    have hnS : ¬ G.S Dd := fun z => m.R.cr.sal Dd z hD
    refine ⟨fun i k H' => k = ds.length - i ∧ i ≤ ds.length ∧ ∃ r' c' acc accv rest, LcW G Dd σ r1 en1 H1 r' c' H' acc accv ∧ lcLoop t vs ft fe en1.sl (ds.drop i) c' = some (rest, cF) ∧ acc ++ rest = ys, ⟨ds.length, rfl, Nat.zero_le _, r1, en1.c, [], [], ys, ⟨List.prefix_rfl, hid_new hD, fun a h => ?_, fun a o h e => ?_, m.R.mono (m.R.cr.hide hD) List.prefix_rfl (hid_new hD), upd_same, .nil⟩, hl, rfl⟩, ?_⟩
    · by_cases e : a = Dd
      · subst e; rw [upd_same]; simp
      · rw [upd_ne e]; exact h
    · rw [upd_ne (ne_of_none e hD)]; exact e
    · rintro i k H' ⟨rfl, hi, r', c', acc, accv, rest, w, hl', hacc⟩
      obtain ⟨hgo, hstop⟩ := m.ha (addS G.S Dd) r' c' H' w.ext w.sm w.R.cr i
      by_cases hlt : i < ds.length
      · right
        have hd : ds[i]? = some ds[i] := List.getElem?_eq_getElem hlt
        obtain ⟨g, y⟩ := hgo _ hd
        refine ⟨g, fun H2 => ∃ r2 c2 acc2 accv2 rest2, LcW G Dd σ r1 en1 H1 r2 c2 H2 acc2 accv2 ∧ lcLoop t vs ft fe en1.sl (ds.drop (i + 1)) c2 = some (rest2, cF) ∧ acc2 ++ rest2 = ys, fun H2 z => ⟨ds.length - (i + 1), by omega, rfl, hlt, z⟩, fun v H2 yv => ?_⟩
        obtain ⟨c2, s2, hv2⟩ := y v H2 yv
        have w2 := w.step c2 s2
        rw [List.drop_eq_getElem_cons hlt] at hl'
        unfold lcLoop at hl'
        cases ht : lcTurn t vs ft fe en1.sl ds[i] c' with
        | none => rw [ht] at hl'; cases hl'
        | some o =>
          rw [ht] at hl'
          obtain ⟨o, c3⟩ := o
          dsimp only at hl'
          cases hr : lcLoop t vs ft fe en1.sl (ds.drop (i + 1)) c3 with
          | none => rw [hr] at hl'; cases hl'
          | some z =>
            rw [hr] at hl'
            obtain ⟨ys2, cF2⟩ := z
            have hl2 : o.toList ++ ys2 = rest ∧ cF2 = cF := by simpa using hl'
            obtain ⟨hrest, rfl⟩ := hl2
            unfold lcTurn at ht
            cases hs : t.st ds[i] (wipeD en1.sl vs) with
            | none => rw [hs] at ht; cases ht
            | some sl1 =>
              rw [hs] at ht
              dsimp only at ht
              refine tg_ok (G := G.wS (addS G.S Dd)) t (wipe_rl w2.R vs) hv2 hs fun σ3 R3 hσ => ⟨?_, addS G.S Dd, ?_⟩
              · obtain ⟨ws, _, rfl⟩ := hσ
                exact wipe_setAll _ _ _ hv (by
                  apply List.ext_getElem?
                  intro j
                  by_cases hj : j ∈ vs
                  · by_cases hl : j < σ.length
                    · rw [wipe_get hj (by rw [wipe_length]; exact hl), wipe_get hj hl]
                    · rw [List.getElem?_eq_none (by rw [wipe_length, wipe_length]; omega), List.getElem?_eq_none (by rw [wipe_length]; omega)]
                  · rw [wipe_out hj])
              · cases hf : ft ⟨sl1, c'⟩ with
                | none => rw [hf] at ht; cases ht
                | some z =>
                  rw [hf] at ht
                  obtain ⟨z1, en2⟩ := z
                  refine ⟨r', ⟨sl1, c'⟩, (z1, en2), R3, hf, fun r4 H4 s4 R4 => ?_⟩
                  cases z1 with
                  | exc n d => cases ht
                  | ok b =>
                    intro b' hb
                    have hb : b = b' := hb
                    subst hb
                    have w4 := w2.step R4.cr s4
                    cases b with
                    | false =>
                      have ht2 : none = o ∧ en2.c = c3 := by simpa using ht
                      obtain ⟨rfl, rfl⟩ := ht2
                      exact ⟨r4, en2.c, acc, accv, rest, w4, by rw [hr, ← hrest]; rfl, hacc⟩
                    | true =>
                      dsimp only at ht
                      cases hfe : fe en2 with
                      | none => rw [hfe] at ht; cases ht
                      | some z =>
                        rw [hfe] at ht
                        obtain ⟨z2, en3⟩ := z
                        cases z2 with
                        | exc n d => cases ht
                        | ok yy =>
                          have ht2 : some yy = o ∧ en3.c = c3 := by simpa using ht
                          obtain ⟨rfl, rfl⟩ := ht2
                          rw [if_pos rfl]
                          refine ⟨addS G.S Dd, r4, en2, (.ok yy, en3), R4, hfe, fun r5 H5 s5 R5 => fun v5 hv5 => ?_⟩
                          have w5 := w4.step R5.cr s5
                          have hlen : accv.length < sizeLine := by
                            have q1 := congrArg List.length hacc
                            have q2 := congrArg List.length hrest
                            rw [List.length_append] at q1
                            have q3 : (some yy).toList.length = 1 := rfl
                            rw [List.length_append, q3] at q2
                            rw [← w5.ha.length]
                            omega
                          refine ⟨accv, w5.hD, hlen, r5, en3.c, acc ++ [yy], accv ++ [v5], ys2, w5.app hD hnS hv5, hr, ?_⟩
                          rw [List.append_assoc]
                          have q : [yy] ++ ys2 = rest := hrest
                          rw [q]
                          exact hacc
      · left
        have hi' : i = ds.length := by omega
        refine ⟨hstop (by omega), ?_⟩
        rw [hi', List.drop_length] at hl'
        have hl2 : [] = rest ∧ c' = cF := by simpa [lcLoop] using hl'
        obtain ⟨rfl, rfl⟩ := hl2
        rw [List.append_nil] at hacc
        subst hacc
        have hvis : hid G.S r' c' H' Dd = some (.lst accv) := hid_some.mpr ⟨fun h => h.elim hnS fun ⟨k, es, h1, _⟩ => w.R.cr.dis Dd (List.mem_of_getElem? h1) (.inr rfl), w.hD⟩
        have s0 : Stp G.S r1 en1.c H1 r' c' H' := ⟨w.ext, w.sm.trans hid_less, w.al, w.ks⟩
        have R0 : Rl G r' ⟨en1.sl, c'⟩ σ H' := w.R.mono (S' := G.S) w.R.cr.show List.prefix_rfl hid_less
        unfold finL at e
        rw [if_pos hsz] at e
        cases cell with
        | false =>
          cases e
          exact m.post r' H' s0 R0 _ (.lst hvis (w.ha.mono List.prefix_rfl hid_less))
        | true =>
          cases e
          have hc := w.R.cr.cellOf hnS w.hD w.ha
          have hs : Same (hid (addS G.S Dd) r' c' H') (hid G.S (r' ++ [Dd]) (c' ++ [some acc]) H') := by
            rw [hid_cell w.R.cr.len]
            exact Same.refl _
          have s1 : Stp G.S r1 en1.c H1 (r' ++ [Dd]) (c' ++ [some acc]) H' := ⟨w.ext.trans (List.prefix_append _ _), w.sm.trans hs, w.al, w.ks⟩
          exact m.post _ H' s1 (w.R.mono (S' := G.S) hc (List.prefix_append _ _) hs) _ (.ow (by
            have q : r'.length = c'.length := w.R.cr.len
            show (r' ++ [Dd])[c'.length]? = some Dd
            rw [← q]
            simp))
end CD

/-! CDg: built-ins, the program's own functions: calls and contracts. -/
namespace CD
open PySem PySem.Spec PyProof.Rows L2

/-! ### built-ins -/
section
variable {X : Cx} {G : Par} {e : Expr} {fa : M (List D)}
theorem d_call {rl : List V → Hp → VK → Prop} {g : List D → M D} (hg : OpL G rl g) (h : PE X e (tCB rl (tA G fa))) : PE X e (tE G (bindM fa g)) := h.mono fun σ H Q ⟨r, en, x, R, hx, p⟩ =>
  (bindG (Ra := rL) R hx p).imp fun v H1 ⟨r1, en1, a1, m⟩ => hg r1 en1 σ H1 a1 v x Q m.R m.ha m.run m.post
def lenG : List D → M D
  | [d] => fun en => match rdOf en.c d with
    | some ds => some (.ok (.int ds.length), en)
    | none => match tupOf d with
      | some ds => some (.ok (.int ds.length), en)
      | none => none
  | _ => failM
theorem o_len {K : PySem.W.Frag} (hK : G.C.K = K) : OpL G (fun xs H Q => ∃ p ys, xs = [.ref p] ∧ (SqL K H p ys ∨ SqT K H p ys) ∧ Q (.int ys.length) H) lenG := by
  intro r en σ H a x z Q R hx e p
  unfold lenG at e
  split at e
  · cases hx with
    | cons h1 h2 =>
      cases h2
      (try dsimp only at e)
      split at e
      · rename_i ds hd
        obtain ⟨a1, v1, rfl, q1, q2⟩ := R.read h1 hd
        refine ⟨a1, v1, rfl, .inl (hK ▸ q1), ?_⟩
        rw [← q2.length]
        exact p.here R e (.int _)
      · split at e
        · rename_i ds hd
          obtain ⟨a1, v1, rfl, q1, q2⟩ := Rl.tupl h1 hd
          refine ⟨a1, v1, rfl, .inr (SqT.of q1), ?_⟩
          rw [← q2.length]
          exact p.here R e (.int _)
        · cases e
  · cases e
def intsOf : List D → Option (List Int)
  | [] => some []
  | .int i :: ds => (intsOf ds).map (i :: ·)
  | _ => none
theorem intsOf_ok {C : Hc} {r : List Addr} {H : Hp} : ∀ (ds : List D) (vs : List V) (ns : List Int), Rps C r H ds vs → intsOf ds = some ns → vs = ns.map V.int
  | [], _, ns, .nil, e => by cases e; rfl
  | d :: ds, _, ns, .cons h t, e => by
    cases h with
    | int i =>
      have e : (intsOf ds).map (i :: ·) = some ns := e
      cases hm : intsOf ds with
      | none => rw [hm] at e; cases e
      | some ms =>
        rw [hm] at e
        cases e
        rw [intsOf_ok ds _ ms t hm]
        rfl
    | _ => cases e
theorem intsOf_map : ∀ ns : List Int, intsOf (ns.map D.int) = some ns
  | [] => rfl
  | n :: ns => by
    show (intsOf (ns.map D.int)).map (n :: ·) = _
    rw [intsOf_map ns]
    rfl
def blsOf : List D → Option (List Bool)
  | [] => some []
  | .bl i :: ds => (blsOf ds).map (i :: ·)
  | _ => none
theorem blsOf_ok {C : Hc} {r : List Addr} {H : Hp} : ∀ (ds : List D) (vs : List V) (ns : List Bool), Rps C r H ds vs → blsOf ds = some ns → vs = ns.map V.bl
  | [], _, ns, .nil, e => by cases e; rfl
  | d :: ds, _, ns, .cons h t, e => by
    cases h with
    | bl i =>
      have e : (blsOf ds).map (i :: ·) = some ns := e
      cases hm : blsOf ds with
      | none => rw [hm] at e; cases e
      | some ms =>
        rw [hm] at e
        cases e
        rw [blsOf_ok ds _ ms t hm]
        rfl
    | _ => cases e
theorem blsOf_map : ∀ ns : List Bool, blsOf (ns.map D.bl) = some ns
  | [] => rfl
  | n :: ns => by
    show (blsOf (ns.map D.bl)).map (n :: ·) = _
    rw [blsOf_map ns]
    rfl
def sumG : List D → M D
  | [d] => fun en => match (lstOf en.c d).bind intsOf with
    | some ns => some (.ok (.int ns.sum), en)
    | none => none
  | _ => failM
theorem Rl.ints {r : List Addr} {en : En} {σ : L2.St} {H : Hp} {d : D} {v : V} {ns : List Int} (R : Rl G r en σ H) (h : rD G r en.c H d v) (e : (lstOf en.c d).bind intsOf = some ns) : ∃ a, v = .ref a ∧ H a = some (.lst (ns.map V.int)) := by
  cases hl : lstOf en.c d with
  | none => rw [hl] at e; cases e
  | some ds =>
    rw [hl] at e
    obtain ⟨a, vs, rfl, h1, h2⟩ := R.list h hl
    rw [intsOf_ok ds vs ns h2 e] at h1
    exact ⟨a, rfl, h1⟩
theorem Rl.bls {r : List Addr} {en : En} {σ : L2.St} {H : Hp} {d : D} {v : V} {ns : List Bool} (R : Rl G r en σ H) (h : rD G r en.c H d v) (e : (lstOf en.c d).bind blsOf = some ns) : ∃ a, v = .ref a ∧ H a = some (.lst (ns.map V.bl)) := by
  cases hl : lstOf en.c d with
  | none => rw [hl] at e; cases e
  | some ds =>
    rw [hl] at e
    obtain ⟨a, vs, rfl, h1, h2⟩ := R.list h hl
    rw [blsOf_ok ds vs ns h2 e] at h1
    exact ⟨a, rfl, h1⟩
theorem o_sum {K : PySem.W.Frag} : OpL G (rSum K) sumG := by
  intro r en σ H a x z Q R hx e p
  unfold sumG at e
  split at e
  · cases hx with
    | cons h1 h2 =>
      cases h2
      split at e
      · rename_i ns hn
        obtain ⟨a, rfl, q⟩ := R.ints h1 hn
        exact ⟨a, ns, rfl, SqL.of q, p.here R e (.int _)⟩
      · cases e
  · cases e
def maxOf : List Int → Int
  | [] => 0
  | [a] => a
  | a :: as => if maxOf as > a then maxOf as else a
theorem maxOf_eq : ∀ (ns : List Int) (m : Int), m ∈ ns → (∀ y ∈ ns, y ≤ m) → m = maxOf ns
  | [], _, h, _ => by cases h
  | [a], m, h, _ => by simpa [maxOf] using h
  | a :: b :: as, m, h, hm => by
    unfold maxOf
    have ih := maxOf_eq (b :: as)
    have hmem : ∀ (l : List Int), l ≠ [] → maxOf l ∈ l ∧ ∀ y ∈ l, y ≤ maxOf l := by
      intro l
      induction l with
      | nil => intro h; exact absurd rfl h
      | cons x xs ihx =>
        intro _
        cases xs with
        | nil => exact ⟨by simp [maxOf], fun y hy => by simp at hy; subst hy; simp [maxOf]⟩
        | cons y ys =>
          obtain ⟨i1, i2⟩ := ihx (by simp)
          show (if maxOf (y :: ys) > x then maxOf (y :: ys) else x) ∈ _ ∧ ∀ z ∈ x :: y :: ys, z ≤ (if maxOf (y :: ys) > x then maxOf (y :: ys) else x)
          by_cases hg : maxOf (y :: ys) > x
          · rw [if_pos hg]
            refine ⟨List.mem_cons_of_mem _ i1, fun z hz => ?_⟩
            rcases List.mem_cons.mp hz with rfl | hz
            · omega
            · exact i2 z hz
          · rw [if_neg hg]
            refine ⟨List.mem_cons_self, fun z hz => ?_⟩
            rcases List.mem_cons.mp hz with rfl | hz
            · omega
            · have := i2 z hz; omega
    obtain ⟨m1, m2⟩ := hmem (b :: as) (by simp)
    by_cases hg : maxOf (b :: as) > a
    · rw [if_pos hg]
      have h1 := hm _ (List.mem_cons_of_mem a m1)
      rcases List.mem_cons.mp h with rfl | h
      · omega
      · have := m2 m h; omega
    · rw [if_neg hg]
      have h1 := hm a List.mem_cons_self
      rcases List.mem_cons.mp h with rfl | h
      · rfl
      · have := m2 m h; omega
def maxG : List D → M D
  | [.int i, .int j] => pureM (.int (if j > i then j else i))
  | [d] => fun en => match (lstOf en.c d).bind intsOf with
    | some ns => if 0 < ns.length then some (.ok (.int (maxOf ns)), en) else none
    | none => none
  | _ => failM
theorem CallR.or2 {f : Value} {r r' : List V → Hp → VK → Prop} (h : CallR X f r) (h' : CallR X f r') : CallR X f (fun x H Q => r x H Q ∨ r' x H Q) := by
  intro pins s σ H x us Q I rx q
  rcases q with q | q
  · exact h pins s σ H x us Q I rx q
  · exact h' pins s σ H x us Q I rx q
theorem o_max {K : PySem.W.Frag} : OpL G (fun xs H Q => (∃ i j, xs = [.int i, .int j] ∧ Q (.int (if j > i then j else i)) H) ∨ rMax K xs H Q) maxG := by
  intro r en σ H a x z Q R hx e p
  unfold maxG at e
  split at e
  · cases hx with
    | cons h1 h2 =>
      cases h2 with
      | cons h2 h3 =>
        cases h3
        cases h1
        cases h2
        exact .inl ⟨_, _, rfl, p.here R e (.int _)⟩
  · cases hx with
    | cons h1 h2 =>
      cases h2
      (try dsimp only at e)
      split at e
      · rename_i ns hn
        split at e
        · rename_i hl
          obtain ⟨a, rfl, q⟩ := R.ints h1 hn
          refine .inr ⟨a, ns, rfl, SqL.of q, hl, fun m h1 h2 => ?_⟩
          rw [maxOf_eq ns m h1 h2]
          exact p.here R e (.int _)
        · cases e
      · cases e
  · cases e
def minG : List D → M D
  | [.int i, .int j] => pureM (.int (if j < i then j else i))
  | _ => failM
theorem o_min : OpL G (fun xs H Q => ∃ i j, xs = [.int i, .int j] ∧ Q (.int (if j < i then j else i)) H) minG := by
  intro r en σ H a x z Q R hx e p
  unfold minG at e
  split at e
  · cases hx with
    | cons h1 h2 =>
      cases h2 with
      | cons h2 h3 =>
        cases h3
        cases h1
        cases h2
        exact ⟨_, _, rfl, p.here R e (.int _)⟩
  · cases e
def intG : List D → M D
  | [.int i] => pureM (.int i)
  | [.bl b] => pureM (.int (if b then 1 else 0))
  | _ => failM
theorem o_int : OpL G (fun xs H Q => (∃ i, xs = [.int i] ∧ Q (.int i) H) ∨ ∃ k, xs = [.bl k] ∧ Q (.int (if k then 1 else 0)) H) intG := by
  intro r en σ H a x z Q R hx e p
  unfold intG at e
  split at e
  · cases hx with
    | cons h1 h2 =>
      cases h2
      cases h1
      exact .inl ⟨_, rfl, p.here R e (.int _)⟩
  · cases hx with
    | cons h1 h2 =>
      cases h2
      cases h1
      exact .inr ⟨_, rfl, p.here R e (.int _)⟩
  · cases e
def listG (mk : List D → M D) : List D → M D
  | [d] => fun en => match lstOf en.c d with
    | some ds => mk ds en
    | none => match tupOf d with
      | some ds => mk ds en
      | none => none
  | _ => failM
theorem o_list {K : PySem.W.Frag} {mk : List D → M D} (hm : Mk1 mk) : OpL G (fun xs H Q => ∃ p ys, xs = [.ref p] ∧ (SqL K H p ys ∨ SqT K H p ys) ∧ ∀ l, H l = none → Q (.ref l) (upd H l (.lst ys))) (listG mk) := by
  intro r en σ H a x z Q R hx e p
  unfold listG at e
  split at e
  · cases hx with
    | cons h1 h2 =>
      cases h2
      (try dsimp only at e)
      split at e
      · rename_i ds hd
        obtain ⟨a1, v1, rfl, q1, q2⟩ := R.list h1 hd
        exact ⟨a1, v1, rfl, .inl (SqL.of q1), (hm.post R p e q2).2⟩
      · split at e
        · rename_i ds hd
          obtain ⟨a1, v1, rfl, q1, q2⟩ := Rl.tupl h1 hd
          exact ⟨a1, v1, rfl, .inr (SqT.of q1), (hm.post R p e q2).2⟩
        · cases e
  · cases e
def tupG : List D → M D
  | [d] => fun en => match lstOf en.c d with
    | some ds => newT ds en
    | none => match tupOf d with
      | some ds => some (.ok d, en)
      | none => none
  | _ => failM
theorem o_tup {K : PySem.W.Frag} : OpL G (fun xs H Q => ∃ p ys, xs = [.ref p] ∧ ((SqL K H p ys ∧ ∀ l, H l = none → Q (.ref l) (upd H l (.tup ys))) ∨ (SqT K H p ys ∧ Q (.ref p) H))) tupG := by
  intro r en σ H a x z Q R hx e p
  unfold tupG at e
  split at e
  · cases hx with
    | cons h1 h2 =>
      cases h2
      (try dsimp only at e)
      split at e
      · rename_i ds hd
        obtain ⟨a1, v1, rfl, q1, q2⟩ := R.list h1 hd
        exact ⟨a1, v1, rfl, .inl ⟨SqL.of q1, (p.newT R e q2).2⟩⟩
      · split at e
        · rename_i ds hd
          have h1' := h1
          obtain ⟨a1, v1, rfl, q1, q2⟩ := Rl.tupl h1 hd
          exact ⟨a1, v1, rfl, .inr ⟨SqT.of q1, p.here R e h1'⟩⟩
        · cases e
  · cases e
def allG : List D → M D
  | [d] => fun en => match (lstOf en.c d).bind blsOf with
    | some bs => some (.ok (.bl (bs.all id)), en)
    | none => none
  | _ => failM
def anyG : List D → M D
  | [d] => fun en => match (lstOf en.c d).bind blsOf with
    | some bs => some (.ok (.bl (bs.any id)), en)
    | none => none
  | _ => failM
theorem o_all {K : PySem.W.Frag} : OpL G (rAll K) allG := by
  intro r en σ H a x z Q R hx e p
  unfold allG at e
  split at e
  · cases hx with
    | cons h1 h2 =>
      cases h2
      split at e
      · rename_i ns hn
        obtain ⟨a, rfl, q⟩ := R.bls h1 hn
        exact ⟨a, ns, rfl, SqL.of q, p.here R e (.bl _)⟩
      · cases e
  · cases e
theorem o_any {K : PySem.W.Frag} : OpL G (rAny K) anyG := by
  intro r en σ H a x z Q R hx e p
  unfold anyG at e
  split at e
  · cases hx with
    | cons h1 h2 =>
      cases h2
      split at e
      · rename_i ns hn
        obtain ⟨a, rfl, q⟩ := R.bls h1 hn
        exact ⟨a, ns, rfl, SqL.of q, p.here R e (.bl _)⟩
      · cases e
  · cases e
def dvmG : List D → M D
  | [.int i, .int j] => fun en => if 0 < j ∧ j < 1073741824 then newT [.int (i / j), .int (i % j)] en else none
  | _ => failM
theorem o_dvm : OpL G (fun xs H Q => ∃ i j, xs = [.int i, .int j] ∧ CDiv i j ∧ ∀ p, H p = none → Q (.ref p) (upd H p (.tup [.int (i / j), .int (i % j)]))) dvmG := by
  intro r en σ H a x z Q R hx e p
  unfold dvmG at e
  split at e
  · cases hx with
    | cons h1 h2 =>
      cases h2 with
      | cons h2 h3 =>
        cases h3
        cases h1
        cases h2
        split at e
        · rename_i hb
          exact ⟨_, _, rfl, hb, (p.newT R e (.cons (.int _) (.cons (.int _) .nil))).2⟩
        · cases e
  · cases e
end

/-! ### the program's own functions -/
abbrev Fn := List D → Cells → Option (Res D × Cells)
def spF (C : Hc) (xa : Str → Addr) (n : Nat) (F : Fn) : Sp := fun vs H Q E => ∃ S r c ds z, ds.length = n ∧ CelR S C r c H ∧ Rps C r (hid S r c H) ds vs ∧ F ds c = some z ∧ ∀ r' H', Stp S r c H r' z.2 H' → CelR S C r' z.2 H' →
  match z.1 with
  | .ok d => ∀ v, Rp C r' (hid S r' z.2 H') d v → Q v H'
  | .exc m d => ∀ dx v, H' dx = some (.xd [("value", v)]) → Rp C r' (hid S r' z.2 H') d v → E (.ref (xa m)) (some dx) H'
def runF (n : Nat) (F : Fn) (ds : List D) : M D := fun en => if ds.length = n then (match F ds en.c with
  | none => none
  | some (z, c) => some (z, ⟨en.sl, c⟩)) else none
theorem run_sp {G : Par} {n : Nat} {F : Fn} {r : List Addr} {en : En} {σ : L2.St} {H : Hp} {ds : List D} {vs : List V} {x : Res D × En} {Q : VK} (R : Rl G r en σ H) (h : rL G r en.c H ds vs) (e : runF n F ds en = some x) (p : PostG G rD r en σ H x Q) : spF G.C G.xa n F vs H Q G.E := by
  unfold runF at e
  split at e
  · rename_i hn
    cases hF : F ds en.c with
    | none => rw [hF] at e; cases e
    | some z =>
      rw [hF] at e
      obtain ⟨z, c⟩ := z
      cases e
      refine ⟨G.S, r, en.c, ds, (z, c), hn, R.cr, h, hF, fun r' H' s R' => ?_⟩
      have q := p r' H' s (R.stp R' s)
      cases z with
      | ok d => exact q
      | exc m d => exact q
  · cases e
section
variable {X : Cx} {G : Par} {e : Expr} {fa : M (List D)} {fo : M D} {n : Nat} {F : Fn}
def fnM (n : Nat) (F : Fn) (fa : M (List D)) : M D := bindM fa (runF n F)
theorem d_fn (h : PE X e (tCall (spF G.C G.xa n F) [] G.E (tA G fa))) : PE X e (tE G (fnM n F fa)) := h.mono fun σ H Q ⟨r, en, x, R, hx, p⟩ =>
  (bindG (Ra := rL) R hx p).imp fun v H1 ⟨r1, en1, a1, m⟩ => by
    rw [List.append_nil]
    exact run_sp m.R m.ha m.run m.post
/-- keywords: the values in the parameters' order -/
def fnKM (n : Nat) (F : Fn) (pm : List D → List D → List D) (fa fk : M (List D)) : M D := bindM fa fun ds => bindM fk fun es => runF n F (pm ds es)
theorem d_fnK {pm : List D → List D → List D} {gV : List V → List V → List V} (hp : ∀ C r H ds es vs ws, Rps C r H ds vs → Rps C r H es ws → Rps C r H (pm ds es) (gV vs ws)) {fk : M (List D)} (h : PE X e (tCallK (spF G.C G.xa n F) gV G.E (tA G fa) (tA G fk))) :
    PE X e (tE G (fnKM n F pm fa fk)) := h.mono fun σ H Q ⟨r, en, x, R, hx, p⟩ =>
  (bindG (Ra := rL) R hx p).imp fun v H1 ⟨r1, en1, a1, m⟩ => (bindG (Ra := rL) m.R m.run m.post).imp fun w H2 ⟨r2, en2, b1, m2⟩ =>
    run_sp m2.R (hp _ _ _ _ _ _ _ (Rps.stp m2.s m.ha) m2.ha) m2.run m2.post
/-- a method of a house -/
def metM (n : Nat) (F : Fn) (fo : M D) (fa : M (List D)) : M D := bindM fo fun o => match o with
  | .hs b r => bindM fa fun ds => runF n F (.hs b r :: ds)
  | _ => failM
theorem d_met {mth : Str} (hl : ∀ t1 t2 : Addr, (hF t1 t2).lookup mth = none) (h : PE X e (tMeth G.C.a mth (spF G.C G.xa n F) [] G.E (tE G fo) (tA G fa))) : PE X e (tE G (metM n F fo fa)) := h.mono fun σ H Q ⟨r, en, x, R, hx, p⟩ =>
  (bindG (Ra := rD) R hx p).imp fun v H1 ⟨r1, en1, a1, m⟩ => by
    have e := m.run
    split at e
    · rename_i b rr
      have ha := m.ha
      cases m.ha with
      | @hs a dx t1 t2 _ _ h1 h2 h3 =>
        refine ⟨a, dx, hF t1 t2, rfl, hid_same _ _ h1, hl _ _, (bindG (Ra := rL) m.R e m.post).imp fun w H2 ⟨r2, en2, b1, m2⟩ => ?_⟩
        rw [List.append_nil]
        exact run_sp m2.R (.cons (Rp.stp m2.s ha) m2.ha) m2.run m2.post
    · cases e
/-- a field of a house -/
def fldM (which : Bool) (fo : M D) : M D := bindM fo fun o => match o with
  | .hs b r => pureM (.tup ((if which then b else r).map D.int))
  | _ => failM
end

/-! ### the end of a function: what it made for itself does not change from there on -/
mutual
def lowD (m : Nat) : D → Bool
  | .ow k => decide (k < m)
  | .lst ds => lowL m ds
  | .tup ds => lowL m ds
  | .non => true
  | .bl _ => true
  | .int _ => true
  | .str _ => true
  | .hs _ _ => true
  | .scr _ => true
def lowL (m : Nat) : List D → Bool
  | [] => true
  | d :: ds => lowD m d && lowL m ds
end
mutual
theorem Rp.low {C : Hc} {r : List Addr} {H : Hp} {m : Nat} (hm : r.length ≤ m) : ∀ {d : D} {v : V}, Rp C r H d v → lowD m d = true
  | _, _, .non => rfl
  | _, _, .bl _ => rfl
  | _, _, .int _ => rfl
  | _, _, .str _ => rfl
  | _, _, .lst _ t => by unfold lowD; exact Rps.low hm t
  | _, _, .tup _ t => by unfold lowD; exact Rps.low hm t
  | _, _, .hs _ _ _ => rfl
  | _, _, .scr _ => rfl
  | _, _, .ow e => by
    unfold lowD
    have q := (List.getElem?_eq_some_iff.mp e).1
    exact decide_eq_true (by omega)
theorem Rps.low {C : Hc} {r : List Addr} {H : Hp} {m : Nat} (hm : r.length ≤ m) : ∀ {d : List D} {v : List V}, Rps C r H d v → lowL m d = true
  | _, _, .nil => rfl
  | _, _, .cons h t => by unfold lowL; rw [Rp.low hm h, Rps.low hm t]; rfl
end
theorem take_get {r : List Addr} {m k : Nat} {a : Addr} (h : k < m) (e : r[k]? = some a) : (r.take m)[k]? = some a := by
  rw [List.getElem?_take_of_lt h]; exact e
mutual
theorem Rp.rebase {C : Hc} {r : List Addr} {H : Hp} {m : Nat} : ∀ {d : D} {v : V}, Rp C r H d v → lowD m d = true → Rp C (r.take m) H d v
  | _, _, .non, _ => .non
  | _, _, .bl b, _ => .bl b
  | _, _, .int i, _ => .int i
  | _, _, .str x, _ => .str x
  | _, _, .lst h t, e => .lst h (Rps.rebase t (by unfold lowD at e; exact e))
  | _, _, .tup h t, e => .tup h (Rps.rebase t (by unfold lowD at e; exact e))
  | _, _, .hs a b c, _ => .hs a b c
  | _, _, .scr a, _ => .scr a
  | _, _, .ow h, e => .ow (take_get (by unfold lowD at e; exact of_decide_eq_true e) h)
theorem Rps.rebase {C : Hc} {r : List Addr} {H : Hp} {m : Nat} : ∀ {d : List D} {v : List V}, Rps C r H d v → lowL m d = true → Rps C (r.take m) H d v
  | _, _, .nil, _ => .nil
  | _, _, .cons h t, e => by
    unfold lowL at e
    rw [Bool.and_eq_true] at e
    exact .cons (Rp.rebase h e.1) (Rps.rebase t e.2)
end
def fz (m : Nat) (c : Cells) : Nat → D → Option D
  | 0, _ => none
  | n + 1, d => match d with
    | .lst ds => (mapO (fz m c n) ds).map .lst
    | .tup ds => (mapO (fz m c n) ds).map .tup
    | .ow k => if k < m then some (.ow k) else match c[k]? with
      | some (some ds) => (mapO (fz m c n) ds).map .lst
      | _ => none
    | .non => some .non
    | .bl b => some (.bl b)
    | .int i => some (.int i)
    | .str x => some (.str x)
    | .hs b r => some (.hs b r)
    | .scr ns => some (.scr ns)
theorem fz_all {C : Hc} {r r' : List Addr} {H H' : Hp} {f : D → Option D} (hf : ∀ d v p, Rp C r H d v → f d = some p → Rp C r' H' p v) : ∀ (ds : List D) (vs : List V) (ps : List D), Rps C r H ds vs → mapO f ds = some ps → Rps C r' H' ps vs
  | [], _, ps, .nil, e => by cases e; exact .nil
  | d :: ds, _, ps, .cons h t, e => by
    unfold mapO at e
    split at e
    · rename_i b bs h1 h2
      cases e
      exact .cons (hf _ _ _ h h1) (fz_all hf ds _ _ t h2)
    · cases e
theorem fz_ok {S : Addr → Prop} {C : Hc} {r : List Addr} {c : Cells} {H : Hp} {m : Nat} (R : CelR S C r c H) : ∀ (n : Nat) (d : D) (v : V) (p : D), Rp C r (hid S r c H) d v → fz m c n d = some p → Rp C (r.take m) (hid S (r.take m) (c.take m) H) p v
  | 0, _, _, _, _, e => by cases e
  | n + 1, d, v, p, h, e => by
    have hs : Same (hid S r c H) (hid S (r.take m) (c.take m) H) := fun a o e => by
      obtain ⟨h1, h2⟩ := hid_some.mp e
      refine hid_some.mpr ⟨fun z => h1 (z.elim .inl fun ⟨k, ds, q1, q2⟩ => .inr ?_), h2⟩
      by_cases hk : k < m
      · exact ⟨k, ds, by rw [List.getElem?_take_of_lt hk] at q1; exact q1, by rw [List.getElem?_take_of_lt hk] at q2; exact q2⟩
      · rw [List.getElem?_eq_none (by rw [List.length_take]; omega)] at q1
        cases q1
    cases h with
    | non => cases e; exact .non
    | bl b => cases e; exact .bl b
    | int i => cases e; exact .int i
    | str x => cases e; exact .str x
    | hs h1 h2 h3 => cases e; exact .hs (hs _ _ h1) (hs _ _ h2) (hs _ _ h3)
    | scr h1 => cases e; exact .scr (Same.seq hs h1)
    | @lst a vs ds h1 h2 =>
      have e : (mapO (fz m c n) ds).map D.lst = some p := e
      cases hm : mapO (fz m c n) ds with
      | none => rw [hm] at e; cases e
      | some ps =>
        rw [hm] at e
        cases e
        exact .lst (hs _ _ h1) (fz_all (fun d v p h e => fz_ok R n d v p h e) ds vs ps h2 hm)
    | @tup a vs ds h1 h2 =>
      have e : (mapO (fz m c n) ds).map D.tup = some p := e
      cases hm : mapO (fz m c n) ds with
      | none => rw [hm] at e; cases e
      | some ps =>
        rw [hm] at e
        cases e
        exact .tup (hs _ _ h1) (fz_all (fun d v p h e => fz_ok R n d v p h e) ds vs ps h2 hm)
    | @ow k a hk =>
      have e : (if k < m then some (D.ow k) else match c[k]? with
        | some (some ds) => (mapO (fz m c n) ds).map D.lst
        | _ => none) = some p := e
      by_cases hkm : k < m
      · rw [if_pos hkm] at e
        cases e
        exact .ow (take_get hkm hk)
      · rw [if_neg hkm] at e
        split at e
        · rename_i ds hc
          obtain ⟨a', vs, q1, q2, q3⟩ := R.cell k ds hc
          rw [q1] at hk
          cases hk
          cases hm : mapO (fz m c n) ds with
          | none => rw [hm] at e; cases e
          | some ps =>
            rw [hm] at e
            cases e
            refine .lst (hid_some.mpr ⟨fun z => ?_, q2⟩) (fz_all (fun d v p h e => fz_ok R n d v p h e) ds vs ps q3 hm)
            rcases z with z | ⟨j, es, z1, _⟩
            · exact R.dis a (List.mem_of_getElem? q1) z
            · by_cases hj : j < m
              · rw [List.getElem?_take_of_lt hj] at z1
                have := ix_inj R.nd z1 q1
                omega
              · rw [List.getElem?_eq_none (by rw [List.length_take]; omega)] at z1
                cases z1
        · cases e
def Exit (c : Cells) (x : Res Ctl × En) (z : Res D × Cells) : Prop := ∃ m, c.length ≤ m ∧ m ≤ x.2.c.length ∧ z.2 = x.2.c.take m ∧
  (∀ k, k < m → (k < c.length ∧ x.2.c[k]? = c[k]?) ∨ x.2.c[k]? = some none ∨ ∃ ds, x.2.c[k]? = some (some ds) ∧ lowL m ds = true) ∧
  match x.1 with
  | .ok (.rt d) => ∃ d', fz m x.2.c 9 d = some d' ∧ z.1 = .ok d'
  | .ok .nx => z.1 = .ok .non
  | .exc n d => ∃ d', fz m x.2.c 9 d = some d' ∧ z.1 = .exc n d'
  | _ => False
def startD (N : List Str) (ds : List D) : List (Option D) := ds.map some ++ List.replicate (N.length - ds.length) none
theorem start_rl {G : Par} {r : List Addr} {c : Cells} {H : Hp} {N : List Str} {ds : List D} {vs : List V} (R : CelR G.S G.C r c H) (h : Rps G.C r (hid G.S r c H) ds vs) : Rl G r ⟨startD N ds, c⟩ (L2.start N vs) H := by
  refine ⟨R, by unfold startD L2.start; simp [h.length], fun i d e => ?_⟩
  have e : (startD N ds)[i]? = some (some d) := e
  unfold startD at e
  by_cases hi : i < ds.length
  · rw [List.getElem?_append_left (by simpa using hi), List.getElem?_map] at e
    cases hd : ds[i]? with
    | none => rw [hd] at e; cases e
    | some d0 =>
      rw [hd] at e
      cases e
      obtain ⟨v, h1, h2⟩ := h.get hd
      refine ⟨v, ?_, h2⟩
      unfold L2.start
      rw [List.getElem?_append_left (by rw [List.length_map, ← h.length]; exact hi), List.getElem?_map, h1]
      rfl
  · rw [List.getElem?_append_right (by simpa using hi), List.getElem?_replicate] at e
    split at e <;> cases e
/-- behind a function's end: its own cells are left behind -/
theorem exit_ok {S : Addr → Prop} {C : Hc} {r r' : List Addr} {c c' : Cells} {H H' : Hp} {m : Nat} (R0 : CelR S C r c H) (s : Stp S r c H r' c' H') (R : CelR S C r' c' H') (h1 : c.length ≤ m) (h2 : m ≤ c'.length)
    (h3 : ∀ k, k < m → (k < c.length ∧ c'[k]? = c[k]?) ∨ c'[k]? = some none ∨ ∃ ds, c'[k]? = some (some ds) ∧ lowL m ds = true) : Stp S r c H (r'.take m) (c'.take m) H' ∧ CelR S C (r'.take m) (c'.take m) H' := by
  have hs : Same (hid S r' c' H') (hid S (r'.take m) (c'.take m) H') := fun a o e => by
    obtain ⟨q1, q2⟩ := hid_some.mp e
    refine hid_some.mpr ⟨fun z => q1 (z.elim .inl fun ⟨k, ds, z1, z2⟩ => .inr ?_), q2⟩
    by_cases hk : k < m
    · exact ⟨k, ds, by rw [List.getElem?_take_of_lt hk] at z1; exact z1, by rw [List.getElem?_take_of_lt hk] at z2; exact z2⟩
    · rw [List.getElem?_eq_none (by rw [List.length_take]; omega)] at z1
      cases z1
  refine ⟨⟨?_, s.sm.trans hs, s.al, s.ks⟩, ?_⟩
  · have q : r = r'.take r.length := List.prefix_iff_eq_take.mp s.ext
    rw [q]
    exact List.take_prefix_take_left (by rw [R0.len]; exact h1)
  · refine ⟨R.nd.sublist (List.take_sublist _ _), R.sal, fun a h => R.dis a (List.mem_of_mem_take h), by rw [List.length_take, List.length_take, R.len], fun a h => R.al a (List.mem_of_mem_take h), fun k ds e => ?_⟩
    have hk : k < m := by
      have q := (List.getElem?_eq_some_iff.mp e).1
      rw [List.length_take] at q
      omega
    rw [List.getElem?_take_of_lt hk] at e
    obtain ⟨a, vs, q1, q2, q3⟩ := R.cell k ds e
    refine ⟨a, vs, take_get hk q1, q2, Rps.rebase (q3.mono List.prefix_rfl hs) ?_⟩
    rcases h3 k hk with ⟨hkc, he⟩ | he | ⟨es, he, hl⟩
    · rw [e] at he
      obtain ⟨_, _, _, _, q⟩ := R0.cell k ds he.symm
      exact q.low (by rw [R0.len]; exact h1)
    · rw [e] at he; cases he
    · rw [e] at he; cases he; exact hl
/-- THE RULE: a function of the text does what F says -/
theorem fn_ok {P : Program} {w : World} {K : PySem.W.Frag} {mg : Str → Option Value} {base : Heap} {x qual : Str} {st : Stmt} {f : Addr} {fd : FuncData} {N ps : List Str} {k : Nat} {C : Hc} {xa : Str → Addr} {F : Fn} {fb : M Ctl}
    (Fu : Fun K x qual st f fd) (Sc : FnScope N ps (defScope st))
    (der : ∀ (cdv : Value) (A : Around) (outer : List Env) (s : Shared) (H : Hp) (E : XK) (S : Addr → Prop), Room k (A.deeper (envOfC qual (defScope st) s.heap.objs.size f cdv)) →
      PSs (cxOf CX0 P w K mg base N qual (defScope st) f cdv A outer s H E).nox (defBody st) (tS ⟨K, C, E0, xa, S⟩ fb))
    (hF : ∀ ds c z, ds.length = ps.length → F ds c = some z → ∃ y, fb ⟨startD N ds, c⟩ = some y ∧ Exit c y z ∧ ∀ n d, z.1 ≠ .exc n d) : FnOk P w K mg base CX0 (k + 1) f fd ps (spF C xa ps.length F) := by
  refine Fu.ok Sc (fun vs H Q E h => ?_) (fun cdv A outer s H vs Q E hr h => ?_)
  · obtain ⟨S, r, c, ds, z, hn, _, h, _⟩ := h
    rw [← h.length]; exact hn
  · obtain ⟨S, r, c, ds, z, hn, R, h, hz, q⟩ := h
    obtain ⟨y, hy, ⟨m, h1, h2, h3, h4, h5⟩, hne⟩ := hF ds c z hn hz
    refine ⟨_, der cdv A outer s H E S hr, r, ⟨startD N ds, c⟩, y, start_rl R h, hy, fun r' σ' H' s' R' => ?_⟩
    obtain ⟨s2, R2⟩ := exit_ok R s' R'.cr h1 h2 h4
    rw [← h3] at s2 R2
    have q := q _ H' s2 R2
    obtain ⟨y1, en'⟩ := y
    obtain ⟨z1, zc⟩ := z
    dsimp only at h3 q s2 R2 h5 ⊢
    subst h3
    cases y1 with
    | exc n d => obtain ⟨d', _, e⟩ := h5; exact absurd e (hne n d')
    | ok c =>
      cases c with
      | nx =>
        subst h5
        exact q .non .non
      | rt d =>
        obtain ⟨d', e1, rfl⟩ := h5
        intro v hv
        exact q v (fz_ok R'.cr 9 d v d' hv e1)
      | bk => exact h5.elim
      | ct => exact h5.elim
end CD

/-! CDh: isinstance, lists that change, houses. -/
namespace CD
open PySem PySem.Spec PyProof.Rows L2

/-! ### a name whose list is not changed from here on -/
def frnM (i : Nat) : M D := fun en => match en.sl[i]? with
  | some (some (.ow k)) => (match en.c[k]? with
    | some (some ds) => if lowL 0 ds then some (.ok (.lst ds), ⟨en.sl.set i (some (.lst ds)), en.c.set k none⟩) else none
    | _ => none)
  | some (some d) => some (.ok d, en)
  | _ => none
theorem Rps.low0 {C : Hc} {r r' : List Addr} {H : Hp} {ds : List D} {vs : List V} (h : Rps C r H ds vs) (e : lowL 0 ds = true) : Rps C r' H ds vs := by
  have q := Rps.rebase (m := 0) h e
  rw [List.take_zero] at q
  exact q.mono (List.nil_prefix) (Same.refl _)
section
variable {X : Cx} {G : Par} {e : Expr} {fa fb fo : M D} {ga : M (List D)}
theorem set_self {α : Type} : ∀ (l : List α) (i : Nat) (a : α), l[i]? = some a → l.set i a = l
  | x :: l, 0, a, h => by simp at h; subst h; rfl
  | x :: l, i + 1, a, h => by
    show x :: l.set i a = x :: l
    rw [set_self l i a (by simpa using h)]
  | [], i, a, h => by simp at h
theorem d_frn {i : Nat} (h : PE X e (tVar i)) : PE X e (tE G (frnM i)) := h.mono fun σ H Q ⟨r, en, x, R, hx, p⟩ => by
  unfold frnM at hx
  split at hx
  · rename_i k hk
    obtain ⟨v, h1, h2⟩ := R.slot i _ hk
    split at hx
    · rename_i ds hc
      split at hx
      · rename_i hl
        cases hx
        obtain ⟨a, vs, q1, q2, q3⟩ := R.cr.cell k ds hc
        cases h2 with
        | ow hr =>
          rw [q1] at hr
          cases hr
          have hkl : k < en.c.length := (List.getElem?_eq_some_iff.mp hc).1
          obtain ⟨c1, s1⟩ := R.cr.kill (c' := en.c.set k none) (by rw [List.length_set]) (fun j es z => by
            by_cases hj : k = j
            · subst hj
              rw [List.getElem?_set_self hkl] at z
              cases z
            · rw [List.getElem?_set_ne hj] at z
              exact z)
          have hv : hid G.S r (en.c.set k none) H a = some (.lst vs) := by
            refine hid_some.mpr ⟨fun z => z.elim (R.cr.dis a (List.mem_of_getElem? q1)) fun ⟨j, es, z1, z2⟩ => ?_, q2⟩
            have hj := ix_inj R.cr.nd z1 q1
            subst hj
            rw [List.getElem?_set_self hkl] at z2
            cases z2
          have R1 := R.stp (sl := en.sl) (c := en.c) c1 s1
          have hrep : Rp G.C r (hid G.S r (en.c.set k none) H) (.lst ds) (.ref a) := .lst hv (Rps.low0 (q3.stp s1) hl)
          have R2 := R1.put (i := i) hrep
          rw [set_self σ i _ h1] at R2
          exact ⟨.ref a, h1, p r H s1 R2 _ hrep⟩
      · cases hx
    · cases hx
  · rename_i d hn hd
    obtain ⟨v, h1, h2⟩ := R.slot i d hd
    cases hx
    exact ⟨v, h1, p r H Stp.refl R _ h2⟩
  · cases hx

/-! ### isinstance -/
structure HK (C : Hc) : Prop where
  cl : Cls C.K C.a
  ha : PySem.W.findIn C.K (.ref C.a) "__class__" = some (some (.builtin "object.__class__"))
  hn : PySem.W.specialIn C.K (.builtin "object.__class__") "__get__" = some (some (.builtin "getset_descriptor.__get__"))
  htk : PySem.W.takesIn C.K (.builtin "object.__class__") = some true
  hm : PySem.W.mroIn C.K C.a (.type "object") = some true
  no : ∀ T, T ∈ ["int", "bool", "list", "tuple", "dict", "str"] → PySem.W.kitOne C.K (.ref C.a) (.type T) = some false
  nb : ∀ t, t ∈ ["NoneType", "bool", "int", "str", "list", "tuple"] → PySem.W.kitOne C.K (.type t) (.ref C.a) = some false
  yes : PySem.W.kitOne C.K (.ref C.a) (.ref C.a) = some true
  nB : NoAttr C.K C.a "_bases"
  nR : NoAttr C.K C.a "_rooms"
def tyVal (C : Hc) : D → Value
  | .non => .type "NoneType"
  | .bl _ => .type "bool"
  | .int _ => .type "int"
  | .str _ => .type "str"
  | .lst _ => .type "list"
  | .ow _ => .type "list"
  | .tup _ => .type "tuple"
  | .hs _ _ => .ref C.a
  | .scr _ => .none
def kin (d : D) : Nat := match d with
  | .non => 0
  | .bl _ => 1
  | .int _ => 2
  | .str _ => 3
  | .lst _ => 4
  | .ow _ => 4
  | .tup _ => 5
  | .hs _ _ => 6
  | .scr _ => 7
theorem tyX_of (hk : HK G.C) {r : List Addr} {en : En} {σ : L2.St} {H : Hp} {d : D} {v : V} (Rr : Rl G r en σ H) (h : rD G r en.c H d v) (hc : ∀ k, d = .ow k → ∃ ds, en.c[k]? = some (some ds)) (hs : kin d ≠ 7) : TyX G.C.K H v (tyVal G.C d) := by
  cases h with
  | non => exact .base .non
  | bl b => exact .base (.bl b)
  | int i => exact .base (.int i)
  | str x => exact .base (.str x)
  | lst h1 h2 => exact .base (.lst (hid_same _ _ h1))
  | tup h1 h2 => exact .base (.tup (hid_same _ _ h1))
  | hs h1 h2 h3 => exact .base (.ins (hid_same _ _ h1) hk.cl hk.ha hk.hn hk.htk hk.hm)
  | @ow k a hr =>
    obtain ⟨ds, hd⟩ := hc k rfl
    obtain ⟨a', vs, q1, q2, _⟩ := Rr.cr.cell k ds hd
    rw [q1] at hr
    cases hr
    exact .base (.lst q2)
  | scr h1 => exact absurd rfl hs
/-- which kinds are of a built-in class -/
def isTn (T : String) (n : Nat) : Bool := if T = "int" then n == 2 || n == 1 else if T = "bool" then n == 1 else if T = "str" then n == 3 else if T = "list" then n == 4 else if T = "tuple" then n == 5 else false
def isTy (T : String) (d : D) : Bool := isTn T (kin d)
theorem kit_is (hk : HK G.C) {T : String} (hT : T ∈ ["int", "bool", "list", "tuple", "dict", "str"]) {d : D} (hs : kin d ≠ 7) : PySem.W.kitOne G.C.K (tyVal G.C d) (.type T) = some (isTy T d) := by
  have hh : tyVal G.C d = .ref G.C.a → kin d = 6 → PySem.W.kitOne G.C.K (tyVal G.C d) (.type T) = some (isTy T d) := by
    intro e k
    rw [e, hk.no T hT]
    simp only [List.mem_cons, List.not_mem_nil, or_false] at hT
    rcases hT with rfl | rfl | rfl | rfl | rfl | rfl <;> (simp only [isTy, k]; decide +kernel)
  cases d with
  | hs b r => exact hh rfl rfl
  | scr ns => exact absurd rfl hs
  | _ =>
    simp only [List.mem_cons, List.not_mem_nil, or_false] at hT
    rcases hT with rfl | rfl | rfl | rfl | rfl | rfl <;> (refine kit_ty ?_; simp only [isTy, kin]; decide +kernel)
/-- a value whose kind may be asked -/
def okD (c : Cells) (d : D) : Bool := match d with
  | .ow k => (match c[k]? with
    | some (some _) => true
    | _ => false)
  | .scr _ => false
  | _ => true
def isB (T : String) : M D → M D := fun f => bindM f fun d en => if okD en.c d = true then some (.ok (.bl (isTy T d)), en) else none
theorem live_of {c : Cells} {d : D} (h : okD c d = true) : ∀ k, d = .ow k → ∃ ds, c[k]? = some (some ds) := by
  intro k e
  subst e
  unfold okD at h
  dsimp only at h
  split at h
  · rename_i ds hd
    exact ⟨ds, hd⟩
  · cases h
theorem kin_of {c : Cells} {d : D} (h : okD c d = true) : kin d ≠ 7 := by
  cases d with
  | scr ns => cases h
  | _ => intro e; cases e
theorem d_is {T : String} (hk : HK G.C) (hK : G.C.K = X.K) (hT : T ∈ ["int", "bool", "list", "tuple", "dict", "str"]) (h : PE X e (tCB (rIsi X.K) (tCons (tE G fa) (tCons (tC (.ty T)) tNil)))) : PE X e (tE G (isB T fa)) := h.mono fun σ H Q ⟨r, en, x, R, hx, p⟩ =>
  (bindG (Ra := rD) R hx p).imp fun v H1 ⟨r1, en1, d, m⟩ => by
    have e := m.run
    split at e
    · rename_i hb
      refine ⟨v, .ty T, tyVal G.C d, .type T, isTy T d, rfl, .ty T, hK ▸ tyX_of hk m.R m.ha (live_of hb) (kin_of hb), hK ▸ kit_is hk hT (kin_of hb), m.post.here m.R e (.bl _)⟩
    · cases e
/-- isinstance(x, (list, tuple)) -/
def isLT : M D → M D := fun f => bindM f fun d en => if okD en.c d = true then some (.ok (.bl (isTy "list" d || isTy "tuple" d)), en) else none
theorem d_isLT (hk : HK G.C) (hK : G.C.K = X.K) (h : PE X e (tCB (rIsiT X.K) (tCons (tE G fa) (tCons (tTup (tCons (tC (.ty "list")) (tCons (tC (.ty "tuple")) tNil))) tNil)))) : PE X e (tE G (isLT fa)) := h.mono fun σ H Q ⟨r, en, x, R, hx, p⟩ =>
  (bindG (Ra := rD) R hx p).imp fun v H1 ⟨r1, en1, d, m⟩ => by
    have e := m.run
    refine ⟨by show 2 ≤ sizeLine; decide, fun T hT => ?_⟩
    split at e
    · rename_i hb
      obtain ⟨c1, s1⟩ := m.R.cr.laid (.tup [.ty "list", .ty "tuple"]) hT
      have R1 := m.R.stp (sl := en1.sl) (c := en1.c) c1 s1
      have ha1 : rD G r1 en1.c (upd H1 T (.tup [.ty "list", .ty "tuple"])) d v := Rp.stp s1 m.ha
      refine ⟨v, T, [.ty "list", .ty "tuple"], tyVal G.C d, [.type "list", .type "tuple"], _, rfl, upd_same, .cons (.ty _) (.cons (.ty _) .nil), hK ▸ tyX_of hk R1 ha1 (live_of hb) (kin_of hb),
        kitAny_cons (b := isTy "list" d) (r := isTy "list" d || isTy "tuple" d) (hK ▸ kit_is hk (by decide) (kin_of hb)) (fun hf => kitAny_cons (b := isTy "tuple" d) (hK ▸ kit_is hk (by decide) (kin_of hb)) (fun hf2 => by rw [hf, hf2]; rfl) fun ht2 => by rw [ht2, Bool.or_true]) fun ht => by rw [ht, Bool.true_or], ?_⟩
      cases e
      exact m.post r1 _ s1 R1 _ (.bl _)
    · cases e
/-- isinstance(x, House) -/
def isH : M D → M D := fun f => bindM f fun d en => if okD en.c d = true then some (.ok (.bl (kin d == 6)), en) else none
theorem d_isH (hk : HK G.C) (hK : G.C.K = X.K) (h : PE X e (tCB (rIsi X.K) (tCons (tE G fa) (tCons (tC (.ref G.C.a)) tNil)))) : PE X e (tE G (isH fa)) := h.mono fun σ H Q ⟨r, en, x, R, hx, p⟩ =>
  (bindG (Ra := rD) R hx p).imp fun v H1 ⟨r1, en1, d, m⟩ => by
    have e := m.run
    split at e
    · rename_i hb
      refine ⟨v, .ref G.C.a, tyVal G.C d, .ref G.C.a, kin d == 6, rfl, .own _, hK ▸ tyX_of hk m.R m.ha (live_of hb) (kin_of hb), hK ▸ ?_, m.post.here m.R e (.bl _)⟩
      cases d with
      | hs b r => exact hk.yes
      | scr ns => cases hb
      | _ => exact hk.nb _ (by decide)
    · cases e

/-! ### lists that change -/
def appM (fo : M D) (fa : M (List D)) : M D := bindM fo fun o en => match o with
  | .ow k => (match en.c[k]? with
    | some (some _) => bindM fa (fun ds en => match ds with
      | [d] => (match en.c[k]? with
        | some (some es) => if es.length < sizeLine then some (.ok .non, ⟨en.sl, en.c.set k (some (es ++ [d]))⟩) else none
        | _ => none)
      | _ => none) en
    | _ => none)
  | _ => none
theorem d_app (hK : G.C.K = X.K) (h : PE X e (tBM X.K "list" rAppend (tE G fo) (tA G ga))) : PE X e (tE G (appM fo ga)) := h.mono fun σ H Q ⟨r, en, x, R, hx, p⟩ =>
  (bindG (Ra := rD) R hx p).imp fun v H1 ⟨r1, en1, o, m⟩ => by
    have e := m.run
    split at e
    · rename_i k
      split at e
      · rename_i es0 hk0
        cases m.ha with
        | @ow _ a hr =>
          obtain ⟨a', vs0, q1, q2, q3⟩ := m.R.cr.cell k es0 hk0
          rw [q1] at hr
          cases hr
          refine ⟨.inl ⟨rfl, vs0, SqL.of q2⟩, (bindG (Ra := rL) m.R e m.post).imp fun w H2 ⟨r2, en2, ds, m2⟩ => ?_⟩
          have e2 := m2.run
          split at e2
          · rename_i d
            split at e2
            · rename_i es hk
              split at e2
              · rename_i hl
                obtain ⟨a2, vs, z1, z2, z3⟩ := m2.R.cr.cell k es hk
                have hr2 := pre_get m2.s.ext q1
                rw [z1] at hr2
                cases hr2
                have ha : Rps G.C r2 (hid G.S r2 en2.c H2) [d] w := m2.ha
                cases ha with
                | cons h1 h2 =>
                  cases h2
                  exact ⟨a, vs, _, rfl, rfl, z2, by rw [← z3.length]; exact hl, m2.post.setC m2.R e2 hk z1 (z3.append (.cons h1 .nil)) .non⟩
              · cases e2
            · cases e2
          · cases e2
      · cases e
    · cases e
/-- o[i] = e -/
def sasM (fe fo fi : M D) : M Ctl := bindM fe fun d => bindM fo fun o => bindM fi fun i en => match o, i with
  | .ow k, .int j => (match en.c[k]? with
    | some (some es) => (match ixN es.length j with
      | some n => some (.ok .nx, ⟨en.sl, en.c.set k (some (es.set n d))⟩)
      | none => none)
    | _ => none)
  | _, _ => none
theorem ds_sas {st : Stmt} {fe fi : M D} (h : PS X st (tAsg (tE G fe) (gSub (tE G fo) (tE G fi) rSetL))) : PS X st (tS G (sasM fe fo fi)) := h.mono fun Dn σ H ⟨r, en, x, R, hx, p⟩ =>
  (bindS (Ra := rD) R hx p).imp fun v H1 ⟨r1, en1, d, m⟩ => (bindS (Ra := rD) m.R m.run m.post).imp fun w H2 ⟨r2, en2, o, m2⟩ => (bindS (Ra := rD) m2.R m2.run m2.post).imp fun y H3 ⟨r3, en3, i, m3⟩ => by
    have e := m3.run
    split at e
    · rename_i k j _
      split at e
      · rename_i es hk
        split at e
        · rename_i n hn
          obtain ⟨a, vs, q1, q2, q3⟩ := m3.R.cr.cell k es hk
          have ho : rD G r3 en3.c H3 (.ow k) w := Rp.stp m3.s m2.ha
          cases ho with
          | ow hr =>
            rw [q1] at hr
            cases hr
            cases m3.ha with
            | int _ =>
              cases e
              have hd : rD G r3 en3.c H3 d v := Rp.stp (m2.s.trans m3.s) m.ha
              obtain ⟨c1, s1⟩ := m3.R.cr.write hk q1 (q3.set hd n)
              refine ⟨a, vs, j, n, rfl, rfl, q2, by rw [← q3.length]; exact hn, ?_⟩
              exact m3.post r3 σ _ s1 (m3.R.stp (sl := en3.sl) (c := en3.c) c1 s1)
        · cases e
      · cases e
    · cases e
/-- name = [..] -/
theorem ds_setLc {st : Stmt} {cell : Bool} {fi : M (List D)} {t : Tg} {vs : List Nat} {ft : M Bool} {fe : M D} {i : Nat} (hv : ∀ i ∈ t.vs, i ∈ vs) (h : PS X st (tAsg (tLc (tI G fi) (t.G G.K) (tTs G ft) (tEs G fe) vs) (gName i))) : PS X st (tS G (asgM (lcM cell fi t vs ft fe) (.one i))) :=
  (h.mono fun Dn σ H q => lc_ok (X := X) (e := .Constant .none 0 ⟨0, 0, 0, 0⟩) hv σ H _ q).mono t_asg
theorem d_lc {cell : Bool} {fi : M (List D)} {t : Tg} {vs : List Nat} {ft : M Bool} {fe : M D} (hv : ∀ i ∈ t.vs, i ∈ vs) (h : PE X e (tLc (tI G fi) (t.G G.K) (tTs G ft) (tEs G fe) vs)) : PE X e (tE G (lcM cell fi t vs ft fe)) := h.mono (lc_ok (X := X) (e := e) hv)
/-- a, b = x, y; a, b, c = x, y, z -/
def parM (is : List Nat) (fa : M (List D)) : M Ctl := bindM fa fun ds en => if ds.length = is.length then some (.ok .nx, ⟨setAll en.sl is ds, en.c⟩) else none
theorem ds_par {st : Stmt} {i j : Nat} (h : PS X st (tPar i j (tA G ga))) : PS X st (tS G (parM [i, j] ga)) := h.mono fun Dn σ H ⟨r, en, x, R, hx, p⟩ =>
  (bindS (Ra := rL) R hx p).imp fun v H1 ⟨r1, en1, ds, m⟩ => by
    have e := m.run
    split at e
    · rename_i hl
      cases e
      have ha : Rps G.C r1 (hid G.S r1 en1.c H1) ds v := m.ha
      cases ha with
      | nil => simp at hl
      | cons h1 h2 =>
        cases h2 with
        | nil => simp at hl
        | cons h2 h3 =>
          cases h3 with
          | cons _ _ => simp at hl
          | nil => exact ⟨_, _, rfl, m.post r1 _ H1 Stp.refl (Rl.putAll [i, j] _ _ _ _ m.R (.cons h1 (.cons h2 .nil)))⟩
    · cases e
theorem ds_par3 {st : Stmt} {i j l : Nat} (h : PS X st (tPar3 i j l (tA G ga))) : PS X st (tS G (parM [i, j, l] ga)) := h.mono fun Dn σ H ⟨r, en, x, R, hx, p⟩ =>
  (bindS (Ra := rL) R hx p).imp fun v H1 ⟨r1, en1, ds, m⟩ => by
    have e := m.run
    split at e
    · rename_i hl
      cases e
      have ha : Rps G.C r1 (hid G.S r1 en1.c H1) ds v := m.ha
      cases ha with
      | nil => simp at hl
      | cons h1 h2 =>
        cases h2 with
        | nil => simp at hl
        | cons h2 h3 =>
          cases h3 with
          | nil => simp at hl
          | cons h3 h4 =>
            cases h4 with
            | cons _ _ => simp at hl
            | nil => exact ⟨_, _, _, rfl, m.post r1 _ H1 Stp.refl (Rl.putAll [i, j, l] _ _ _ _ m.R (.cons h1 (.cons h2 (.cons h3 .nil))))⟩
    · cases e
/-! ### a house's fields; other operators -/
theorem d_fldB {pos : Pos} {o : Expr} (hk : HK G.C) (hK : G.C.K = X.K) (ho : PE X o (tE G fo)) (hb : attributeBase o "_bases" X.env (eval o X.env) = eval o X.env) : PE X (.Attribute o "_bases" pos) (tE G (fldM true fo)) := (pe_fld ho hb).mono fun σ H Q ⟨r, en, x, R, hx, p⟩ =>
  (bindG (Ra := rD) R hx p).imp fun v H1 ⟨r1, en1, a1, m⟩ => by
    have e := m.run
    split at e
    · cases m.ha with
      | @hs a dx t1 t2 _ _ h1 h2 h3 => exact ⟨a, G.C.a, dx, hF t1 t2, .ref t1, rfl, hid_same _ _ h1, hK ▸ hk.cl, hK ▸ hk.nB, rfl, m.post.here m.R e (.tup h2 (Rps.ofInts _))⟩
    · cases e
theorem d_fldR {pos : Pos} {o : Expr} (hk : HK G.C) (hK : G.C.K = X.K) (ho : PE X o (tE G fo)) (hb : attributeBase o "_rooms" X.env (eval o X.env) = eval o X.env) : PE X (.Attribute o "_rooms" pos) (tE G (fldM false fo)) := (pe_fld ho hb).mono fun σ H Q ⟨r, en, x, R, hx, p⟩ =>
  (bindG (Ra := rD) R hx p).imp fun v H1 ⟨r1, en1, a1, m⟩ => by
    have e := m.run
    split at e
    · cases m.ha with
      | @hs a dx t1 t2 _ _ h1 h2 h3 =>
        refine ⟨a, G.C.a, dx, hF t1 t2, .ref t2, rfl, hid_same _ _ h1, hK ▸ hk.cl, hK ▸ hk.nR, ?_, m.post.here m.R e (.tup h3 (Rps.ofInts _))⟩
        have q1 : (("_rooms" : Str) == ("_bases" : Str)) = false := by decide +kernel
        have q2 : (("_rooms" : Str) == ("_rooms" : Str)) = true := by decide +kernel
        simp only [hF, List.lookup, q1, q2]
    · cases e
def isBlG (neg : Bool) : D → D → M D
  | .bl a, .bl b => pureM (.bl (if neg then !decide (a = b) else decide (a = b)))
  | _, _ => failM
theorem o_isBl : Op2 G rIsB (isBlG false) := by
  intro r en σ H a b x y z Q R hx hy e p
  unfold isBlG at e
  split at e
  · cases hx; cases hy
    exact ⟨_, _, rfl, rfl, p.here R e (.bl _)⟩
  · cases e
theorem o_notBl : Op2 G rNotB (isBlG true) := by
  intro r en σ H a b x y z Q R hx hy e p
  unfold isBlG at e
  split at e
  · cases hx; cases hy
    exact ⟨_, _, rfl, rfl, p.here R e (.bl _)⟩
  · cases e
def bitG : D → M D
  | .int i => pureM (.int (Builtin.Int.intBits i : Nat))
  | _ => failM
theorem d_bit (h : PE X e (tBits (tE G fa))) : PE X e (tE G (bindM fa bitG)) := h.mono fun σ H Q ⟨r, en, x, R, hx, p⟩ => (bindG (Ra := rD) R hx p).imp fun v H1 ⟨r1, en1, a1, m⟩ => by
  have e := m.run
  unfold bitG at e
  split at e
  · cases m.ha
    exact ⟨_, rfl, m.post.here m.R e (.int _)⟩
  · cases e
end
end CD

/-! CDi: making a house; calls by keywords alone. -/
namespace CD
open PySem PySem.Spec PyProof.Rows L2
def spI (C : Hc) (F : D → D → Cells → Option (List Int × List Int)) : Sp := fun vs H Q E => ∃ (S : Addr → Prop) (r : List Addr) (c : Cells) (d1 d2 : D) (x dx : Addr) (v1 v2 : V) (b rr : List Int), vs = [.ref x, v1, v2] ∧ ¬ S x ∧ CelR (addS S x) C r c H ∧
  H x = some (.ins C.a dx []) ∧ Rp C r (hid (addS S x) r c H) d1 v1 ∧ Rp C r (hid (addS S x) r c H) d2 v2 ∧ F d1 d2 c = some (b, rr) ∧
  ∀ H' t1 t2, CelR (addS S x) C r c H' → Same (hid (addS S x) r c H) (hid (addS S x) r c H') → (∀ a, H a ≠ none → H' a ≠ none) → (∀ a o, S a → H a = some o → H' a = some o) →
    H' x = some (.ins C.a dx (hF t1 t2)) → hid (addS S x) r c H' t1 = some (.tup (b.map V.int)) → hid (addS S x) r c H' t2 = some (.tup (rr.map V.int)) → Q .non H'
def makG (F : D → D → Cells → Option (List Int × List Int)) : List D → M D
  | [d1, d2] => fun en => match F d1 d2 en.c with
    | some (b, r) => some (.ok (.hs b r), en)
    | none => none
  | _ => failM
section
variable {X : Cx} {G : Par} {e : Expr} {fa fk : M (List D)} {F : D → D → Cells → Option (List Int × List Int)}
theorem mak_ok {σ : L2.St} {H1 : Hp} {Q : VK} {r : List Addr} {en : En} {ds : List D} {vs : List V} {z : Res D × En} (R : Rl G r en σ H1) (hv : rL G r en.c H1 ds vs) (e : makG F ds en = some z) (p : PostG G rD r en σ H1 z Q) :
    ∀ x dx, H1 x = none → H1 dx = none → dx ≠ x → spI G.C F (.ref x :: vs) (upd (upd H1 dx (.own x)) x (.ins G.C.a dx [])) (fun v H2 => v = .non ∧ Q (.ref x) H2) G.E := by
  intro x dx hx hdx hne
  unfold makG at e
  split at e
  · rename_i d1 d2
    cases hv with
    | cons h1 h2 =>
      cases h2 with
      | cons h2 h3 =>
        cases h3
        split at e
        · rename_i b rr hF
          obtain ⟨c1, s1⟩ := R.cr.laid (.own x) hdx
          have hx1 : upd H1 dx (.own x) x = none := by rw [upd_ne (fun q => hne q.symm)]; exact hx
          have hS : ¬ G.S x := fun q => R.cr.sal x q hx
          have sm := s1.sm.trans (hid_new (S := G.S) (r := r) (c := en.c) (p := x) (o := .ins G.C.a dx []) hx1)
          refine ⟨G.S, r, en.c, d1, d2, x, dx, _, _, b, rr, rfl, hS, c1.hide hx1, upd_same, h1.mono List.prefix_rfl sm, h2.mono List.prefix_rfl sm, hF, fun H' t1 t2 k1 k2 k3 k4 k5 k6 k7 => ⟨rfl, ?_⟩⟩
          have hal : ∀ a, H1 a ≠ none → upd (upd H1 dx (.own x)) x (.ins G.C.a dx []) a ≠ none := fun a h => by
            by_cases q : a = x
            · subst q; rw [upd_same]; simp
            · rw [upd_ne q]
              by_cases q2 : a = dx
              · subst q2; rw [upd_same]; simp
              · rw [upd_ne q2]; exact h
          have s2 : Stp G.S r en.c H1 r en.c H' := ⟨List.prefix_rfl, (sm.trans k2).trans hid_less, fun a h => k3 a (hal a h), fun a o h q => k4 a o h (by rw [upd_ne (ne_of_none q hx), upd_ne (ne_of_none q hdx)]; exact q)⟩
          cases e
          refine p r H' s2 (R.stp (sl := en.sl) (c := en.c) k1.show s2) _ (.hs (hid_some.mpr ⟨fun q => ?_, k5⟩) (hid_less _ _ k6) (hid_less _ _ k7))
          exact q.elim hS fun ⟨k, es, z1, _⟩ => k1.dis x (List.mem_of_getElem? z1) (.inr rfl)
        · cases e
  · cases e
theorem d_make (h : PE X e (tMake G.C.a (spI G.C F) [] G.E (tA G fa))) : PE X e (tE G (bindM fa (makG F))) := h.mono fun σ H Q ⟨r, en, x, R, hx, p⟩ =>
  (bindG (Ra := rL) R hx p).imp fun v H1 ⟨r1, en1, a1, m⟩ x dx q1 q2 q3 => by
    rw [List.append_nil]
    exact mak_ok m.R m.ha m.run m.post x dx q1 q2 q3
/-- House(rooms = .., bases = ..): pm puts them in the parameters' order -/
theorem d_makeK {pm : List D → List D} {gV : List V → List V → List V} (hp : ∀ C r H ds vs, Rps C r H ds vs → Rps C r H (pm ds) (((gV [.ref 0] vs)).drop 1)) (hg : ∀ (x : Addr) (zs : List V), gV [.ref x] zs = .ref x :: (gV [.ref 0] zs).drop 1) {m n : Nat}
    (hlen : ∀ C r H ds vs, Rps C r H ds vs → ∀ en z, makG F (pm ds) en = some z → vs.length = m)
    (h : PE X e (tMakeK G.C.a 0 m (spI G.C F) gV G.E tNil (tA G fk))) : PE X e (tE G (bindM fk fun ds => makG F (pm ds))) := h.mono fun σ H Q ⟨r, en, x, R, hx, p⟩ =>
  (bindG (Ra := rL) R hx p).imp fun v H1 ⟨r1, en1, a1, m⟩ => by
    refine ⟨rfl, hlen _ _ _ _ _ m.ha _ _ m.run, fun x dx q1 q2 q3 => ?_⟩
    rw [hg]
    exact mak_ok m.R (hp _ _ _ _ _ m.ha) m.run m.post x dx q1 q2 q3
/-- f(k = v, ..) -/
theorem pe_callK0 {CX : CXT} {k : Nat} {f : Addr} {fd : FuncData} {ps ks : List Str} {sp : Sp} {E : XK} {x : Str} {p pos : Pos} {kws : List Keyword} {tk : TA} {g : List Value → List Value → List Value} {gV : List V → List V → List V} (F : FnOk X.prog X.w X.K X.mg X.base CX k f fd ps sp) (hr : Room k X.A) (hg : Gl X x) (hm : X.mg x = some (.ref f)) (hk : PySem.W.keepIn X.K (.ref f) = true) (hb : KBinds X.K fd ps ks g gV) (hx : Passes CX X E)
    (hkw : PK X kws tk) (hall : (backToKw pos (keywordEach kws X.env)).all (·.1.isSome) = true := by rfl) (hks : (backToKw pos (keywordEach kws X.env)).filterMap (·.1) = ks := by rfl)
    (hdb : (x == ("__debug__" : Str)) = false := by decide) (hpl : ((backTo pos (starEach [] X.env)).any (·.1) || (backToKw pos (keywordEach kws X.env)).any (·.1.isNone)) = false := by rfl) :
    PE X (.Call (.Name x p) [] kws pos) (tCallK sp gV E tNil tk) := by
  refine ⟨fun pins s σ H Q I h => ?_⟩
  refine wpAny_Call_Name_kw (ld_glob I hg hm ?_ hdb)
  refine PySem.W.callWith_KW0 (h₀ := X.base) I.ok.mod.kin hk hall ?_ hpl
  refine thn (hkw.run pos pins s σ H _ I h) fun ws s2 ⟨zs, H2, I2, rz, q2⟩ => ⟨I2.kIn, ?_⟩
  rw [hks]
  exact run_fnk (us := []) (vs := []) F hr hb hx I2 .nil rz q2
def fnK0M (n : Nat) (F : Fn) (pm : List D → List D) (fk : M (List D)) : M D := bindM fk fun es => runF n F (pm es)
theorem d_fnK0 {n : Nat} {Fn' : Fn} {pm : List D → List D} {gV : List V → List V → List V} (hp : ∀ C r H es ws, Rps C r H es ws → Rps C r H (pm es) (gV [] ws)) (h : PE X e (tCallK (spF G.C G.xa n Fn') gV G.E tNil (tA G fk))) : PE X e (tE G (fnK0M n Fn' pm fk)) :=
  h.mono fun σ H Q ⟨r, en, x, R, hx, p⟩ => (bindG (Ra := rL) R hx p).imp fun w H2 ⟨r2, en2, b1, m2⟩ => run_sp m2.R (hp _ _ _ _ _ m2.ha) m2.run m2.post
theorem dk_nil : PK X [] (tA G (pureM [])) := ⟨fun pos pins s σ H Q I ⟨r, en, x, R, hx, p⟩ => pk_nil.run pos pins s σ H Q I (p.here R hx .nil)⟩
theorem dk_cons {nm : Option Str} {kpos : Pos} {kws : List Keyword} {f : M D} {g : M (List D)} (ha : PE X e (tE G f)) (hr : PK X kws (tA G g)) : PK X (⟨nm, e, kpos⟩ :: kws) (tA G (consM f g)) := ⟨fun pos pins s σ H Q I ⟨r, en, x, R, hx, p⟩ =>
  (pk_cons ha hr).run pos pins s σ H Q I ((bindG (Ra := rD) R hx p).imp fun v H1 ⟨r1, en1, a1, m1⟩ => (bindG (Ra := rL) m1.R m1.run m1.post).imp fun w H2 ⟨r2, en2, b1, m2⟩ => m2.post.here m2.R m2.run (.cons (Rp.stp m2.s m1.ha) m2.ha))⟩
end

/-! ### a function of the text, as its callers see it -/
/-- name: the function; ps: its parameters; k: its level; F: what it does -/
structure Ca (P : Program) (w : World) (K : PySem.W.Frag) (mg : Str → Option Value) (base : Heap) (C : Hc) (xa : Str → Addr) (name : Str) (ps : List Str) (k : Nat) (F : Fn) (f : Addr) (fd : FuncData) : Prop where
  ok : FnOk P w K mg base CX0 k f fd ps (spF C xa ps.length F)
  gm : mg name = some (.ref f)
  kp : PySem.W.keepIn K (.ref f) = true
  b : Binds K fd ps []
section
variable {X : Cx} {G : Par} {fa : M (List D)} {name : Str} {ps : List Str} {k : Nat} {F : Fn} {f : Addr} {fd : FuncData} {e : Expr} {es : List Expr} {p pos : Pos}
theorem d_ca (c : Ca X.prog X.w X.K X.mg X.base G.C G.xa name ps k F f fd) (hE : G.E = E0) (hr : Room k X.A) (hg : Gl X name) (ha : PA X (e :: es) (tA G fa)) (hdb : (name == ("__debug__" : Str)) = false := by decide)
    (he : starEach (e :: es) X.env = (false, eval e X.env) :: starEach es X.env := by rfl) (hpl : (backTo pos (starEach es X.env)).any (·.1) = false := by rfl) {n : Nat} (hn : ps.length = n := by rfl) : PE X (.Call (.Name name p) (e :: es) [] pos) (tE G (fnM n F fa)) :=
  hn ▸ d_fn (hE ▸ pe_call c.ok hr hg c.gm c.kp c.b .nil pass0 ha hdb he hpl)
end
end CD

/-! CDj: what the program's functions are to each other; more operators. -/
namespace CD
open PySem PySem.Spec PyProof.Rows L2
/-- the built-ins' names are not taken; the class of houses -/
structure Txt (mg : Str → Option Value) (C : Hc) : Prop where
  len : mg "len" = none
  sum : mg "sum" = none
  all : mg "all" = none
  any : mg "any" = none
  min : mg "min" = none
  max : mg "max" = none
  t_int : mg "int" = none
  t_bool : mg "bool" = none
  t_list : mg "list" = none
  t_tuple : mg "tuple" = none
  t_dict : mg "dict" = none
  t_str : mg "str" = none
  isinstance : mg "isinstance" = none
  range : mg "range" = none
  zip : mg "zip" = none
  enumerate : mg "enumerate" = none
  reversed : mg "reversed" = none
  divmod : mg "divmod" = none
  House : mg "House" = some (.ref C.a)
/-- a method -/
structure Cm (P : Program) (w : World) (K : PySem.W.Frag) (mg : Str → Option Value) (base : Heap) (C : Hc) (xa : Str → Addr) (name : Str) (k : Nat) (F : Fn) (f : Addr) (fd : FuncData) : Prop where
  cl : Cls K C.a
  me : Meth K C.a name f
  ok : FnOk P w K mg base CX0 k f fd ["self"] (spF C xa 1 F)
  b : Binds K fd ["self"] []
structure HMk (P : Program) (w : World) (K : PySem.W.Frag) (mg : Str → Option Value) (base : Heap) (C : Hc) (xa : Str → Addr) (k : Nat) (F : D → D → Cells → Option (List Int × List Int)) (f : Addr) (fd : FuncData) : Prop where
  ma : L2.Mk K C.a f
  ok : FnOk P w K mg base CX0 k f fd ["self", "bases", "rooms"] (spI C F)
  b : Binds K fd ["self", "bases", "rooms"] []
def iaddG : D → D → M D
  | .int i, .int j => pureM (.int (i + j))
  | _, _ => failM
def isubG : D → D → M D
  | .int i, .int j => pureM (.int (i - j))
  | _, _ => failM
section
variable {X : Cx} {G : Par} {a b e : Expr} {fa fb : M D} {pos : Pos}
theorem o_ipadd : Op2 G (ipI fun i j => i + j) iaddG := by
  intro r en σ H a b x y z Q R hx hy e p
  unfold iaddG at e
  split at e
  · cases hx; cases hy
    exact ⟨_, _, rfl, rfl, p.here R e (.int _)⟩
  · cases e
theorem o_ipsub : Op2 G (ipI fun i j => i - j) isubG := by
  intro r en σ H a b x y z Q R hx hy e p
  unfold isubG at e
  split at e
  · cases hx; cases hy
    exact ⟨_, _, rfl, rfl, p.here R e (.int _)⟩
  · cases e
/-- a ** b, any a -/
def powWG : D → D → M D
  | .int i, .int j => fun en => if 0 ≤ j ∧ (Builtin.Int.intBits i : Int) * j ≤ 2 ^ 27 then some (.ok (.int (i ^ j.toNat)), en) else none
  | _, _ => failM
theorem op_powW : OpR X (binaryOp .Pow) (rI (fun i j => 0 ≤ j ∧ (Builtin.Int.intBits i : Int) * j ≤ 2 ^ 27) fun i j => .int (i ^ j.toNat)) := by
  intro pins s σ H x y v u Q I rx ry h
  obtain ⟨i, j, rfl, rfl, hc, q⟩ := h
  obtain ⟨t, rfl⟩ := rx
  obtain ⟨t', rfl⟩ := ry
  exact PyProof.Rows.pow_int hc.1 hc.2 ⟨.int _, H, I.tok _, ⟨_, rfl⟩, q⟩
theorem o_powW : Op2 G (rI (fun i j => 0 ≤ j ∧ (Builtin.Int.intBits i : Int) * j ≤ 2 ^ 27) fun i j => .int (i ^ j.toNat)) powWG := by
  intro r en σ H a b x y z Q R hx hy e p
  unfold powWG at e
  split at e
  · cases hx; cases hy
    split at e
    · rename_i h; exact ⟨_, _, rfl, rfl, h, p.here R e (.int _)⟩
    · cases e
  · cases e
theorem d_powW (ha : PE X a (tE G fa)) (hb : PE X b (tE G fb)) : PE X (.BinOp a .Pow b pos) (tE G (binM powWG fa fb)) := d_bin op_powW o_powW ha hb
/-- xs[::-1] -/
def rvsG (mk : List D → M D) (d : D) : M D := fun en => match rdOf en.c d with
  | some x => mk x.reverse en
  | none => none
theorem d_rvs {mk : List D → M D} (hm : Mk1 mk) (hK : G.C.K = X.K) {k : Nat} {p1 p2 p3 : Pos} (ha : PE X a (tE G fa)) : PE X (.Subscript a (.Slice none none (some (.UnaryOp .USub (.Constant (.int 1) k p1) p2)) p3) pos) (tE G (bindM fa (rvsG mk))) :=
  (pe_revL ha).mono fun σ H Q ⟨r, en, x, R, hx, p⟩ => (bindG (Ra := rD) R hx p).imp fun v H1 ⟨r1, en1, a1, m⟩ => by
    have e := m.run
    unfold rvsG at e
    split at e
    · rename_i ds hd
      obtain ⟨a, vs, rfl, q1, q2⟩ := m.R.read m.ha hd
      exact ⟨a, vs, rfl, hK ▸ q1, (hm.post m.R m.post e q2.reverse).2⟩
    · cases e
/-- o.m() of a house -/
theorem d_cm {name : Str} {k : Nat} {F : Fn} {f : Addr} {fd : FuncData} {o : Expr} {fo : M D} {apos cpos : Pos} {pl : Sem Bool} (c : Cm X.prog X.w X.K X.mg X.base G.C G.xa name k F f fd) (hE : G.E = E0) (hr : Room k X.A) (hl : ∀ t1 t2 : Addr, (hF t1 t2).lookup name = none) (ho : PE X o (tE G fo))
    (ht : eval (.Call (.Attribute o name apos) [] [] cpos) X.env = (do
      let ov ← eval o X.env
      standAt apos.atName
      let (f, first) ← holding [ov] (getMethod ov name pl)
      callWith cpos f first (backTo cpos (starEach [] X.env)) (backToKw cpos (keywordEach [] X.env))) := by rfl) :
    PE X (.Call (.Attribute o name apos) [] [] cpos) (tE G (metM 1 F fo (pureM []))) :=
  (pe_meth0 ho c.cl c.me c.ok hr c.b .nil (E := E0) pass0 ht).mono fun σ H Q ⟨r, en, x, R, hx, p⟩ => (bindG (Ra := rD) R hx p).imp fun v H1 ⟨r1, en1, a1, m⟩ => by
    have e := m.run
    split at e
    · rename_i b rr
      have ha := m.ha
      cases m.ha with
      | @hs a dx t1 t2 _ _ h1 h2 h3 =>
        refine ⟨a, dx, hF t1 t2, rfl, hid_same _ _ h1, hl _ _, ?_⟩
        have q := run_sp (ds := [.hs b rr]) (vs := [.ref a]) m.R (.cons ha .nil) e m.post
        rw [hE] at q
        exact q
    · cases e
theorem nl_bases (t1 t2 : Addr) : (hF t1 t2).lookup ("bases" : Str) = none := by
  have q1 : (("bases" : Str) == ("_bases" : Str)) = false := by decide +kernel
  have q2 : (("bases" : Str) == ("_rooms" : Str)) = false := by decide +kernel
  simp only [hF, List.lookup, q1, q2]
theorem nl_rooms (t1 t2 : Addr) : (hF t1 t2).lookup ("rooms" : Str) = none := by
  have q1 : (("rooms" : Str) == ("_bases" : Str)) = false := by decide +kernel
  have q2 : (("rooms" : Str) == ("_rooms" : Str)) = false := by decide +kernel
  simp only [hF, List.lookup, q1, q2]
theorem nl_places (t1 t2 : Addr) : (hF t1 t2).lookup ("places" : Str) = none := by
  have q1 : (("places" : Str) == ("_bases" : Str)) = false := by decide +kernel
  have q2 : (("places" : Str) == ("_rooms" : Str)) = false := by decide +kernel
  simp only [hF, List.lookup, q1, q2]
end
end CD

/-! CDk: calls by keywords; what a body does, step by step. -/
namespace CD
open PySem PySem.Spec PyProof.Rows L2
def perm0 {α : Type} (l : List α) : List α := l
def perm10 {α : Type} : List α → List α
  | [a, b] => [b, a]
  | l => l
def perm210 {α : Type} : List α → List α
  | [a, b, c] => [c, b, a]
  | l => l
def kg {α : Type} (pm : List α → List α) : List α → List α → List α
  | [], ws => pm ws
  | _ :: _, _ => []
structure PermOk (pmD : List D → List D) (pmV : List V → List V) (pmU : List Value → List Value) : Prop where
  rp : ∀ C r H es ws, Rps C r H es ws → Rps C r H (pmD es) (pmV ws)
  vl : ∀ {zs : List V} {ws : List Value}, Vals zs ws → Vals (pmV zs) (pmU ws)
theorem ok0 : PermOk perm0 perm0 perm0 := ⟨fun _ _ _ _ _ h => h, fun h => h⟩
theorem ok10 : PermOk perm10 perm10 perm10 := by
  refine ⟨fun C r H es ws h => ?_, fun {zs ws} h => ?_⟩
  · cases h with
    | nil => exact .nil
    | cons h1 h2 =>
      cases h2 with
      | nil => exact .cons h1 .nil
      | cons h2 h3 =>
        cases h3 with
        | nil => exact .cons h2 (.cons h1 .nil)
        | cons h3 h4 => exact .cons h1 (.cons h2 (.cons h3 h4))
  · cases h with
    | nil => exact .nil
    | cons h1 h2 =>
      cases h2 with
      | nil => exact .cons h1 .nil
      | cons h2 h3 =>
        cases h3 with
        | nil => exact .cons h2 (.cons h1 .nil)
        | cons h3 h4 => exact .cons h1 (.cons h2 (.cons h3 h4))
theorem ok210 : PermOk perm210 perm210 perm210 := by
  refine ⟨fun C r H es ws h => ?_, fun {zs ws} h => ?_⟩
  · cases h with
    | nil => exact .nil
    | cons h1 h2 =>
      cases h2 with
      | nil => exact .cons h1 .nil
      | cons h2 h3 =>
        cases h3 with
        | nil => exact .cons h1 (.cons h2 .nil)
        | cons h3 h4 =>
          cases h4 with
          | nil => exact .cons h3 (.cons h2 (.cons h1 .nil))
          | cons h4 h5 => exact .cons h1 (.cons h2 (.cons h3 (.cons h4 h5)))
  · cases h with
    | nil => exact .nil
    | cons h1 h2 =>
      cases h2 with
      | nil => exact .cons h1 .nil
      | cons h2 h3 =>
        cases h3 with
        | nil => exact .cons h1 (.cons h2 .nil)
        | cons h3 h4 =>
          cases h4 with
          | nil => exact .cons h3 (.cons h2 (.cons h1 .nil))
          | cons h4 h5 => exact .cons h1 (.cons h2 (.cons h3 (.cons h4 h5)))
/-- a function called by keywords alone -/
structure Kb (K : PySem.W.Frag) (fd : FuncData) (ps ks : List Str) (pmU : List Value → List Value) : Prop where
  to : ∀ (s : Shared) (ws : List Value), K.In s.heap → (pmU ws).length = ps.length → BindsTo s fd ⟨[], ks.zip ws⟩ (ps.zip (pmU ws))
theorem Kb.binds {K : PySem.W.Frag} {fd : FuncData} {ps ks : List Str} {pmD : List D → List D} {pmV : List V → List V} {pmU : List Value → List Value} (h : Kb K fd ps ks pmU) (hp : PermOk pmD pmV pmU) (hps : ps ≠ []) : KBinds K fd ps ks (kg pmU) (kg pmV) := by
  refine ⟨fun s us ws hK hl => ?_, fun {vs us zs ws} r1 r2 => ?_⟩
  · cases us with
    | nil => exact h.to s ws hK hl
    | cons u us =>
      have q : ([] : List Value).length = ps.length := hl
      exact absurd (List.length_eq_zero_iff.mp q.symm) hps
  · cases r1 with
    | nil => exact hp.vl r2
    | cons _ _ => exact .nil
theorem Kb.mk' {K : PySem.W.Frag} {x qual : Str} {st : Stmt} {f : Addr} {fd : FuncData} {ps ks : List Str} {pmU : List Value → List Value} (F : Fun K x qual st f fd) (hpl : ∀ ws, (pmU ws).length = ws.length)
    (h : ∀ (kV doc pm : Value) (an : Option Addr) (cdv ct : Value) (ws : List Value), ws.length = ps.length → bindArgs (PySem.W.fnOf x qual (defArgs st) (defBody st) (defScope st) .none kV doc pm an cdv ct) ⟨[], ks.zip ws⟩ = pure (ps.zip (pmU ws))) : Kb K fd ps ks pmU := by
  obtain ⟨oc, od, kV, doc, pm, an, cdv, ct, osl, rfl, lk, hcd⟩ := F.ex
  exact ⟨fun s ws _ hl => .of_eq (h kV doc pm an cdv ct ws (by rw [← hpl ws]; exact hl))⟩
section
variable {X : Cx} {G : Par} {fk : M (List D)} {name : Str} {ps ks : List Str} {k : Nat} {F : Fn} {f : Addr} {fd : FuncData} {kws : List Keyword} {p pos : Pos}
theorem d_ck {pmD : List D → List D} {pmV : List V → List V} {pmU : List Value → List Value} (hp : PermOk pmD pmV pmU) (c : Ca X.prog X.w X.K X.mg X.base G.C G.xa name ps k F f fd) (kb : Kb X.K fd ps ks pmU) (hps : ps ≠ []) (hE : G.E = E0) (hr : Room k X.A) (hg : Gl X name) (hkw : PK X kws (tA G fk))
    (hall : (backToKw pos (keywordEach kws X.env)).all (·.1.isSome) = true := by rfl) (hks : (backToKw pos (keywordEach kws X.env)).filterMap (·.1) = ks := by rfl)
    (hdb : (name == ("__debug__" : Str)) = false := by decide) (hpl : ((backTo pos (starEach [] X.env)).any (·.1) || (backToKw pos (keywordEach kws X.env)).any (·.1.isNone)) = false := by rfl) {n : Nat} (hn : ps.length = n := by rfl) :
    PE X (.Call (.Name name p) [] kws pos) (tE G (fnK0M n F pmD fk)) := by
  subst hn
  refine d_fnK0 (gV := kg pmV) (fun C r H es ws h => hp.rp C r H es ws h) ?_
  rw [hE]
  exact pe_callK0 c.ok hr hg c.gm c.kp (kb.binds hp hps) pass0 hkw hall hks hdb hpl
end
end CD

/-! CDl: what a body does, read step by step: W f e Q says that f ends well at e, and Q holds behind it. -/
namespace CD
open PySem PySem.Spec PyProof.Rows L2
def W {α : Type} (f : M α) (e : En) (Q : α → En → Prop) : Prop := ∃ a e', f e = some (.ok a, e') ∧ Q a e'
section
variable {α β : Type} {e : En} {f g : M D} {fa fk : M (List D)}
theorem W.imp {f : M α} {Q Q' : α → En → Prop} (h : W f e Q) (m : ∀ a e', Q a e' → Q' a e') : W f e Q' := let ⟨a, e', h1, h2⟩ := h; ⟨a, e', h1, m a e' h2⟩
theorem W_pure {a : α} {Q : α → En → Prop} : W (pureM a) e Q = Q a e := propext ⟨fun ⟨_, _, h, q⟩ => by cases h; exact q, fun q => ⟨_, _, rfl, q⟩⟩
theorem W_some {a : α} {e' : En} {f : M α} {Q : α → En → Prop} (h : f e = some (.ok a, e')) : W f e Q = Q a e' := propext ⟨fun ⟨_, _, h', q⟩ => by rw [h] at h'; cases h'; exact q, fun q => ⟨_, _, h, q⟩⟩
theorem W_bind {f : M α} {g : α → M β} {Q : β → En → Prop} : W (bindM f g) e Q = W f e fun a e' => W (g a) e' Q := by
  refine propext ⟨fun ⟨b, e2, h, q⟩ => ?_, fun ⟨a, e1, h, b, e2, h2, q⟩ => ⟨b, e2, ?_, q⟩⟩
  · unfold bindM at h
    split at h
    · cases h
    · rename_i a e1 h1; exact ⟨a, e1, h1, b, e2, h, q⟩
    · cases h
  · unfold bindM; rw [h]; exact h2
theorem W_seq {f g : M Ctl} {Q : Ctl → En → Prop} : W (seqM f g) e Q = W f e fun c e' => match c with
    | .nx => W g e' Q
    | .rt d => Q (.rt d) e'
    | .bk => Q .bk e'
    | .ct => Q .ct e' := by
  unfold seqM
  rw [W_bind]
  congr 1
  funext c e'
  cases c <;> simp only [W_pure]
theorem W_asg {t : Tg} {Q : Ctl → En → Prop} : W (asgM f t) e Q = W f e fun d e' => ∃ sl, t.st d e'.sl = some sl ∧ Q .nx ⟨sl, e'.c⟩ := by
  unfold asgM
  rw [W_bind]
  congr 1
  funext d e'
  cases h : t.st d e'.sl with
  | none => exact propext ⟨fun ⟨_, _, h', _⟩ => (by dsimp only at h'; rw [h] at h'; cases h'), fun ⟨_, h', _⟩ => nomatch h'⟩
  | some sl => exact propext ⟨fun ⟨_, _, h', q⟩ => (by dsimp only at h'; rw [h] at h'; cases h'; exact ⟨_, rfl, q⟩), fun ⟨_, h', q⟩ => (by cases h'; exact ⟨_, _, by dsimp only; rw [h], q⟩)⟩
theorem W_asg1 {i : Nat} {Q : Ctl → En → Prop} : W (asgM f (.one i)) e Q = W f e fun d e' => Q .nx ⟨e'.sl.set i (some d), e'.c⟩ := by
  rw [W_asg]; congr 1; funext d e'; simp [Tg.st]
theorem W_asgT {is : List Nat} {Q : Ctl → En → Prop} : W (asgM f (.tup is)) e Q = W f e fun d e' => ∃ sl, (Tg.tup is).st d e'.sl = some sl ∧ Q .nx ⟨sl, e'.c⟩ := W_asg
theorem W_drop {Q : Ctl → En → Prop} : W (dropM f) e Q = W f e fun _ e' => Q .nx e' := by
  unfold dropM; rw [W_bind]; simp only [W_pure]
theorem W_ret {Q : Ctl → En → Prop} : W (retS f) e Q = W f e fun d e' => Q (.rt d) e' := by
  unfold retS; rw [W_bind]; simp only [W_pure]
theorem W_fail {Q : α → En → Prop} : W failM e Q = False := propext ⟨fun ⟨_, _, h, _⟩ => (nomatch h), False.elim⟩
theorem W_test {Q : Bool → En → Prop} : W (testM f) e Q = W f e fun d e' => ∃ b, d = .bl b ∧ Q b e' := by
  unfold testM; rw [W_bind]; congr 1; funext d e'
  cases d with
  | bl b => rw [show blG (.bl b) = pureM b from rfl, W_pure]; exact propext ⟨fun h => ⟨b, rfl, h⟩, fun ⟨_, h, q⟩ => by cases h; exact q⟩
  | _ => exact propext ⟨fun ⟨_, _, h, _⟩ => (nomatch h), fun ⟨_, h, _⟩ => nomatch h⟩
theorem W_if {c : M Bool} {f g : M α} {Q : α → En → Prop} : W (ifM c f g) e Q = W c e fun b e' => (b = true → W f e' Q) ∧ (b = false → W g e' Q) := by
  unfold ifM; rw [W_bind]; congr 1; funext b e'; cases b <;> simp
theorem W_not {c : M Bool} {Q : Bool → En → Prop} : W (notT c) e Q = W c e fun b e' => Q (!b) e' := by
  unfold notT; rw [W_bind]; simp only [W_pure]
theorem W_andT {c d : M Bool} {Q : Bool → En → Prop} : W (andT c d) e Q = W c e fun b e' => (b = true → W d e' Q) ∧ (b = false → Q false e') := by
  unfold andT; rw [W_bind]; congr 1; funext b e'; cases b <;> simp [W_pure]
theorem W_orT {c d : M Bool} {Q : Bool → En → Prop} : W (orT c d) e Q = W c e fun b e' => (b = true → Q true e') ∧ (b = false → W d e' Q) := by
  unfold orT; rw [W_bind]; congr 1; funext b e'; cases b <;> simp [W_pure]
theorem W_andV {Q : D → En → Prop} : W (andV f g) e Q = W f e fun d e' => ∃ b, d = .bl b ∧ (b = true → W g e' Q) ∧ (b = false → Q (.bl false) e') := by
  unfold andV; rw [W_bind, W_test]; congr 1; funext b e'; congr 1; funext k; cases k <;> simp [W_pure]
theorem W_orV {Q : D → En → Prop} : W (orV f g) e Q = W f e fun d e' => ∃ b, d = .bl b ∧ (b = true → Q (.bl true) e') ∧ (b = false → W g e' Q) := by
  unfold orV; rw [W_bind, W_test]; congr 1; funext b e'; congr 1; funext k; cases k <;> simp [W_pure]
theorem W_notV {Q : D → En → Prop} : W (notV f) e Q = W f e fun d e' => ∃ b, d = .bl b ∧ Q (.bl !b) e' := by
  unfold notV; rw [W_bind, W_test]; simp only [W_pure]
theorem W_bin {op : D → D → M D} {Q : D → En → Prop} : W (binM op f g) e Q = W f e fun a e1 => W g e1 fun b e2 => W (op a b) e2 Q := by
  unfold binM; simp only [W_bind]
theorem W_cons {Q : List D → En → Prop} : W (consM f fa) e Q = W f e fun d e1 => W fa e1 fun ds e2 => Q (d :: ds) e2 := by
  unfold consM; simp only [W_bind, W_pure]
theorem W_nm {i : Nat} {Q : D → En → Prop} : W (nmM i) e Q = ∃ d, e.sl[i]? = some (some d) ∧ Q d e := by
  refine propext ⟨fun ⟨d, e', h, q⟩ => ?_, fun ⟨d, h, q⟩ => ⟨d, e, by unfold nmM; rw [h], q⟩⟩
  unfold nmM at h
  split at h
  · rename_i d0 hd; cases h; exact ⟨_, hd, q⟩
  · cases h
theorem W_run {n : Nat} {F : Fn} {ds : List D} {Q : D → En → Prop} (hn : ds.length = n) {d : D} {c' : Cells} (h : F ds e.c = some (.ok d, c')) : W (runF n F ds) e Q = Q d ⟨e.sl, c'⟩ := W_some (by
  unfold runF; rw [if_pos hn, h])
def FW (F : Fn) (ds : List D) (c : Cells) (Q : D → Cells → Prop) : Prop := ∃ d c', F ds c = some (.ok d, c') ∧ Q d c'
theorem W_fn {n : Nat} {F : Fn} {Q : D → En → Prop} : W (fnM n F fa) e Q = W fa e fun ds e' => ds.length = n ∧ FW F ds e'.c fun d c' => Q d ⟨e'.sl, c'⟩ := by
  unfold fnM; rw [W_bind]; congr 1; funext ds e'
  refine propext ⟨fun ⟨d, e2, h, q⟩ => ?_, fun ⟨hn, d, c', h, q⟩ => by rw [W_run hn h]; exact q⟩
  unfold runF at h
  by_cases hn : ds.length = n
  · rw [if_pos hn] at h
    refine ⟨hn, ?_⟩
    cases hz : F ds e'.c with
    | none => rw [hz] at h; cases h
    | some z =>
      obtain ⟨z, c'⟩ := z
      rw [hz] at h
      cases z <;> cases h
      exact ⟨_, _, hz, q⟩
  · rw [if_neg hn] at h; cases h
theorem W_fnK0 {n : Nat} {F : Fn} {pm : List D → List D} {Q : D → En → Prop} : W (fnK0M n F pm fa) e Q = W fa e fun ds e' => (pm ds).length = n ∧ FW F (pm ds) e'.c fun d c' => Q d ⟨e'.sl, c'⟩ := by
  unfold fnK0M; rw [W_bind]; congr 1; funext ds e'
  have q := @W_fn e' (pureM (pm ds)) n F Q
  unfold fnM at q
  rw [W_bind, W_pure, W_pure] at q
  exact q
theorem W_met {n : Nat} {F : Fn} {Q : D → En → Prop} : W (metM n F f (pureM [])) e Q = W f e fun o e' => ∃ b r, o = .hs b r ∧ 1 = n ∧ FW F [.hs b r] e'.c fun d c' => Q d ⟨e'.sl, c'⟩ := by
  unfold metM; rw [W_bind]; congr 1; funext o e'
  cases o with
  | hs b r =>
    dsimp only
    rw [show bindM (pureM []) (fun ds => runF n F (.hs b r :: ds)) = fnM n F (pureM [.hs b r]) from rfl, W_fn, W_pure]
    exact propext ⟨fun ⟨h, q⟩ => ⟨b, r, rfl, h, q⟩, fun ⟨b', r', h, h1, q⟩ => by cases h; exact ⟨h1, q⟩⟩
  | _ => exact propext ⟨fun ⟨_, _, h, _⟩ => (nomatch h), fun ⟨_, _, h, _⟩ => nomatch h⟩
theorem W_fld {wh : Bool} {Q : D → En → Prop} : W (fldM wh f) e Q = W f e fun o e' => ∃ b r, o = .hs b r ∧ Q (.tup ((if wh then b else r).map D.int)) e' := by
  unfold fldM; rw [W_bind]; congr 1; funext o e'
  cases o with
  | hs b r => dsimp only; rw [W_pure]; exact propext ⟨fun q => ⟨b, r, rfl, q⟩, fun ⟨b', r', h, q⟩ => by cases h; exact q⟩
  | _ => exact propext ⟨fun ⟨_, _, h, _⟩ => (nomatch h), fun ⟨_, _, h, _⟩ => nomatch h⟩
/-! ### new lists -/
theorem W_newL {ds : List D} {Q : D → En → Prop} (h : ds.length ≤ sizeLine) : W (newL ds) e Q = Q (.lst ds) e := W_some (by unfold newL; rw [if_pos h])
theorem W_newT {ds : List D} {Q : D → En → Prop} (h : ds.length ≤ sizeLine) : W (newT ds) e Q = Q (.tup ds) e := W_some (by unfold newT; rw [if_pos h])
theorem W_newC {ds : List D} {Q : D → En → Prop} (h : ds.length ≤ sizeLine) : W (newC ds) e Q = Q (.ow e.c.length) ⟨e.sl, e.c ++ [some ds]⟩ := W_some (by unfold newC; rw [if_pos h])
/-! ### numbers -/
theorem W_add {mk : List D → M D} {i j : Int} {Q : D → En → Prop} : W (addG mk (.int i) (.int j)) e Q = Q (.int (i + j)) e := W_pure
theorem W_sub {i j : Int} {Q : D → En → Prop} : W (subG (.int i) (.int j)) e Q = Q (.int (i - j)) e := W_pure
theorem W_iadd {i j : Int} {Q : D → En → Prop} : W (iaddG (.int i) (.int j)) e Q = Q (.int (i + j)) e := W_pure
theorem W_isub {i j : Int} {Q : D → En → Prop} : W (isubG (.int i) (.int j)) e Q = Q (.int (i - j)) e := W_pure
theorem W_neg {i : Int} {Q : D → En → Prop} : W (negG (.int i)) e Q = Q (.int (-i)) e := W_pure
theorem W_mul {i j : Int} {Q : D → En → Prop} (h : i.natAbs.log2 + j.natAbs.log2 < 1000000) : W (mulG (.int i) (.int j)) e Q = Q (.int (i * j)) e := W_some (by unfold mulG; dsimp only; rw [if_pos h])
theorem W_div {i j : Int} {Q : D → En → Prop} (h : 0 < j ∧ j.natAbs.log2 < 9000) : W (divG (.int i) (.int j)) e Q = Q (.int (i / j)) e := W_some (by unfold divG; dsimp only; rw [if_pos h])
theorem W_mod {i j : Int} {Q : D → En → Prop} (h : 0 < j) : W (modG (.int i) (.int j)) e Q = Q (.int (i % j)) e := W_some (by unfold modG; dsimp only; rw [if_pos h])
theorem W_pow {i j : Int} {Q : D → En → Prop} (h : 0 ≤ j ∧ (Builtin.Int.intBits i : Int) * j ≤ 2 ^ 27) : W (powWG (.int i) (.int j)) e Q = Q (.int (i ^ j.toNat)) e := W_some (by unfold powWG; dsimp only; rw [if_pos h])
theorem W_ord {p : Int → Int → Bool} {i j : Int} {Q : D → En → Prop} : W (ordG p (.int i) (.int j)) e Q = Q (.bl (p i j)) e := W_pure
theorem W_int {i : Int} {Q : D → En → Prop} : W (intG [.int i]) e Q = Q (.int i) e := W_pure
theorem W_min {i j : Int} {Q : D → En → Prop} : W (minG [.int i, .int j]) e Q = Q (.int (if j < i then j else i)) e := W_pure
theorem W_max {i j : Int} {Q : D → En → Prop} : W (maxG [.int i, .int j]) e Q = Q (.int (if j > i then j else i)) e := W_pure
theorem W_bit {i : Int} {Q : D → En → Prop} : W (bitG (.int i)) e Q = Q (.int (Builtin.Int.intBits i : Nat)) e := W_pure
theorem W_isBl {neg : Bool} {a b : Bool} {Q : D → En → Prop} : W (isBlG neg (.bl a) (.bl b)) e Q = Q (.bl (if neg then !decide (a = b) else decide (a = b))) e := W_pure
/-! ### lists -/
theorem W_cat {mk : List D → M D} {x y : List D} {Q : D → En → Prop} : W (addG mk (.lst x) (.lst y)) e Q = W (mk (x ++ y)) e Q := by unfold W addG; simp [lstOf]
theorem W_isB {T : String} {Q : D → En → Prop} : W (isB T f) e Q = W f e fun d e' => okD e'.c d = true ∧ Q (.bl (isTy T d)) e' := by
  unfold isB; rw [W_bind]; congr 1; funext d e'
  by_cases h : okD e'.c d = true
  · rw [W_some (a := .bl (isTy T d)) (e' := e') (by rw [if_pos h])]; simp [h]
  · exact propext ⟨fun ⟨_, _, h', _⟩ => (by dsimp only at h'; rw [if_neg h] at h'; cases h'), fun ⟨h', _⟩ => absurd h' h⟩
theorem W_isLT {Q : D → En → Prop} : W (isLT f) e Q = W f e fun d e' => okD e'.c d = true ∧ Q (.bl (isTy "list" d || isTy "tuple" d)) e' := by
  unfold isLT; rw [W_bind]; congr 1; funext d e'
  by_cases h : okD e'.c d = true
  · rw [W_some (a := .bl (isTy "list" d || isTy "tuple" d)) (e' := e') (by rw [if_pos h])]; simp [h]
  · exact propext ⟨fun ⟨_, _, h', _⟩ => (by dsimp only at h'; rw [if_neg h] at h'; cases h'), fun ⟨h', _⟩ => absurd h' h⟩
theorem W_isH {Q : D → En → Prop} : W (isH f) e Q = W f e fun d e' => okD e'.c d = true ∧ Q (.bl (kin d == 6)) e' := by
  unfold isH; rw [W_bind]; congr 1; funext d e'
  by_cases h : okD e'.c d = true
  · rw [W_some (a := .bl (kin d == 6)) (e' := e') (by rw [if_pos h])]; simp [h]
  · exact propext ⟨fun ⟨_, _, h', _⟩ => (by dsimp only at h'; rw [if_neg h] at h'; cases h'), fun ⟨h', _⟩ => absurd h' h⟩
theorem W_mk {F : D → D → Cells → Option (List Int × List Int)} {d1 d2 : D} {b r : List Int} {Q : D → En → Prop} (h : F d1 d2 e.c = some (b, r)) : W (makG F [d1, d2]) e Q = Q (.hs b r) e := W_some (by unfold makG; dsimp only; rw [h])
theorem W_lenL {x : List D} {Q : D → En → Prop} : W (lenG [.lst x]) e Q = Q (.int x.length) e := W_some (by simp [lenG, rdOf, lstOf])
theorem W_lenT {x : List D} {Q : D → En → Prop} : W (lenG [.tup x]) e Q = Q (.int x.length) e := W_some (by simp [lenG, rdOf, lstOf, tupOf])
theorem W_lenS {x : List Int} {Q : D → En → Prop} : W (lenG [.scr x]) e Q = Q (.int x.length) e := W_some (by simp [lenG, rdOf, lstOf])
theorem W_lenC {k : Nat} {x : List D} {Q : D → En → Prop} (h : e.c[k]? = some (some x)) : W (lenG [.ow k]) e Q = Q (.int x.length) e := W_some (by simp [lenG, rdOf, lstOf, h])
theorem W_ixL {x : List D} {i : Int} {Q : D → En → Prop} {d : D} (h : atI x i = some d) : W (ixG (.lst x) (.int i)) e Q = Q d e := W_some (by simp [ixG, lstOf, h])
theorem W_ixT {x : List D} {i : Int} {Q : D → En → Prop} {d : D} (h : atI x i = some d) : W (ixG (.tup x) (.int i)) e Q = Q d e := W_some (by simp [ixG, lstOf, tupOf, h])
theorem W_ixC {k : Nat} {x : List D} {i : Int} {Q : D → En → Prop} {d : D} (hk : e.c[k]? = some (some x)) (h : atI x i = some d) : W (ixG (.ow k) (.int i)) e Q = Q d e := W_some (by simp [ixG, lstOf, hk, h])
theorem W_part {Q : Option Int → En → Prop} : W (partM f) e Q = W f e fun d e' => ∃ i, d = .int i ∧ Q (some i) e' := by
  unfold partM; rw [W_bind]; congr 1; funext d e'
  cases d with
  | int i => dsimp only; rw [W_pure]; exact propext ⟨fun q => ⟨i, rfl, q⟩, fun ⟨_, h, q⟩ => by cases h; exact q⟩
  | _ => exact propext ⟨fun ⟨_, _, h, _⟩ => (nomatch h), fun ⟨_, h, _⟩ => nomatch h⟩
theorem W_sli {mk : List D → M D} {fl fh : M (Option Int)} {Q : D → En → Prop} : W (sliM mk f fl fh) e Q = W f e fun d e1 => W fl e1 fun lo e2 => W fh e2 fun hi e3 => W (cutG mk d lo hi) e3 Q := by
  unfold sliM; simp only [W_bind]
theorem W_cutL {mk : List D → M D} {x : List D} {lo hi : Option Int} {Q : D → En → Prop} : W (cutG mk (.lst x) lo hi) e Q = W (mk (cutD x lo hi)) e Q := by unfold W cutG; simp [rdOf, lstOf]
theorem W_cutS {mk : List D → M D} {x : List Int} {lo hi : Option Int} {Q : D → En → Prop} : W (cutG mk (.scr x) lo hi) e Q = W (mk (cutD (x.map D.int) lo hi)) e Q := by unfold W cutG; simp [rdOf]
theorem W_listL {mk : List D → M D} {x : List D} {Q : D → En → Prop} : W (listG mk [.lst x]) e Q = W (mk x) e Q := by unfold W listG; simp [lstOf]
theorem W_listT {mk : List D → M D} {x : List D} {Q : D → En → Prop} : W (listG mk [.tup x]) e Q = W (mk x) e Q := by unfold W listG; simp [lstOf, tupOf]
theorem intsOf_map' (ns : List Int) : intsOf (ns.map D.int) = some ns := by
  induction ns with
  | nil => rfl
  | cons n ns ih => rw [List.map_cons, intsOf, ih]; rfl
theorem blsOf_map' (ns : List Bool) : blsOf (ns.map D.bl) = some ns := by
  induction ns with
  | nil => rfl
  | cons n ns ih => rw [List.map_cons, blsOf, ih]; rfl
theorem W_sumL {ns : List Int} {Q : D → En → Prop} : W (sumG [.lst (ns.map D.int)]) e Q = Q (.int ns.sum) e := W_some (by simp [sumG, lstOf, intsOf_map'])
theorem W_allL {bs : List Bool} {Q : D → En → Prop} : W (allG [.lst (bs.map D.bl)]) e Q = Q (.bl (bs.all id)) e := W_some (by simp [allG, lstOf, blsOf_map'])
theorem W_itm {Q : List D → En → Prop} : W (itmM f) e Q = W f e fun d e' => ∃ ds, d = .lst ds ∧ Q ds e' := by
  unfold itmM; rw [W_bind]; congr 1; funext d e'
  cases d with
  | lst x => exact propext ⟨fun ⟨_, _, h, q⟩ => by cases h; exact ⟨_, rfl, q⟩, fun ⟨_, h, q⟩ => by cases h; exact ⟨_, _, rfl, q⟩⟩
  | _ => exact propext ⟨fun ⟨_, _, h, _⟩ => (nomatch h), fun ⟨_, h, _⟩ => nomatch h⟩
theorem W_zip {a b : List D} {Q : List D → En → Prop} (hf : W fa e fun ds e' => ds = [.lst a, .lst b] ∧ Q (zipD a b) e') : W (zipM fa) e Q := by
  unfold zipM; rw [W_bind]
  exact hf.imp fun ds e' ⟨h, q⟩ => by subst h; exact ⟨_, _, rfl, q⟩
theorem W_zip' {Q : List D → En → Prop} : W (zipM fa) e Q = W fa e fun ds e' => ∃ a b, ds = [.lst a, .lst b] ∧ Q (zipD a b) e' := by
  refine propext ⟨fun h => ?_, fun ⟨ds, e', h, a, b, h1, q⟩ => ?_⟩
  · unfold zipM at h; rw [W_bind] at h
    refine h.imp fun ds e' h => ?_
    obtain ⟨x, e2, h, q⟩ := h
    split at h
    · cases h; exact ⟨_, _, rfl, q⟩
    · cases h
  · unfold zipM; rw [W_bind]; subst h1; exact ⟨_, e', h, _, _, rfl, q⟩
theorem W_enu {Q : List D → En → Prop} : W (enuM fa) e Q = W fa e fun ds e' => ∃ a, ds = [.lst a] ∧ Q (enuD 0 a) e' := by
  refine propext ⟨fun h => ?_, fun ⟨ds, e', h, a, h1, q⟩ => ?_⟩
  · unfold enuM at h; rw [W_bind] at h
    refine h.imp fun ds e' h => ?_
    obtain ⟨x, e2, h, q⟩ := h
    split at h
    · cases h; exact ⟨_, rfl, q⟩
    · cases h
  · unfold enuM; rw [W_bind]; subst h1; exact ⟨_, e', h, _, _, rfl, q⟩
theorem W_rng1 {Q : List D → En → Prop} : W (rng1M fa) e Q = W fa e fun ds e' => ∃ n : Int, ds = [.int n] ∧ (-(2 ^ 62) ≤ n ∧ n < 2 ^ 62) ∧ Q (rngD 0 n.toNat) e' := by
  refine propext ⟨fun h => ?_, fun ⟨ds, e', h, n, h1, h2, q⟩ => ?_⟩
  · unfold rng1M at h; rw [W_bind] at h
    refine h.imp fun ds e' h => ?_
    obtain ⟨x, e2, h, q⟩ := h
    split at h
    · split at h
      · rename_i hb; cases h; exact ⟨_, rfl, hb, q⟩
      · cases h
    · cases h
  · unfold rng1M; rw [W_bind]; subst h1; exact ⟨_, e', h, _, _, by dsimp only; rw [if_pos h2], q⟩
theorem W_rng2 {Q : List D → En → Prop} : W (rng2M fa) e Q = W fa e fun ds e' => ∃ a n : Int, ds = [.int a, .int n] ∧ (-(2 ^ 62) ≤ a ∧ a < 2 ^ 62 ∧ -(2 ^ 62) ≤ n ∧ n < 2 ^ 62) ∧ Q (rngD a (n - a).toNat) e' := by
  refine propext ⟨fun h => ?_, fun ⟨ds, e', h, a, n, h1, h2, q⟩ => ?_⟩
  · unfold rng2M at h; rw [W_bind] at h
    refine h.imp fun ds e' h => ?_
    obtain ⟨x, e2, h, q⟩ := h
    split at h
    · split at h
      · rename_i hb; cases h; exact ⟨_, _, rfl, hb, q⟩
      · cases h
    · cases h
  · unfold rng2M; rw [W_bind]; subst h1; exact ⟨_, e', h, _, _, by dsimp only; rw [if_pos h2], q⟩
/-! ### what changes -/
theorem W_app {Q : D → En → Prop} : W (appM f fa) e Q = W f e fun o e1 => ∃ k, o = .ow k ∧ (∃ x, e1.c[k]? = some (some x)) ∧ W fa e1 fun ds e2 => ∃ d es, ds = [d] ∧ e2.c[k]? = some (some es) ∧ es.length < sizeLine ∧ Q .non ⟨e2.sl, e2.c.set k (some (es ++ [d]))⟩ := by
  unfold appM; rw [W_bind]; congr 1; funext o e1
  refine propext ⟨fun ⟨a, e2, h, q⟩ => ?_, fun ⟨k, h1, ⟨x, h2⟩, ds, e2, h3, d, es, h4, h5, h6, q⟩ => ?_⟩
  · cases o with
    | ow k =>
      dsimp only at h
      split at h
      · rename_i x hx
        refine ⟨k, rfl, ⟨x, hx⟩, ?_⟩
        have h' : W (bindM fa _) e1 Q := ⟨a, e2, h, q⟩
        rw [W_bind] at h'
        refine h'.imp fun ds e3 ⟨a3, e4, h3, q3⟩ => ?_
        dsimp only at h3
        split at h3
        · split at h3
          · rename_i es hes
            split at h3
            · rename_i hl; cases h3; exact ⟨_, _, rfl, hes, hl, q3⟩
            · cases h3
          · cases h3
        · cases h3
      · cases h
    | _ => cases h
  · subst h1 h4
    refine ⟨.non, ⟨e2.sl, e2.c.set k (some (es ++ [d]))⟩, ?_, q⟩
    dsimp only
    rw [h2]
    dsimp only
    unfold bindM
    rw [h3]
    dsimp only
    rw [h5]
    dsimp only
    rw [if_pos h6]
theorem W_sas {fo fi : M D} {Q : Ctl → En → Prop} : W (sasM f fo fi) e Q = W f e fun d e1 => W fo e1 fun o e2 => W fi e2 fun i e3 => ∃ k j es n, o = .ow k ∧ i = .int j ∧ e3.c[k]? = some (some es) ∧ ixN es.length j = some n ∧ Q .nx ⟨e3.sl, e3.c.set k (some (es.set n d))⟩ := by
  unfold sasM; simp only [W_bind]; congr 1; funext d e1; congr 1; funext o e2; congr 1; funext i e3
  refine propext ⟨fun ⟨a, e4, h, q⟩ => ?_, fun ⟨k, j, es, n, h1, h2, h3, h4, q⟩ => ?_⟩
  · dsimp only at h
    split at h
    · split at h
      · rename_i es hes
        split at h
        · rename_i n hn; cases h; exact ⟨_, _, _, _, rfl, rfl, hes, hn, q⟩
        · cases h
      · cases h
    · cases h
  · subst h1 h2
    exact ⟨_, _, by dsimp only; rw [h3]; dsimp only; rw [h4], q⟩
theorem W_aug {i : Nat} {g : D → D → M D} {Q : Ctl → En → Prop} : W (augM i g f) e Q = ∃ d, e.sl[i]? = some (some d) ∧ W f e fun y e1 => W (g d y) e1 fun z e2 => Q .nx ⟨e2.sl.set i (some z), e2.c⟩ := by
  refine propext ⟨fun ⟨a, e2, h, q⟩ => ?_, fun ⟨d, h, q⟩ => ?_⟩
  · unfold augM at h
    split at h
    · rename_i d hd
      have h' : W (bindM f _) e Q := ⟨a, e2, h, q⟩
      rw [W_bind] at h'
      refine ⟨d, hd, h'.imp fun y e1 h1 => ?_⟩
      rw [W_bind] at h1
      exact h1.imp fun z e2 ⟨_, _, h2, q2⟩ => by cases h2; exact q2
    · cases h
  · have h' : W (bindM f (fun y => bindM (g d y) fun z en => some (.ok Ctl.nx, ⟨en.sl.set i (some z), en.c⟩))) e Q := by
      rw [W_bind]
      refine q.imp fun y e1 h1 => ?_
      rw [W_bind]
      exact h1.imp fun z e2 q2 => ⟨_, _, rfl, q2⟩
    obtain ⟨a, e', h1, h2⟩ := h'
    exact ⟨a, e', by unfold augM; rw [h]; exact h1, h2⟩
theorem W_par {is : List Nat} {Q : Ctl → En → Prop} : W (parM is fa) e Q = W fa e fun ds e' => ds.length = is.length ∧ Q .nx ⟨setAll e'.sl is ds, e'.c⟩ := by
  unfold parM; rw [W_bind]; congr 1; funext ds e'
  by_cases h : ds.length = is.length
  · rw [W_some (a := .nx) (e' := ⟨setAll e'.sl is ds, e'.c⟩) (by rw [if_pos h])]; simp [h]
  · exact propext ⟨fun ⟨_, _, h', _⟩ => (by dsimp only at h'; rw [if_neg h] at h'; cases h'), fun ⟨h', _⟩ => absurd h' h⟩
/-! ### loops -/
theorem W_for {fi : M (List D)} {t : Tg} {fb : M Ctl} {Q : Ctl → En → Prop} : W (forM fi t fb) e Q = W fi e fun ds e' => W (loopM t fb ds) e' Q := by
  unfold forM; rw [W_bind]
theorem W_loop0 {t : Tg} {fb : M Ctl} {Q : Ctl → En → Prop} : W (loopM t fb []) e Q = Q .nx e := W_some rfl
theorem W_loop1 {t : Tg} {fb : M Ctl} {d : D} {ds : List D} {Q : Ctl → En → Prop} {sl : List (Option D)} (h : t.st d e.sl = some sl) (hb : W fb ⟨sl, e.c⟩ fun c e' => (c = .nx ∨ c = .ct) ∧ W (loopM t fb ds) e' Q) : W (loopM t fb (d :: ds)) e Q := by
  obtain ⟨c, e', h1, h2, a, e2, h3, q⟩ := hb
  refine ⟨a, e2, ?_, q⟩
  unfold loopM
  rw [h]
  dsimp only
  rw [h1]
  rcases h2 with rfl | rfl <;> exact h3
/-- an invariant: I says what holds ahead of the turns that are left -/
theorem W_loop {t : Tg} {fb : M Ctl} {Q : Ctl → En → Prop} (I : List D → En → Prop) : ∀ (ds : List D) (e : En), (∀ d ds e, I (d :: ds) e → ∃ sl, t.st d e.sl = some sl ∧ W fb ⟨sl, e.c⟩ fun c e' => c = .nx ∧ I ds e') → I ds e → (∀ e, I [] e → Q .nx e) → W (loopM t fb ds) e Q
  | [], e, _, h, q => by rw [W_loop0]; exact q e h
  | d :: ds, e, s, h, q => by
    obtain ⟨sl, h1, h2⟩ := s d ds e h
    exact W_loop1 h1 (h2.imp fun c e' ⟨hc, hI⟩ => ⟨.inl hc, W_loop I ds e' s hI q⟩)
def WL (t : Tg) (vs : List Nat) (ft : M Bool) (fe : M D) (sl : List (Option D)) (ds : List D) (c : Cells) (Q : List D → Cells → Prop) : Prop := ∃ ys c', lcLoop t vs ft fe sl ds c = some (ys, c') ∧ Q ys c'
theorem W_lc {cell : Bool} {fi : M (List D)} {t : Tg} {vs : List Nat} {ft : M Bool} {fe : M D} {Q : D → En → Prop} : W (lcM cell fi t vs ft fe) e Q = W fi e fun ds e' => WL t vs ft fe e'.sl ds e'.c fun ys c => ys.length ≤ sizeLine ∧ Q (if cell then .ow c.length else .lst ys) ⟨e'.sl, if cell then c ++ [some ys] else c⟩ := by
  unfold lcM; rw [W_bind]; congr 1; funext ds e'
  refine propext ⟨fun ⟨a, e2, h, q⟩ => ?_, fun ⟨ys, c, h, h1, q⟩ => ?_⟩
  · dsimp only at h
    split at h
    · cases h
    · rename_i ys c hl
      refine ⟨ys, c, hl, ?_⟩
      unfold finL at h
      split at h
      · rename_i hs
        split at h <;> cases h
        · rename_i hc; exact ⟨hs, by rw [if_pos hc, if_pos hc]; exact q⟩
        · rename_i hc; exact ⟨hs, by rw [if_neg hc, if_neg hc]; exact q⟩
      · cases h
  · cases cell with
    | true => exact ⟨.ow c.length, ⟨e'.sl, c ++ [some ys]⟩, by dsimp only; rw [h]; dsimp only; unfold finL; rw [if_pos h1]; rfl, q⟩
    | false => exact ⟨.lst ys, ⟨e'.sl, c⟩, by dsimp only; rw [h]; dsimp only; unfold finL; rw [if_pos h1]; rfl, q⟩
theorem WL_nil {t : Tg} {vs : List Nat} {ft : M Bool} {fe : M D} {sl : List (Option D)} {c : Cells} {Q : List D → Cells → Prop} : WL t vs ft fe sl [] c Q = Q [] c := propext ⟨fun ⟨_, _, h, q⟩ => by cases h; exact q, fun q => ⟨_, _, rfl, q⟩⟩
theorem WL_cons {t : Tg} {vs : List Nat} {fe : M D} {sl sl1 : List (Option D)} {d : D} {ds : List D} {c : Cells} {Q : List D → Cells → Prop} (h : t.st d (wipeD sl vs) = some sl1) (hb : W fe ⟨sl1, c⟩ fun y e => WL t vs (pureM true) fe sl ds e.c fun ys c' => Q (y :: ys) c') : WL t vs (pureM true) fe sl (d :: ds) c Q := by
  obtain ⟨y, e, h1, ys, c', h2, q⟩ := hb
  refine ⟨y :: ys, c', ?_, q⟩
  unfold lcLoop lcTurn
  rw [h]
  dsimp only [pureM]
  rw [h1]
  dsimp only
  rw [h2]
  rfl
/-- each turn makes g d, and nothing changes -/
theorem WL_map {t : Tg} {vs : List Nat} {fe : M D} {sl : List (Option D)} {c : Cells} {Q : List D → Cells → Prop} (g : D → D) : ∀ (ds : List D), (∀ d ∈ ds, ∃ sl1, t.st d (wipeD sl vs) = some sl1 ∧ W fe ⟨sl1, c⟩ fun y e => y = g d ∧ e.c = c) → Q (ds.map g) c → WL t vs (pureM true) fe sl ds c Q
  | [], _, q => by rw [WL_nil]; exact q
  | d :: ds, h, q => by
    obtain ⟨sl1, h1, h2⟩ := h d (List.mem_cons_self ..)
    refine WL_cons h1 (h2.imp fun y e ⟨hy, hc⟩ => ?_)
    rw [hc, hy]
    exact WL_map g ds (fun d hd => h d (List.mem_cons_of_mem _ hd)) q
/-- each turn keeps I -/
theorem WL_inv {t : Tg} {vs : List Nat} {fe : M D} {sl : List (Option D)} {Q : List D → Cells → Prop} (I : List D → List D → Cells → Prop) : ∀ (ds done : List D) (c : Cells), (∀ d rest done c, I (d :: rest) done c → ∃ sl1, t.st d (wipeD sl vs) = some sl1 ∧ W fe ⟨sl1, c⟩ fun y e => I rest (done ++ [y]) e.c) →
    I ds done c → (∀ ys c, I [] (done ++ ys) c → Q ys c) → WL t vs (pureM true) fe sl ds c Q
  | [], done, c, _, h, q => by rw [WL_nil]; exact q [] c (by simpa using h)
  | d :: ds, done, c, s, h, q => by
    obtain ⟨sl1, h1, h2⟩ := s d ds done c h
    refine WL_cons h1 (h2.imp fun y e hI => ?_)
    exact WL_inv I ds (done ++ [y]) e.c s hI fun ys c' hq => q (y :: ys) c' (by simpa using hq)
/-! ### the end of a function -/
theorem lowL_ints (m : Nat) (ns : List Int) : lowL m (ns.map D.int) = true := by
  induction ns with
  | nil => rfl
  | cons n ns ih => rw [List.map_cons, lowL, ih]; rfl
/-- the cells below m are left as they were, or in them is nothing that ends with the function -/
def Keep (m : Nat) (c c' : Cells) : Prop := ∀ k : Nat, k < m → (k < c.length ∧ c'[k]? = c[k]?) ∨ c'[k]? = some none ∨ ∃ ds, c'[k]? = some (some ds) ∧ lowL m ds = true
open Classical in
noncomputable def exitB (c : Cells) (m : Nat) (x : Ctl) (e : En) : Option (Res D × Cells) := if m ≤ e.c.length ∧ Keep m c e.c then (match x with
  | .rt d => (fz m e.c 9 d).map fun d' => (.ok d', e.c.take m)
  | .nx => some (.ok .non, e.c.take m)
  | _ => none) else none
/-- what a function does: its body, and then its end; mx: how many of its new cells live on -/
noncomputable def runBx (N : List Str) (np : Nat) (mx : List D → Nat) (fb : M Ctl) : Fn := fun ds c => if ds.length = np then (match fb ⟨startD N ds, c⟩ with
  | some (.ok x, e) => exitB c (c.length + mx ds) x e
  | _ => none) else none
theorem runBx_ok {N ps : List Str} {mx : List D → Nat} {fb : M Ctl} : ∀ (ds : List D) (c : Cells) (z : Res D × Cells), ds.length = ps.length → runBx N ps.length mx fb ds c = some z → ∃ y, fb ⟨startD N ds, c⟩ = some y ∧ Exit c y z ∧ ∀ n d, z.1 ≠ .exc n d := by
  intro ds c z hn h
  unfold runBx at h
  rw [if_pos hn] at h
  split at h
  · rename_i x e he
    refine ⟨_, he, ?_⟩
    unfold exitB at h
    split at h
    · rename_i hk
      cases x with
      | rt d =>
        dsimp only at h
        cases hd : fz (c.length + mx ds) e.c 9 d with
        | none => rw [hd] at h; cases h
        | some d' =>
          rw [hd] at h
          cases h
          exact ⟨⟨_, Nat.le_add_right _ _, hk.1, rfl, hk.2, d', hd, rfl⟩, fun _ _ q => nomatch q⟩
      | nx =>
        cases h
        exact ⟨⟨_, Nat.le_add_right _ _, hk.1, rfl, hk.2, rfl⟩, fun _ _ q => nomatch q⟩
      | bk => cases h
      | ct => cases h
    · cases h
  · cases h
/-- the function ends with d and the cells c2: Q of them -/
def End (c : Cells) (m : Nat) (Q : D → Cells → Prop) (x : Ctl) (e : En) : Prop := ∃ c2 x' d, e.c = c2 ++ x' ∧ c2.length = m ∧ Keep m c c2 ∧ ((x = .nx ∧ d = .non) ∨ ∃ v, x = .rt v ∧ fz m e.c 9 v = some d) ∧ Q d c2
theorem FW_runBx {N : List Str} {np : Nat} {mx : List D → Nat} {fb : M Ctl} {ds : List D} {c : Cells} {Q : D → Cells → Prop} (hn : ds.length = np) (h : W fb ⟨startD N ds, c⟩ (End c (c.length + mx ds) Q)) : FW (runBx N np mx fb) ds c Q := by
  obtain ⟨x, e, h1, c2, x', d, h2, h3, h4, h5, q⟩ := h
  refine ⟨d, c2, ?_, q⟩
  unfold runBx
  rw [if_pos hn, h1]
  have ht : e.c.take (c.length + mx ds) = c2 := by rw [h2, ← h3]; simp
  have hl : c.length + mx ds ≤ e.c.length := by rw [h2, List.length_append, h3]; omega
  have hk : Keep (c.length + mx ds) c e.c := fun k hk => by
    rw [h2, List.getElem?_append_left (by rw [h3]; exact hk)]
    exact h4 k hk
  dsimp only
  unfold exitB
  rw [if_pos ⟨hl, hk⟩]
  rcases h5 with ⟨rfl, rfl⟩ | ⟨v, rfl, h6⟩
  · dsimp only; rw [ht]
  · dsimp only; rw [h6, ht]; rfl
theorem Keep.refl (c : Cells) : Keep c.length c c := fun _ h => .inl ⟨h, rfl⟩
theorem FW.imp {F : Fn} {ds : List D} {c : Cells} {Q Q' : D → Cells → Prop} (h : FW F ds c Q) (m : ∀ d c, Q d c → Q' d c) : FW F ds c Q' := let ⟨d, c', h1, h2⟩ := h; ⟨d, c', h1, m d c' h2⟩
/-- a function that leaves the cells as they are -/
theorem End.plain {c : Cells} {Q : D → Cells → Prop} {v d : D} {e : En} {x' : Cells} (h1 : e.c = c ++ x') (h2 : fz c.length e.c 9 v = some d) (q : Q d c) : End c (c.length + 0) Q (.rt v) e := ⟨c, x', d, h1, rfl, Keep.refl c, .inr ⟨v, rfl, h2⟩, q⟩
theorem End.none {c : Cells} {Q : D → Cells → Prop} {e : En} {x' : Cells} (h1 : e.c = c ++ x') (q : Q .non c) : End c (c.length + 0) Q .nx e := ⟨c, x', .non, h1, rfl, Keep.refl c, .inl ⟨rfl, rfl⟩, q⟩
theorem mapO_self {f : D → Option D} : ∀ (ds : List D), (∀ d ∈ ds, f d = some d) → mapO f ds = some ds
  | [], _ => rfl
  | d :: ds, h => by rw [mapO, h d (List.mem_cons_self ..), mapO_self ds fun d hd => h d (List.mem_cons_of_mem _ hd)]
theorem fz_ints {m n : Nat} {c : Cells} (ns : List Int) : fz m c (n + 2) (.lst (ns.map D.int)) = some (.lst (ns.map D.int)) := by
  rw [fz]
  rw [mapO_self _ fun d hd => ?_]
  · rfl
  · obtain ⟨i, _, rfl⟩ := List.mem_map.mp hd
    rfl
theorem fz_cell {m n k : Nat} {c : Cells} (h : ¬ k < m) (ns : List Int) (hk : c[k]? = some (some (ns.map D.int))) : fz m c (n + 2) (.ow k) = some (.lst (ns.map D.int)) := by
  rw [fz]
  rw [if_neg h, hk]
  dsimp only
  rw [mapO_self _ fun d hd => ?_]
  · rfl
  · obtain ⟨i, _, rfl⟩ := List.mem_map.mp hd
    rfl
end
end CD

/-! CDm: the steps' readings with their conditions; what is equal. -/
namespace CD
open PySem PySem.Spec PyProof.Rows L2
section
variable {e : En} {Q : D → En → Prop}
theorem W_opt {α : Type} {f : M α} {p : Prop} [Decidable p] {x : α × En} {Q : α → En → Prop} (h : f e = if p then some (.ok x.1, x.2) else none) : W f e Q = (p ∧ Q x.1 x.2) := by
  refine propext ⟨fun ⟨a, e', h1, q⟩ => ?_, fun ⟨hp, q⟩ => ⟨_, _, by rw [h, if_pos hp], q⟩⟩
  rw [h] at h1
  split at h1
  · rename_i hp; cases h1; exact ⟨hp, q⟩
  · cases h1
theorem Wa_newL {ds : List D} : W (newL ds) e Q = (ds.length ≤ sizeLine ∧ Q (.lst ds) e) := W_opt (x := (_, _)) rfl
theorem Wa_newT {ds : List D} : W (newT ds) e Q = (ds.length ≤ sizeLine ∧ Q (.tup ds) e) := W_opt (x := (_, _)) rfl
theorem Wa_newC {ds : List D} : W (newC ds) e Q = (ds.length ≤ sizeLine ∧ Q (.ow e.c.length) ⟨e.sl, e.c ++ [some ds]⟩) := W_opt (x := (_, _)) rfl
theorem Wa_mul {i j : Int} : W (mulG (.int i) (.int j)) e Q = (i.natAbs.log2 + j.natAbs.log2 < 1000000 ∧ Q (.int (i * j)) e) := W_opt (x := (_, _)) rfl
theorem Wa_div {i j : Int} : W (divG (.int i) (.int j)) e Q = ((0 < j ∧ j.natAbs.log2 < 9000) ∧ Q (.int (i / j)) e) := W_opt (x := (_, _)) rfl
theorem Wa_mod {i j : Int} : W (modG (.int i) (.int j)) e Q = (0 < j ∧ Q (.int (i % j)) e) := W_opt (x := (_, _)) rfl
theorem Wa_pow {i j : Int} : W (powWG (.int i) (.int j)) e Q = ((0 ≤ j ∧ (Builtin.Int.intBits i : Int) * j ≤ 2 ^ 27) ∧ Q (.int (i ^ j.toNat)) e) := W_opt (x := (_, _)) rfl
theorem Wa_ixL {x : List D} {i : Int} : W (ixG (.lst x) (.int i)) e Q = ∃ d, atI x i = some d ∧ Q d e := by
  refine propext ⟨fun ⟨a, e', h1, q⟩ => ?_, fun ⟨d, h, q⟩ => by rw [W_ixL h]; exact q⟩
  simp only [ixG, lstOf] at h1
  split at h1
  · rename_i d hd; cases h1; exact ⟨_, hd, q⟩
  · cases h1
theorem Wa_ixT {x : List D} {i : Int} : W (ixG (.tup x) (.int i)) e Q = ∃ d, atI x i = some d ∧ Q d e := by
  refine propext ⟨fun ⟨a, e', h1, q⟩ => ?_, fun ⟨d, h, q⟩ => by rw [W_ixT h]; exact q⟩
  simp only [ixG, lstOf, tupOf] at h1
  split at h1
  · rename_i d hd; cases h1; exact ⟨_, hd, q⟩
  · cases h1
theorem Wa_ixC {k : Nat} {i : Int} : W (ixG (.ow k) (.int i)) e Q = ∃ x, e.c[k]? = some (some x) ∧ ∃ d, atI x i = some d ∧ Q d e := by
  refine propext ⟨fun ⟨a, e', h1, q⟩ => ?_, fun ⟨x, hx, d, h, q⟩ => by rw [W_ixC hx h]; exact q⟩
  simp only [ixG] at h1
  split at h1
  · rename_i x hx
    split at h1
    · rename_i d hd
      cases h1
      unfold lstOf at hx
      dsimp only at hx
      split at hx
      · rename_i y hy; cases hx; exact ⟨_, hy, _, hd, q⟩
      · cases hx
    · cases h1
  · simp only [tupOf] at h1
    cases h1
theorem Wa_lenC {k : Nat} : W (lenG [.ow k]) e Q = ∃ x, e.c[k]? = some (some x) ∧ Q (.int x.length) e := by
  refine propext ⟨fun ⟨a, e', h1, q⟩ => ?_, fun ⟨x, hx, q⟩ => by rw [W_lenC hx]; exact q⟩
  simp only [lenG, rdOf, lstOf, tupOf] at h1
  split at h1
  · rename_i x hx
    cases h1
    split at hx
    · rename_i y hy; cases hx; exact ⟨_, hy, q⟩
    · cases hx
  · cases h1
theorem Wa_mk {F : D → D → Cells → Option (List Int × List Int)} {d1 d2 : D} : W (makG F [d1, d2]) e Q = ∃ b r, F d1 d2 e.c = some (b, r) ∧ Q (.hs b r) e := by
  refine propext ⟨fun ⟨a, e', h1, q⟩ => ?_, fun ⟨b, r, h, q⟩ => by rw [W_mk h]; exact q⟩
  unfold makG at h1
  dsimp only at h1
  split at h1
  · rename_i b r h; cases h1; exact ⟨b, r, h, q⟩
  · cases h1
theorem W_frnC {i k : Nat} {ds : List D} (h : e.sl[i]? = some (some (.ow k))) (hc : e.c[k]? = some (some ds)) (hl : lowL 0 ds = true) : W (frnM i) e Q = Q (.lst ds) ⟨e.sl.set i (some (.lst ds)), e.c.set k none⟩ := W_some (by unfold frnM; rw [h]; dsimp only; rw [hc]; dsimp only; rw [if_pos hl])
theorem W_cutC {mk : List D → M D} {k : Nat} {lo hi : Option Int} : W (cutG mk (.ow k) lo hi) e Q = ∃ x, e.c[k]? = some (some x) ∧ W (mk (cutD x lo hi)) e Q := by
  refine propext ⟨fun ⟨a, e', h1, q⟩ => ?_, fun ⟨x, hx, a, e', h, q⟩ => ⟨a, e', ?_, q⟩⟩
  · simp only [cutG, rdOf, lstOf] at h1
    split at h1
    · rename_i x hx
      split at hx
      · rename_i y hy; cases hx; exact ⟨_, hy, a, e', h1, q⟩
      · cases hx
    · cases h1
  · simp only [cutG, rdOf, lstOf, hx]
    exact h
/-! ### equal -/
theorem toP_ints {c : Cells} {n : Nat} (ns : List Int) : toP c (n + 2) (.lst (ns.map D.int)) = some (.list (ns.map PyData.int)) := by
  rw [toP]
  have h : ∀ ns : List Int, mapO (toP c (n + 1)) (ns.map D.int) = some (ns.map PyData.int) := fun ns => by
    induction ns with
    | nil => rfl
    | cons i ns ih => rw [List.map_cons, mapO, ih]; rfl
  rw [h]
  rfl
theorem canLay_ints (ns : List Int) : PyData.canLayAll0 (ns.map PyData.int) = true := by
  induction ns with
  | nil => simp [PyData.canLayAll0]
  | cons i ns ih => simp [PyData.canLayAll0, PyData.canLay0, ih]
theorem depth_ints (ns : List Int) : PyData.depthAll (ns.map PyData.int) = 0 := by
  induction ns with
  | nil => simp [PyData.depthAll]
  | cons i ns ih => simp [PyData.depthAll, PyData.depth, ih]
theorem shaped_ints (ns : List Int) : PySem.SeqAt.shaped (.list (ns.map PyData.int)) = true := by
  simp [PySem.SeqAt.shaped, PyData.canLay0, PyData.depth, canLay_ints, depth_ints]
theorem eqv_ints (a b : List Int) : PyData.eqv (.list (a.map PyData.int)) (.list (b.map PyData.int)) = decide (a = b) := by
  simp only [PyData.eqv]
  induction a generalizing b with
  | nil => cases b <;> simp [PyData.eqvAll]
  | cons i a ih =>
    cases b with
    | nil => simp [PyData.eqvAll]
    | cons j b => simp only [List.map_cons, PyData.eqvAll, PyData.eqv, ih, List.cons.injEq, Bool.decide_and]; rw [show (i == j) = decide (i = j) from rfl]
theorem W_eqL {neg : Bool} {a b : List Int} : W (eqG neg (.lst (a.map D.int)) (.lst (b.map D.int))) e Q = Q (.bl (if neg then !decide (a = b) else decide (a = b))) e := W_some (by
  unfold eqG
  rw [toP_ints, toP_ints]
  dsimp only
  rw [if_pos ⟨shaped_ints a, shaped_ints b⟩, eqv_ints])
theorem W_eqI {neg : Bool} {a b : Int} : W (eqG neg (.int a) (.int b)) e Q = Q (.bl (if neg then !decide (a = b) else decide (a = b))) e := W_some (by
  unfold eqG
  rw [show toP e.c 9 (.int a) = some (.int a) from rfl, show toP e.c 9 (.int b) = some (.int b) from rfl]
  simp [PySem.SeqAt.shaped, PyData.canLay0, PyData.depth, PyData.eqv]
  rfl)
theorem W_eqB {neg : Bool} {a b : Bool} : W (eqG neg (.bl a) (.bl b)) e Q = Q (.bl (if neg then !decide (a = b) else decide (a = b))) e := W_some (by
  unfold eqG
  rw [show toP e.c 9 (.bl a) = some (.bool a) from rfl, show toP e.c 9 (.bl b) = some (.bool b) from rfl]
  simp [PySem.SeqAt.shaped, PyData.canLay0, PyData.depth, PyData.eqv]
  cases a <;> cases b <;> cases neg <;> rfl)
theorem ty_ii {i : Int} : isTy "int" (.int i) = true := by simp [isTy, isTn, kin]
theorem ty_bi {i : Int} : isTy "bool" (.int i) = false := by simp [isTy, isTn, kin]
theorem ty_li {i : Int} : isTy "list" (.int i) = false := by simp [isTy, isTn, kin]
theorem ty_ti {i : Int} : isTy "tuple" (.int i) = false := by simp [isTy, isTn, kin]
theorem ty_ib {i : Bool} : isTy "int" (.bl i) = true := by simp [isTy, isTn, kin]
theorem ty_bb {i : Bool} : isTy "bool" (.bl i) = true := by simp [isTy, isTn, kin]
theorem ty_lb {i : Bool} : isTy "list" (.bl i) = false := by simp [isTy, isTn, kin]
theorem ty_tb {i : Bool} : isTy "tuple" (.bl i) = false := by simp [isTy, isTn, kin]
theorem ty_ll {i : List D} : isTy "list" (.lst i) = true := by simp [isTy, isTn, kin]
theorem ty_tl {i : List D} : isTy "tuple" (.lst i) = false := by simp [isTy, isTn, kin]
theorem ty_dl {d : D} : isTy "dict" d = false := by simp [isTy, isTn]
theorem okd_int {c : Cells} {i : Int} : okD c (.int i) = true := rfl
theorem okd_bl {c : Cells} {i : Bool} : okD c (.bl i) = true := rfl
theorem okd_lst {c : Cells} {i : List D} : okD c (.lst i) = true := rfl
theorem okd_hs {c : Cells} {a b : List Int} : okD c (.hs a b) = true := rfl
theorem kin_hs {a b : List Int} : (kin (.hs a b) == 6) = true := rfl
end
end CD
namespace CD
open PySem PySem.Spec PyProof.Rows L2
theorem szl {n : Nat} (h : n ≤ 1000) : n ≤ sizeLine := Nat.le_trans h (by decide)
section
variable {β : Type} {t : Tg} {vs : List Nat} {fe : M D} {sl : List (Option D)} {c : Cells} {Q : List D → Cells → Prop}
theorem WL_ints (g : Int → β) (k : β → D) (ns : List Int) (h : ∀ i ∈ ns, ∃ sl1, t.st (.int i) (wipeD sl vs) = some sl1 ∧ W fe ⟨sl1, c⟩ fun y e => y = k (g i) ∧ e.c = c) (q : Q ((ns.map g).map k) c) : WL t vs (pureM true) fe sl (ns.map D.int) c Q := by
  have e : (ns.map g).map k = (ns.map D.int).map fun d => match d with | .int i => k (g i) | d => d := by rw [List.map_map, List.map_map]; rfl
  rw [e] at q
  refine WL_map _ _ (fun d hd => ?_) q
  obtain ⟨i, hi, rfl⟩ := List.mem_map.mp hd
  exact h i hi
theorem zipD_mem : ∀ {as bs : List Int} {d : D}, d ∈ zipD (as.map D.int) (bs.map D.int) → ∃ i j, d = .tup [.int i, .int j] ∧ (i, j) ∈ as.zip bs
  | [], _, _, h => by simp [zipD] at h
  | _ :: _, [], _, h => by simp [zipD] at h
  | a :: as, b :: bs, d, h => by
    simp only [List.map_cons, zipD, List.mem_cons] at h
    rcases h with rfl | h
    · exact ⟨a, b, rfl, by simp⟩
    · obtain ⟨i, j, h1, h2⟩ := zipD_mem h
      exact ⟨i, j, h1, by simp [h2]⟩
theorem WL_zip (g : Int → Int → β) (k : β → D) (as bs : List Int) (h : ∀ i j, (i, j) ∈ as.zip bs → ∃ sl1, t.st (.tup [.int i, .int j]) (wipeD sl vs) = some sl1 ∧ W fe ⟨sl1, c⟩ fun y e => y = k (g i j) ∧ e.c = c) (q : Q ((List.zipWith g as bs).map k) c) :
    WL t vs (pureM true) fe sl (zipD (as.map D.int) (bs.map D.int)) c Q := by
  have e : ∀ as bs : List Int, (List.zipWith g as bs).map k = (zipD (as.map D.int) (bs.map D.int)).map fun d => match d with | .tup [.int i, .int j] => k (g i j) | d => d := fun as => by
    induction as with
    | nil => intro bs; rfl
    | cons a as ih =>
      intro bs
      cases bs with
      | nil => rfl
      | cons b bs => simp only [List.zipWith_cons_cons, List.map_cons, zipD, ih]
  rw [e] at q
  refine WL_map _ _ (fun d hd => ?_) q
  obtain ⟨i, j, rfl, hm⟩ := zipD_mem hd
  exact h i j hm
end
end CD

/-! CDn: == and != of two houses; min and max of a pair. -/
namespace CD
open PySem PySem.Spec PyProof.Rows L2
def hsEqG (neg : Bool) : D → D → M D
  | .hs b r, .hs b' r' => pureM (.bl (if neg then !decide (b = b' ∧ r = r') else decide (b = b' ∧ r = r')))
  | _, _ => failM
def min1G : List D → M D
  | [.tup [.int i, .int j]] => pureM (.int (if j < i then j else i))
  | _ => failM
def max1G : List D → M D
  | [.tup [.int i, .int j]] => pureM (.int (if j > i then j else i))
  | _ => failM
section
variable {e : En} {Q : D → En → Prop}
theorem W_hsEq {neg : Bool} {b r b' r' : List Int} : W (hsEqG neg (.hs b r) (.hs b' r')) e Q = Q (.bl (if neg then !decide (b = b' ∧ r = r') else decide (b = b' ∧ r = r'))) e := W_pure
theorem W_min1 {i j : Int} : W (min1G [.tup [.int i, .int j]]) e Q = Q (.int (if j < i then j else i)) e := W_pure
theorem W_max1 {i j : Int} : W (max1G [.tup [.int i, .int j]]) e Q = Q (.int (if j > i then j else i)) e := W_pure
end
end CD

/-! CDo: House.__init__. -/
namespace CD
open PySem PySem.Spec PyProof.Rows L2
section
variable {P : Program} {w : World} {K : PySem.W.Frag} {mg : Str → Option Value} {base : Heap} {C : Hc} {xa : Str → Addr}
/-- a test, a value: at data, with the same names behind it -/
theorem run_here {α β : Type} {G : Par} {Ra : Rel α β} {f : M α} {r : List Addr} {en : En} {σ : L2.St} {H : Hp} {a : α} {Q : β → Hp → Prop} (R : Rl G r en σ H) (e : f en = some (.ok a, en)) (q : ∀ H' v, Stp G.S r en.c H r en.c H' → Rl G r en σ H' → Ra G r en.c H' a v → Q v H') : tG G Ra f σ H Q := by
  refine ⟨r, en, _, R, e, fun r' H' s R' => ?_⟩
  have hr : r' = r := by
    obtain ⟨t, rfl⟩ := s.ext
    have l1 := R.cr.len
    have l2 := R'.cr.len
    rw [List.length_append] at l2
    have : t = [] := List.eq_nil_of_length_eq_zero (by dsimp only at l2; omega)
    subst this
    rw [List.append_nil]
  subst hr
  exact fun v hv => q H' v s R' hv
theorem init_ok {x qual : Str} {st : Stmt} {f : Addr} {fd : FuncData} {N ps : List Str} {k m : Nat} {F : D → D → Cells → Option (List Int × List Int)} {c1 c2 : M Bool} {g1 g2 : M D} (hk : HK C) (hC : C.K = K)
    (Fu : Fun K x qual st f fd) (hps : ps.length = 3) (hN : N.length = 3 + m) (Sc : FnScope N ps (defScope st))
    (der : ∀ (cdv : Value) (A : Around) (outer : List Env) (s : Shared) (H : Hp) (E : XK) (S : Addr → Prop), Room k (A.deeper (envOfC qual (defScope st) s.heap.objs.size f cdv)) →
      PSs (cxOf CX0 P w K mg base N qual (defScope st) f cdv A outer s H E).nox (defBody st)
        (tSeq (tIfS (tT ⟨K, C, E0, xa, S⟩ c1) tNever tNext) (tSeq (tIfS (tT ⟨K, C, E0, xa, S⟩ c2) tNever tNext) (tSeq (sFld K (tVar 0) (tE ⟨K, C, E0, xa, S⟩ g1) "_bases") (sFld K (tVar 0) (tE ⟨K, C, E0, xa, S⟩ g2) "_rooms")))))
    (hF : ∀ d1 d2 c b r, F d1 d2 c = some (b, r) → let en : En := ⟨none :: some d1 :: some d2 :: List.replicate m none, c⟩
      c1 en = some (.ok false, en) ∧ c2 en = some (.ok false, en) ∧ g1 en = some (.ok (.tup (b.map D.int)), en) ∧ g2 en = some (.ok (.tup (r.map D.int)), en)) : FnOk P w K mg base CX0 (k + 1) f fd ps (spI C F) := by
  refine Fu.ok Sc (fun vs H Q E h => ?_) (fun cdv A outer s H vs Q E hr h => ?_)
  · obtain ⟨S, r, c, d1, d2, x, dx, v1, v2, b, rr, rfl, _⟩ := h
    rw [hps]; rfl
  · obtain ⟨S, r, c, d1, d2, x, dx, v1, v2, b, rr, rfl, hS, R, hx, h1, h2, hf, q⟩ := h
    obtain ⟨k1, k2, k3, k4⟩ := hF d1 d2 c b rr hf
    refine ⟨_, der cdv A outer s H E (addS S x) hr, ?_⟩
    have hst : L2.start N [.ref x, v1, v2] = some (.ref x) :: some v1 :: some v2 :: List.replicate m none := by
      unfold L2.start
      simp [hN]
    have R0 : Rl ⟨K, C, E0, xa, addS S x⟩ r ⟨none :: some d1 :: some d2 :: List.replicate m none, c⟩ (L2.start N [.ref x, v1, v2]) H := by
      rw [hst]
      refine ⟨R, by simp, fun i d e => ?_⟩
      match i with
      | 0 => cases e
      | 1 => cases e; exact ⟨v1, rfl, h1⟩
      | 2 => cases e; exact ⟨v2, rfl, h2⟩
      | i + 3 =>
        have e : (List.replicate m (none : Option D))[i]? = some (some d) := e
        rw [List.getElem?_replicate] at e
        split at e <;> cases e
    have h0 : (L2.start N [.ref x, v1, v2])[0]? = some (some (.ref x)) := by rw [hst]; rfl
    refine run_here R0 k1 fun H1 t1 s1 R1 e1 => ?_
    have e1 : false = t1 := e1
    subst e1
    rw [if_neg (by decide)]
    refine run_here R1 k2 fun H2 t2 s2 R2 e2 => ?_
    have e2 : false = t2 := e2
    subst e2
    rw [if_neg (by decide)]
    refine run_here R2 k3 fun H3 y3 s3 R3 e3 => ?_
    have p3 := (s1.trans s2).trans s3
    have hx3 : H3 x = some (.ins C.a dx []) := p3.ks x _ (.inr rfl) hx
    refine ⟨_, h0, x, C.a, dx, [], rfl, hx3, hC ▸ hk.cl, hC ▸ hk.nB, by decide, ?_⟩
    have e3 : Rp C r (hid (addS S x) r c H3) (.tup (b.map D.int)) y3 := e3
    have w4 : Same (hid (addS S x) r c H3) (hid (addS S x) r c (upd H3 x (.ins C.a dx (putF "_bases" y3 [])))) := hid_wr
    have R4 : Rl ⟨K, C, E0, xa, addS S x⟩ r ⟨none :: some d1 :: some d2 :: List.replicate m none, c⟩ (L2.start N [.ref x, v1, v2]) (upd H3 x (.ins C.a dx (putF "_bases" y3 []))) := ⟨R3.cr.wr, R3.len, fun i d e => let ⟨v, z1, z2⟩ := R3.slot i d e; ⟨v, z1, z2.mono List.prefix_rfl w4⟩⟩
    refine run_here R4 k4 fun H5 y5 s5 R5 e5 => ?_
    have e5 : Rp C r (hid (addS S x) r c H5) (.tup (rr.map D.int)) y5 := e5
    have hx5 : H5 x = some (.ins C.a dx (putF "_bases" y3 [])) := s5.ks x _ (.inr rfl) upd_same
    refine ⟨_, h0, x, C.a, dx, _, rfl, hx5, hC ▸ hk.cl, hC ▸ hk.nR, by show 1 < 1000; decide, ?_⟩
    have w6 : Same (hid (addS S x) r c H5) (hid (addS S x) r c (upd H5 x (.ins C.a dx (putF "_rooms" y5 (putF "_bases" y3 []))))) := hid_wr
    cases e3 with
    | @tup t1 vs1 _ z1 z2 =>
      cases e5 with
      | @tup t2 vs2 _ z3 z4 =>
        have a1 := z2.ints
        have a2 := z4.ints
        subst a1 a2
        have w5 : Same (hid (addS S x) r c H3) (hid (addS S x) r c H5) := w4.trans s5.sm
        refine q _ t1 t2 R5.cr.wr ((p3.sm.trans w5).trans w6) (fun a ha => ?_) (fun a o hSa ha => ?_) ?_ (w6 _ _ (w5 _ _ z1)) (w6 _ _ z3)
        · have := s5.al a (by
            by_cases e : a = x
            · subst e; rw [upd_same]; simp
            · rw [upd_ne e]; exact p3.al a ha)
          by_cases e : a = x
          · subst e; rw [upd_same]; simp
          · rw [upd_ne e]; exact this
        · have e : a ≠ x := fun e => hS (e ▸ hSa)
          rw [upd_ne e]
          exact s5.ks a o (.inl hSa) (by rw [upd_ne e]; exact p3.ks a o (.inl hSa) ha)
        · rw [upd_same]
          rfl
end
end CD

/-! CDp: the greater and the lesser one of a pair. -/
namespace CD
open PySem PySem.Spec PyProof.Rows L2
section
variable {prog : Program} {w : World} {A : Around} {E : Value → Shared → Prop} {s : Shared} {p : Addr} {a b : Int} {t u : Tok} {Q : Value → Shared → Prop}
theorem pair_fp (hlt : p < s.heap.objs.size) {o : Obj} : ∀ c ∈ [s.heap.objs.size, p], c < (s.heap.push o).objs.size := fun c hc => by
  have e : (s.heap.push o).objs.size = s.heap.objs.size + 1 := Heap.size_push ..
  have : c = s.heap.objs.size ∨ c = p := by simpa using hc
  rw [e]
  exact this.elim (fun q => q ▸ Nat.lt_succ_self _) fun q => q ▸ Nat.lt_succ_of_lt hlt
theorem pair_old {h' : Heap} {ob : Obj} (hk : ∀ c o, c ∉ [s.heap.objs.size] → (s.heap.push ob).get? c = some o → h'.get? c = some o) : ∀ c o, s.heap.get? c = some o → h'.get? c = some o := fun c o e => by
  have hne : c ≠ s.heap.objs.size := Nat.ne_of_lt (Heap.lt_size e)
  exact hk c o (by simpa using hne) (Heap.get?_push_of_some _ e)
theorem max_pair (hh : A.handled = none) (hT : s.heap.IsTuple p (intItems #[(a, t), (b, u)])) (h : ∀ h' tk, (∀ c o, s.heap.get? c = some o → h'.get? c = some o) → Q (if b > a then .int b u else .int a t) { s with heap := h', toks := tk }) :
    wpAny (model prog w) A (call (.builtin "max") [.ref p]) Q E s := by
  have hlt : p < s.heap.objs.size := by obtain ⟨_, e, _⟩ := hT; exact Heap.lt_size e
  refine call_max_walk (wpAny_pyIter_tuple hT ⟨_, [_, p], [_], _, _, _, _, rfl, Walks.tuple (A := A.in1) hh _ p (Nat.ne_of_lt hlt) (intItems #[(a, t), (b, u)]), ⟨⟨_, Heap.get?_push_size _ rfl, rfl, rfl⟩, hT.push _⟩, pair_fp hlt, by simp [intItems], CmpOf.ints_gt (numAt #[(a, t), (b, u)]) (fun _ _ z => intItems_at z), fun v h' tk hP hk => ?_⟩)
  have q := h h' tk (pair_old hk)
  have hz : (intItems #[(a, t), (b, u)]).size - 1 = 1 := by simp [intItems]
  rw [hz] at hP
  have hv : v = if b > a then Value.int b u else Value.int a t := by
    by_cases k : b > a
    · have e : argBest (fun i j => decide (numAt #[(a, t), (b, u)] i > numAt #[(a, t), (b, u)] j)) 1 = 1 := by simp [argBest, numAt, k]
      rw [e] at hP; simpa [intItems, k] using hP.symm
    · have e : argBest (fun i j => decide (numAt #[(a, t), (b, u)] i > numAt #[(a, t), (b, u)] j)) 1 = 0 := by simp [argBest, numAt, k]
      rw [e] at hP; simpa [intItems, k] using hP.symm
  rw [hv]; exact q
theorem min_pair (hh : A.handled = none) (hT : s.heap.IsTuple p (intItems #[(a, t), (b, u)])) (h : ∀ h' tk, (∀ c o, s.heap.get? c = some o → h'.get? c = some o) → Q (if b < a then .int b u else .int a t) { s with heap := h', toks := tk }) :
    wpAny (model prog w) A (call (.builtin "min") [.ref p]) Q E s := by
  have hlt : p < s.heap.objs.size := by obtain ⟨_, e, _⟩ := hT; exact Heap.lt_size e
  refine call_min_walk (wpAny_pyIter_tuple hT ⟨_, [_, p], [_], _, _, _, _, rfl, Walks.tuple (A := A.in1) hh _ p (Nat.ne_of_lt hlt) (intItems #[(a, t), (b, u)]), ⟨⟨_, Heap.get?_push_size _ rfl, rfl, rfl⟩, hT.push _⟩, pair_fp hlt, by simp [intItems], CmpOf.ints_lt (numAt #[(a, t), (b, u)]) (fun _ _ z => intItems_at z), fun v h' tk hP hk => ?_⟩)
  have q := h h' tk (pair_old hk)
  have hz : (intItems #[(a, t), (b, u)]).size - 1 = 1 := by simp [intItems]
  rw [hz] at hP
  have hv : v = if b < a then Value.int b u else Value.int a t := by
    by_cases k : b < a
    · have e : argBest (fun i j => decide (numAt #[(a, t), (b, u)] i < numAt #[(a, t), (b, u)] j)) 1 = 1 := by simp [argBest, numAt, k]
      rw [e] at hP; simpa [intItems, k] using hP.symm
    · have e : argBest (fun i j => decide (numAt #[(a, t), (b, u)] i < numAt #[(a, t), (b, u)] j)) 1 = 0 := by simp [argBest, numAt, k]
      rw [e] at hP; simpa [intItems, k] using hP.symm
  rw [hv]; exact q
end
section
variable {X : Cx} {G : Par}
def rPairMax : List V → Hp → VK → Prop := fun vs H Q => ∃ (p : Addr) (i j : Int), vs = [V.ref p] ∧ H p = some (.tup [.int i, .int j]) ∧ Q (.int (if j > i then j else i)) H
def rPairMin : List V → Hp → VK → Prop := fun vs H Q => ∃ (p : Addr) (i j : Int), vs = [V.ref p] ∧ H p = some (.tup [.int i, .int j]) ∧ Q (.int (if j < i then j else i)) H
theorem call_max1 (hc : X.calm = true) : CallR X (.builtin "max") rPairMax := by
  intro pins s σ H vs us Q I r h
  obtain ⟨p, i, j, rfl, hs, q⟩ := h
  obtain ⟨its, rv, hl, _⟩ := I.tuple (SqT.of hs)
  rw [Vals.ref1 r]
  cases rv with
  | cons r1 rv =>
    cases rv with
    | cons r2 rv =>
      cases rv
      obtain ⟨t1, rfl⟩ := r1
      obtain ⟨t2, rfl⟩ := r2
      refine max_pair (a := i) (t := t1) (b := j) (u := t2) (I.ok.hd hc) (by obtain ⟨o, h1, h2, n, h3⟩ := hl; exact ⟨o, h1, h2, n, by simpa [intItems] using h3⟩) fun h' tk hk => ?_
      refine ⟨.int (if j > i then j else i), H, I.kept hk, ?_, q⟩
      split <;> exact ⟨_, rfl⟩
theorem call_min1 (hc : X.calm = true) : CallR X (.builtin "min") rPairMin := by
  intro pins s σ H vs us Q I r h
  obtain ⟨p, i, j, rfl, hs, q⟩ := h
  obtain ⟨its, rv, hl, _⟩ := I.tuple (SqT.of hs)
  rw [Vals.ref1 r]
  cases rv with
  | cons r1 rv =>
    cases rv with
    | cons r2 rv =>
      cases rv
      obtain ⟨t1, rfl⟩ := r1
      obtain ⟨t2, rfl⟩ := r2
      refine min_pair (a := i) (t := t1) (b := j) (u := t2) (I.ok.hd hc) (by obtain ⟨o, h1, h2, n, h3⟩ := hl; exact ⟨o, h1, h2, n, by simpa [intItems] using h3⟩) fun h' tk hk => ?_
      refine ⟨.int (if j < i then j else i), H, I.kept hk, ?_, q⟩
      split <;> exact ⟨_, rfl⟩
theorem o_max1 : OpL G rPairMax max1G := by
  intro r en σ H a x z Q R hx e p
  unfold max1G at e
  split at e
  · cases hx with
    | cons h1 h2 =>
      cases h2
      obtain ⟨a1, v1, rfl, q1, q2⟩ := Rl.tupl h1 rfl
      cases q2 with
      | cons z1 q2 =>
        cases q2 with
        | cons z2 q2 =>
          cases q2; cases z1; cases z2
          exact ⟨a1, _, _, rfl, q1, p.here R e (.int _)⟩
  · cases e
theorem o_min1 : OpL G rPairMin min1G := by
  intro r en σ H a x z Q R hx e p
  unfold min1G at e
  split at e
  · cases hx with
    | cons h1 h2 =>
      cases h2
      obtain ⟨a1, v1, rfl, q1, q2⟩ := Rl.tupl h1 rfl
      cases q2 with
      | cons z1 q2 =>
        cases q2 with
        | cons z2 q2 =>
          cases q2; cases z1; cases z2
          exact ⟨a1, _, _, rfl, q1, p.here R e (.int _)⟩
  · cases e
end
end CD

/-! CDq: a def, as its callers want it. -/
namespace CD
open PySem PySem.Spec PyProof.Rows L2
section
variable {P : Program} {w : World} {K : PySem.W.Frag} {mg : Str → Option Value} {base : Heap} {C : Hc} {xa : Str → Addr}
theorem ca_mk {x qual : Str} {st : Stmt} {f : Addr} {fd : FuncData} {N ps : List Str} {k : Nat} {mx : List D → Nat} {fb : M Ctl} (Fu : Fun K x qual st f fd) (Sc : FnScope N ps (defScope st)) (gm : mg x = some (.ref f)) (b : Binds K fd ps [])
    (der : ∀ (cdv : Value) (A : Around) (outer : List Env) (s : Shared) (H : Hp) (E : XK) (S : Addr → Prop), Room k (A.deeper (envOfC qual (defScope st) s.heap.objs.size f cdv)) →
      PSs (cxOf CX0 P w K mg base N qual (defScope st) f cdv A outer s H E).nox (defBody st) (tS ⟨K, C, E0, xa, S⟩ fb)) : Ca P w K mg base C xa x ps (k + 1) (runBx N ps.length mx fb) f fd :=
  ⟨fn_ok Fu Sc der runBx_ok, gm, Fu.kp, b⟩
theorem cm_mk {x qual : Str} {st : Stmt} {f : Addr} {fd : FuncData} {N : List Str} {k : Nat} {mx : List D → Nat} {fb : M Ctl} (hk : HK C) (hC : C.K = K) (Fu : Fun K x qual st f fd) (Sc : FnScope N ["self"] (defScope st)) (me : Meth K C.a x f) (b : Binds K fd ["self"] [])
    (der : ∀ (cdv : Value) (A : Around) (outer : List Env) (s : Shared) (H : Hp) (E : XK) (S : Addr → Prop), Room k (A.deeper (envOfC qual (defScope st) s.heap.objs.size f cdv)) →
      PSs (cxOf CX0 P w K mg base N qual (defScope st) f cdv A outer s H E).nox (defBody st) (tS ⟨K, C, E0, xa, S⟩ fb)) : Cm P w K mg base C xa x (k + 1) (runBx N 1 mx fb) f fd :=
  ⟨hC ▸ hk.cl, me, fn_ok (ps := ["self"]) Fu Sc der runBx_ok, b⟩
theorem ca_none {x qual : Str} {st : Stmt} {f : Addr} {fd : FuncData} {ps : List Str} (Fu : Fun K x qual st f fd) (gm : mg x = some (.ref f)) (b : Binds K fd ps []) : Ca P w K mg base C xa x ps 0 (fun _ _ => none) f fd :=
  ⟨⟨fun vs H Q E ⟨_, _, _, _, _, _, _, _, h, _⟩ => (nomatch h), fun A outer s H args us vs Q E hr he hb hv ⟨_, _, _, _, _, _, _, _, h, _⟩ => (nomatch h)⟩, gm, Fu.kp, b⟩
end
end CD

/-! CDr: != of two objects of a class with an own == alone. -/
namespace CD
open PySem PySem.Spec PyProof.Rows L2
open PySem.W (InstAt findIn isFn mroIn subIn notFirst Looks looks_findIn looks_mroIn looks_subIn bind_fn ifBound_K)
section
variable {prog : Program} {w : World} {A : Around} {s : Shared} {K : PySem.W.Frag} {x C L f : Addr} {h₀ : Heap} {m : Str → Option Value} {ox : Obj} {od : Option Obj} {b tb : Value} {E : Value → Shared → Prop}
/-- a built-in's slot, looked up by the written part, bound and called -/
theorem ifBound_B {M : Model} {name : Str} {id : String} {args : List Value} {Q : Option Value → Shared → Prop} (X : K.In s.heap) (I : InstAt s.heap x ox C od) (hs : findIn K (.ref C) name = some (some (.builtin id))) (hb : ∀ self, bindSpecial (.builtin id) self = pure (.builtin id, [self]))
    (h : wpAny M A (call (.builtin id) (.ref x :: args)) (fun v => Q (some v)) E s) : wpAny M A (callSpecialIfBound? (.ref x) name args) Q E s := by
  simp only [callSpecialIfBound?, bindSpecialIfBound?]
  refine wpAny_holding (wpAny_bind (wpAny_bind (wpAny_bind (I.type.here ((looks_findIn X hs).here ?_)))))
  simp only [hb]
  refine wpAny_bind (wpAny_askSetting (wpAny_ite ?_))
  have last : wpAny M A (call (.builtin id) ([.ref x] ++ args) >>= fun v => pure (some v)) Q E s := wpAny_bind (wpAny_mono h (fun v s' q => wpAny_pure q) fun _ _ q => q)
  split
  · exact wpAny_bind (wpAny_pure (wpAny_pure last))
  · exact wpAny_tryCatch (wpAny_bind (wpAny_pure (wpAny_pure last)))
theorem check_K {M : Model} {id owner n : String} {rest : List Value} {Q : Unit → Shared → Prop} (hk : builtinKind id = some .slot) (hs : splitId id = some (owner, n)) (ha : argsOk id ⟨.ref x :: rest, []⟩) (X : K.In s.heap) (I : InstAt s.heap x ox C od)
    (hm : mroIn K C (.type owner) = some true) (hq : Q () s) : wpAny M A (checkBuiltinCall id ⟨.ref x :: rest, []⟩) Q E s := by
  simp only [checkBuiltinCall, hk, hs]
  refine wpAny_bind ?_
  unfold isInstance
  have hx := I.at_
  have hc := I.cls
  repeat (first | (with_reducible refine wpAny_loadPart_at hx ?_; rw [hc]) | (with_reducible refine (looks_mroIn X hm).here ?_) | wp_step)
  cases hsig : Manifest.signature? id with
  | none => exact wpAny_pure hq
  | some sig =>
    simp only [argsOk, hsig] at ha
    have q2 : Bind.checkArgs id sig ⟨.ref x :: rest, []⟩ = pure () := ha
    show wpAny M A (Bind.checkArgs id sig ⟨.ref x :: rest, []⟩) Q E _
    rw [q2]
    exact wpAny_pure hq
theorem neEntry_K (hu : A.units < cLine) (X : K.In s.heap) (I : InstAt s.heap x ox C od) (hs : findIn K (.ref C) "__eq__" = some (some (.ref f))) (hf : isFn K (.ref f) = true) {Q : Fin → Shared → Prop}
    (hcall : wpAny (model prog w) A (call (.ref f) [.ref x, b]) (fun v s' => ∃ k, v = .bool k ∧ Q (.done (.ret (.bool (!k)))) s') E s) : wpAny (model prog w) A (Builtin.«object.__ne__» ⟨[.ref x, b], []⟩) Q E s := by
  unfold Builtin.«object.__ne__»
  repeat (first
    | with_reducible refine wpAny_cRoomFor hu ?_
    | (refine wpAny_bind (m := callSpecialIfBound? (.ref x) (Str.ofString "__eq__") [b]) (ifBound_K X I hs hf (wpAny_mono hcall (fun v s' ⟨k, hv, hq⟩ => by
          subst hv
          repeat (first | exact hq | exact wpAny_pure hq | exact wpAny_truthy_bool hq | (refine wpAny_bind (m := truthy (.bool _)) (wpAny_truthy_bool ?_)) | wp_step)) fun _ _ q => q)))
    | wp_step)
theorem ne_K (hu : A.units + 1 < cLine) (F : Fr h₀ L s.heap m) (X₀ : K.In h₀) (I : InstAt s.heap x ox C od) (hb : Looks (model prog w) s.heap (typeOf b) tb) (hn : notFirst K C tb = true)
    (hne : findIn K (.ref C) "__ne__" = some (some (.builtin "object.__ne__"))) (hs : findIn K (.ref C) "__eq__" = some (some (.ref f))) (hf : isFn K (.ref f) = true) (hm : mroIn K C (.type "object") = some true) {Q : Value → Shared → Prop}
    (h : wpAny (model prog w) A.in1 (call (.ref f) [.ref x, b]) (fun v s' => ∃ k, v = .bool k ∧ Q (.bool (!k)) s') E s) : wpAny (model prog w) A (richCompare .NotEq (.ref x) b) Q E s := by
  have X := X₀.keeps F.keep
  have one : wpAny (model prog w) A (tryCompare (.ref x) "__ne__" b) (fun r s' => ∃ v, r = some v ∧ Q v s') E s := by
    unfold tryCompare
    refine wpAny_bind (ifBound_B X I hne PySem.F.cmp_object.ne.bind (wpAny_call (codeAny_call_builtin PySem.F.cmp_object.ne.plain PySem.F.cmpEntry_ne
      (check_K PySem.F.cmpKind_ne PySem.F.cmpSplit_ne (PySem.F.cmpArgs_ne _ _) X I hm (neEntry_K (A := A.in1) hu X I hs hf (wpAny_mono h (fun v s' ⟨k, hv, hq⟩ => ?_) fun _ _ q => q))))))
    refine ⟨k, hv, ?_⟩
    first | exact wpAny_pure ⟨_, rfl, hq⟩ | exact ⟨_, rfl, hq⟩ | exact wpAny_pure (wpAny_pure ⟨_, rfl, hq⟩)
  unfold richCompare
  simp only [oneThing_ref]
  refine wpAny_holding (wpAny_bind (wpAny_cRoomFor (Nat.lt_of_succ_lt hu) ?_))
  rw [cmpInfo_NotEq]
  dsimp only
  refine wpAny_bind (I.type.here (wpAny_bind (hb.here ?_)))
  split
  · rename_i q
    have e : subIn K tb (.ref C) = some false := (Bool.or_eq_true_iff.mp hn).elim (fun z => by rw [beq_iff_eq.mp z] at q; simp at q) fun z => beq_iff_eq.mp z
    refine wpAny_bind ((looks_subIn X e).here ?_)
    simp only [Bool.false_eq_true, if_false]
    exact wpAny_bind (wpAny_mono one (fun r s' ⟨v, hv, hq⟩ => by subst hv; exact wpAny_pure hq) fun _ _ q => q)
  · refine wpAny_bind (wpAny_pure ?_)
    simp only [Bool.false_eq_true, if_false]
    exact wpAny_bind (wpAny_mono one (fun r s' ⟨v, hv, hq⟩ => by subst hv; exact wpAny_pure hq) fun _ _ q => q)
end
end CD

/-! CDs: != of two houses. -/
namespace CD
open PySem PySem.Spec PyProof.Rows L2
structure Qm (P : Program) (w : World) (K : PySem.W.Frag) (mg : Str → Option Value) (base : Heap) (C : Hc) (xa : Str → Addr) (k : Nat) (F : Fn) (f : Addr) (fd : FuncData) : Prop where
  ne : PySem.W.findIn K (.ref C.a) "__ne__" = some (some (.builtin "object.__ne__"))
  eq : PySem.W.findIn K (.ref C.a) "__eq__" = some (some (.ref f))
  fn : PySem.W.isFn K (.ref f) = true
  hm : PySem.W.mroIn K C.a (.type "object") = some true
  ok : FnOk P w K mg base CX0 k f fd ["self", "other"] (spF C xa 2 F)
  b : Binds K fd ["self", "other"] []
  sem : ∀ b r b' r' c, F [.hs b r, .hs b' r'] c = some (.ok (.bl (decide (b = b' ∧ r = r'))), c)
def rHsNe (C : Addr) (sp : Sp) : R2 := fun x y H Q => ∃ (a b dx dy : Addr) (fs gs : List (Str × V)), x = .ref a ∧ y = .ref b ∧ H a = some (.ins C dx fs) ∧ H b = some (.ins C dy gs) ∧ sp [.ref a, .ref b] H (fun v H' => ∃ k, v = .bl k ∧ Q (.bl (!k)) H') E0
section
variable {X : Cx} {G : Par} {k : Nat} {F : Fn} {f : Addr} {fd : FuncData}
theorem op_hsNe (q : Qm X.prog X.w X.K X.mg X.base G.C G.xa k F f fd) (hr : Room (k + 1) X.A) : OpR X (compareOp .NotEq) (rHsNe G.C.a (spF G.C G.xa 2 F)) := by
  intro pins s σ H x y v u Q I rx ry h
  obtain ⟨a, b, dx, dy, fs, gs, rfl, rfl, ha, hb', hsp⟩ := h
  cases rx
  cases ry
  obtain ⟨mA, J, _⟩ := ins_get I.hok ha
  obtain ⟨mB, J', _⟩ := ins_get I.hok hb'
  obtain ⟨od, J, _⟩ := J.look
  obtain ⟨od', J', _⟩ := J'.look
  obtain ⟨m, hF⟩ := I.fr
  have hu : X.A.units + 1 < cLine := hr.in1.units0
  refine PySem.W.cmp_ofNotEq (ne_K hu hF I.ok.mod.kin J J'.type (by simp [PySem.W.notFirst]) q.ne q.eq q.fn q.hm ?_)
  have e0 : Env0 X.prog X.w X.K X.mg X.base X.A.in1 X.stack s H := by
    have e := I.env0
    exact ⟨e.frames, e.mod, e.bs, e.bsz, e.funs, e.frf, e.hok, e.bare⟩
  have hl := q.ok.len _ _ _ _ hsp
  have r2 : Vals [V.ref a, V.ref b] [Value.ref a, Value.ref b] := .cons rfl (.cons rfl .nil)
  have hbd := q.b s [.ref a, .ref b] I.kIn (by simpa using hl)
  refine wpAny_call (codeAny_mono (q.ok.run X.A.in1 X.stack s H ⟨[.ref a, .ref b], []⟩ [.ref a, .ref b] [.ref a, .ref b] _ E0 hr.in1 e0 (by simpa using hbd) r2 hsp) fun res s' hq => ?_)
  cases res with
  | error e => exact pass0 pins σ H s e s' I hq
  | ok fl =>
    cases fl with
    | ret w =>
      obtain ⟨z, H', I', rz, k, ek, q2⟩ := I.after hq
      subst ek
      cases rz
      exact ⟨k, rfl, .bl (!k), H', I', rfl, q2⟩
    | next => exact False.elim hq
    | brk => exact False.elim hq
    | cont => exact False.elim hq
theorem o_hsNe (q : Qm X.prog X.w X.K X.mg X.base G.C G.xa k F f fd) (hE : G.E = E0) : Op2 G (rHsNe G.C.a (spF G.C G.xa 2 F)) (hsEqG true) := by
  intro r en σ H d1 d2 x y z Q R hx hy e p
  unfold hsEqG at e
  split at e
  · rename_i b rr b' rr'
    cases e
    have hx' := hx
    have hy' := hy
    cases hx with
    | @hs a dx t1 t2 _ _ h1 h2 h3 =>
      cases hy with
      | @hs a' dx' t1' t2' _ _ h1' h2' h3' =>
        refine ⟨a, a', dx, dx', _, _, rfl, rfl, hid_same _ _ h1, hid_same _ _ h1', G.S, r, en.c, [.hs b rr, .hs b' rr'], _, rfl, R.cr, .cons hx' (.cons hy' .nil), q.sem b rr b' rr' en.c, fun r' H' s' R' => ?_⟩
        intro v hv
        cases hv
        exact ⟨_, rfl, p r' H' s' (R.stp R' s') _ (.bl _)⟩
  · cases e
end
end CD

/-! CDt: zip, its pairs kept by a name. -/
namespace CD
open PySem PySem.Spec PyProof.Rows L2
/-- the zip at z: what it holds of the pair that it gave last -/
abbrev ZipAt (h : Heap) (z TI TO : Addr) (f0 f1 : Value) : Prop := h.get? z = some { cls := .type "zip", dict := none, data := .fields #[f0, f1, .bool false, .ref TI, .ref TO], slots := #[] }
section
variable {prog : Program} {w : World} {A : Around} {E : Value → Shared → Prop} {s : Shared} {z TI TO i1 i2 l1 l2 T : Addr} {k1 k2 : Nat} {xs ys : Array Value} {x y a b f1 : Value}
theorem alive_at {M : Model} {a : Addr} {Q : Option Obj → Shared → Prop} (h : Q (s.heap.get? a) s) : wpAny M A (loadIfAlive a) Q E s := fun Γ p _ => by
  unfold loadIfAlive
  rw [Sem.wp_loadIfAlive]
  simpa using h
theorem free_or {Q : Bool → Shared → Prop} (hz : ZipAt s.heap z TI TO (rawInt T) f1) (yes : s.heap.get? T = none → Q true s) (no : ∀ hB, ZipAt hB z TI TO (rawInt T) (.bool true) → Heap.SameBut z s.heap hB → Q false { s with heap := hB }) :
    wpAny (model prog w) A (Builtin.SmallTypes.ownedTupleIsFree (.ref z)) Q E s := by
  unfold Builtin.SmallTypes.ownedTupleIsFree
  refine wpAny_bind (wpAny_field hz rfl (x := rawInt T) rfl ?_)
  show wpAny _ _ (loadIfAlive (Int.toNat (T : Int)) >>= _) _ _ _
  rw [Int.toNat_natCast]
  refine wpAny_bind (alive_at ?_)
  cases hT : s.heap.get? T with
  | none =>
    simp only [Option.isNone_none, if_true]
    exact wpAny_pure (yes hT)
  | some o =>
    simp only [Option.isNone_some, Bool.false_eq_true, if_false]
    refine wpAny_bind (wpAny_field hz rfl (x := f1) rfl ?_)
    by_cases hf : f1 = .bool true
    · subst hf
      rw [if_neg (by simp)]
      exact wpAny_pure (no s.heap hz ⟨rfl, fun _ _ => rfl⟩)
    · rw [if_pos (by simpa using hf)]
      refine wpAny_bind (wpAny_setField_rec hz (by simp) fun hB hzB hsB => wpAny_pure (no hB hzB hsB))
theorem zipN_item {Q : Value → Shared → Prop} (D : ZipApart z TI TO i1 i2 l1 l2)
    (hz : ZipAt s.heap z TI TO (rawInt T) f1) (hTI : IsPair s.heap TI (.ref i1) (.ref i2)) (hTO : IsPair s.heap TO a b)
    (h1 : s.heap.IsListIter i1 l1 k1) (h2 : s.heap.IsListIter i2 l2 k2) (hl1 : s.heap.IsList l1 xs) (hl2 : s.heap.IsList l2 ys) (hx : xs[k1]? = some x) (hy : ys[k2]? = some y)
    (hQ : ∀ hB (U : Addr) fl, ZipAt hB z TI TO (rawInt U) fl → (∃ c d, IsPair hB TO c d) → hB.IsListIter i1 l1 (k1 + 1) → hB.IsListIter i2 l2 (k2 + 1) → IsPair hB s.heap.objs.size x y → hB.objs.size = s.heap.objs.size + 1 →
      (∀ c o, c ≠ z → c ≠ TO → c ≠ i1 → c ≠ i2 → s.heap.get? c = some o → hB.get? c = some o) → Q (.ref s.heap.objs.size) { s with heap := hB }) :
    wpAny (model prog w) A (Builtin.«zip.__next__» ⟨[.ref z], []⟩) (fun fin s' => ∃ v, fin = .done (.ret v) ∧ Q v s') E s := by
  show wpAny _ _ (field (.ref z) 2 >>= _) _ _ _
  refine wpAny_bind (wpAny_field hz rfl (x := .bool false) rfl ?_)
  show wpAny _ _ (field (.ref z) 3 >>= _) _ _ _
  refine wpAny_bind (wpAny_field hz rfl (x := .ref TI) rfl ?_)
  refine wpAny_bind (wpAny_seqItems hTI rfl ?_)
  show wpAny _ _ (Builtin.SmallTypes.ownedTupleIsFree (.ref z) >>= _) _ _ _
  refine wpAny_bind (free_or hz (fun hT => ?_) (fun hB hzB hsB => ?_))
  · simp only [if_true]
    refine wpAny_bind (wpAny_rule (wpAny_bind (wpAny_field hz rfl (x := .ref TO) rfl (wpAny_bind (wpAny_setField_rec hz (by simp) fun hA hzA hsA => wpAny_bind ?_)))))
    replace hzA : ZipAt hA z TI TO .ellipsis f1 := hzA
    simp only [List.zipIdx_cons, List.zipIdx_nil, List.forIn_cons, List.forIn_nil]
    refine wpAny_bind (wpAny_bind (wpAny_onRaise ?_)); show wpAny _ _ (Builtin.SmallTypes.nextOf (.ref i1) >>= _) _ _ _
    refine wpAny_bind (wpAny_nextOf_list_item (h1.extBut hsA.extBut D.i1z) (hl1.extBut hsA.extBut D.l1z) hx fun hB h1B hsB => wpAny_pure ?_)
    have tB : IsPair hB TO a b := hsB.extBut _ _ D.TOi1 (hsA.extBut _ _ D.TOz hTO)
    refine wpAny_bind (wpAny_seqItems tB rfl (wpAny_bind (wpAny_updateSeq_pair tB fun hC tC hsC => wpAny_bind (wpAny_letGo (wpAny_pure ?_)))))
    replace tC : IsPair hC TO x b := tC
    refine wpAny_bind (wpAny_bind (wpAny_onRaise ?_)); show wpAny _ _ (Builtin.SmallTypes.nextOf (.ref i2) >>= _) _ _ _
    have h2C := ((h2.extBut hsA.extBut D.i2z).extBut hsB.extBut D.i12.symm).extBut hsC.extBut D.TOi2.symm
    have l2C := ((hl2.extBut hsA.extBut D.l2z).extBut hsB.extBut D.l2i1).extBut hsC.extBut D.l2TO
    refine wpAny_bind (wpAny_nextOf_list_item h2C l2C hy fun hD h2D hsD => wpAny_pure ?_)
    have tD : IsPair hD TO x b := hsD.extBut _ _ D.TOi2 tC
    refine wpAny_bind (wpAny_seqItems tD rfl (wpAny_bind (wpAny_updateSeq_pair tD fun hE tE hsE => wpAny_bind (wpAny_letGo (wpAny_pure (wpAny_pure ?_))))))
    replace tE : IsPair hE TO x y := tE
    refine wpAny_bind (wpAny_seqItems tE rfl (wpAny_bind (wpAny_newTuple ?_)))
    have size : hE.objs.size = s.heap.objs.size := by rw [hsE.1, hsD.1, hsC.1, hsB.1, hsA.1]
    have zE : ZipAt hE z TI TO .ellipsis f1 := hsE.extBut _ _ D.TOz.symm (hsD.extBut _ _ D.i2z.symm (hsC.extBut _ _ D.TOz.symm (hsB.extBut _ _ D.i1z.symm hzA)))
    have old : ∀ c o, c ≠ z → c ≠ TO → c ≠ i1 → c ≠ i2 → s.heap.get? c = some o → hE.get? c = some o := fun c o n1 n2 n3 n4 e => hsE.extBut _ _ n2 (hsD.extBut _ _ n4 (hsC.extBut _ _ n2 (hsB.extBut _ _ n3 (hsA.extBut _ _ n1 e))))
    have h1E : hE.IsListIter i1 l1 (k1 + 1) := ((h1B.extBut hsC.extBut D.TOi1.symm).extBut hsD.extBut D.i12).extBut hsE.extBut D.TOi1.symm
    have h2E : hE.IsListIter i2 l2 (k2 + 1) := h2D.extBut hsE.extBut D.TOi2.symm
    have zlt : z < hE.objs.size := Heap.lt_size zE
    show wpAny _ _ (Builtin.SmallTypes.ownedTupleHandOut (.ref z) (.ref hE.objs.size) >>= _) _ _ _
    refine wpAny_bind ?_
    unfold Builtin.SmallTypes.ownedTupleHandOut
    have zF : ZipAt (hE.push { cls := .type "tuple", data := .seq #[x, y] }) z TI TO .ellipsis f1 := Heap.get?_push_of_some _ zE
    refine wpAny_bind (wpAny_setField_rec zF (by simp) fun hG zG hsG => ?_)
    replace zG : ZipAt hG z TI TO (rawInt hE.objs.size) f1 := zG
    refine wpAny_setField_rec zG (by simp) fun hH zH hsH => ?_
    replace zH : ZipAt hH z TI TO (rawInt hE.objs.size) (.bool false) := zH
    have up : ∀ c o, c ≠ z → hE.get? c = some o → hH.get? c = some o := fun c o n1 e => hsH.extBut _ _ n1 (hsG.extBut _ _ n1 (Heap.get?_push_of_some _ e))
    have tH : IsPair hH hE.objs.size x y := hsH.extBut _ _ (Nat.ne_of_gt zlt) (hsG.extBut _ _ (Nat.ne_of_gt zlt) (Heap.get?_push_size _ rfl))
    have size2 : hH.objs.size = hE.objs.size + 1 := by rw [hsH.1, hsG.1, Heap.size_push]
    refine wpAny_pure ⟨_, rfl, ?_⟩
    show Q (.ref hE.objs.size) _
    rw [size] at size2 tH ⊢
    exact hQ hH _ _ zH ⟨_, _, up _ _ D.TOz tE⟩ (h1E.at fun o e => up _ o D.i1z e) (h2E.at fun o e => up _ o D.i2z e) tH size2 fun c o n1 n2 n3 n4 e => up c o n1 (old c o n1 n2 n3 n4 e)
  · simp only [Bool.false_eq_true, if_false]
    refine wpAny_bind ?_
    simp only [List.forIn_toArray, List.forIn_cons, List.forIn_nil]
    refine wpAny_bind (wpAny_bind (wpAny_holding ?_)); show wpAny _ _ (Builtin.SmallTypes.nextOf (.ref i1) >>= _) _ _ _
    refine wpAny_bind (wpAny_nextOf_list_item (h1.extBut hsB.extBut D.i1z) (hl1.extBut hsB.extBut D.l1z) hx fun hC h1C hsC => wpAny_pure (wpAny_pure ?_))
    refine wpAny_bind (wpAny_bind (wpAny_holding ?_)); show wpAny _ _ (Builtin.SmallTypes.nextOf (.ref i2) >>= _) _ _ _
    refine wpAny_bind (wpAny_nextOf_list_item ((h2.extBut hsB.extBut D.i2z).extBut hsC.extBut D.i12.symm) ((hl2.extBut hsB.extBut D.l2z).extBut hsC.extBut D.l2i1) hy fun hD h2D hsD => wpAny_pure (wpAny_pure (wpAny_pure ?_)))
    have size : hD.objs.size = s.heap.objs.size := by rw [hsD.1, hsC.1, hsB.1]
    have zD : ZipAt hD z TI TO (rawInt T) (.bool true) := hsD.extBut _ _ D.i2z.symm (hsC.extBut _ _ D.i1z.symm hzB)
    have old : ∀ c o, c ≠ z → c ≠ i1 → c ≠ i2 → s.heap.get? c = some o → hD.get? c = some o := fun c o n1 n3 n4 e => hsD.extBut _ _ n4 (hsC.extBut _ _ n3 (hsB.extBut _ _ n1 e))
    refine wpAny_bind (wpAny_newTuple (hsz := (by show 2 ≤ sizeLine; decide)) (wpAny_pure ⟨_, rfl, ?_⟩))
    show Q (.ref hD.objs.size) _
    have tN : IsPair (hD.push { cls := .type "tuple", data := .seq #[x, y] }) hD.objs.size x y := Heap.get?_push_size _ rfl
    have sz : (hD.push { cls := .type "tuple", data := .seq #[x, y] }).objs.size = hD.objs.size + 1 := Heap.size_push ..
    have q := hQ (hD.push { cls := .type "tuple", data := .seq #[x, y] }) T (.bool true) (Heap.get?_push_of_some _ zD) ⟨_, _, Heap.get?_push_of_some _ (old _ _ D.TOz D.TOi1 D.TOi2 hTO)⟩ ((h1C.extBut hsD.extBut D.i12).at fun o e => Heap.get?_push_of_some _ e) (h2D.at fun o e => Heap.get?_push_of_some _ e)
      (by rw [← size]; exact tN) (by rw [sz, size]) fun c o n1 n2 n3 n4 e => Heap.get?_push_of_some _ (old c o n1 n3 n4 e)
    rw [size]
    exact q
theorem zipN_end {Q : Fin → Shared → Prop} (hh : A.handled = none) (D : ZipApart z TI TO i1 i2 l1 l2) (hz : ZipAt s.heap z TI TO (rawInt T) f1) (hTI : IsPair s.heap TI (.ref i1) (.ref i2)) (hTO : IsPair s.heap TO a b)
    (h1 : s.heap.IsListIter i1 l1 k1) (h2 : s.heap.IsListIter i2 l2 k2) (hl1 : s.heap.IsList l1 xs) (hl2 : s.heap.IsList l2 ys) (hend : xs[k1]? = none ∨ ys[k2]? = none)
    (hX : ∀ hB e, (∀ c o, c ≠ z → c ≠ TO → c ≠ i1 → c ≠ i2 → s.heap.get? c = some o → hB.get? c = some o) → (∃ o, hB.get? e = some o ∧ o.cls = .type "StopIteration") → E (.ref e) { s with heap := hB }) :
    wpAny (model prog w) A (Builtin.«zip.__next__» ⟨[.ref z], []⟩) Q E s := by
  show wpAny _ _ (field (.ref z) 2 >>= _) _ _ _; refine wpAny_bind (wpAny_field hz rfl (x := .bool false) rfl ?_)
  show wpAny _ _ (field (.ref z) 3 >>= _) _ _ _; refine wpAny_bind (wpAny_field hz rfl (x := .ref TI) rfl (wpAny_bind (wpAny_seqItems hTI rfl ?_)))
  show wpAny _ _ (Builtin.SmallTypes.ownedTupleIsFree (.ref z) >>= _) _ _ _; refine wpAny_bind (free_or hz (fun hT => ?_) (fun hB hzB hsB => ?_))
  · simp only [if_true]
    refine wpAny_bind (wpAny_rule (wpAny_bind (wpAny_field hz rfl (x := .ref TO) rfl (wpAny_bind (wpAny_setField_rec hz (by simp) fun hA hzA hsA => wpAny_bind ?_)))))
    replace hzA : ZipAt hA z TI TO .ellipsis f1 := hzA
    simp only [List.zipIdx_cons, List.zipIdx_nil, List.forIn_cons, List.forIn_nil]
    refine wpAny_bind (wpAny_bind (wpAny_onRaise ?_)); show wpAny _ _ (Builtin.SmallTypes.nextOf (.ref i1) >>= _) _ _ _
    cases hx : xs[k1]? with
    | none =>
      refine wpAny_bind (wpAny_nextOf_list_end hh (h1.extBut hsA.extBut D.i1z) (hl1.extBut hsA.extBut D.l1z) hx fun hB e hsB ⟨oe, g1, g2⟩ => ?_)
      have zB : ZipAt hB z TI TO .ellipsis f1 := hsB _ _ D.i1z.symm hzA
      have ne : e ≠ z := fun q => by subst q; rw [zB] at g1; cases g1; simp at g2
      exact wpAny_setField_rec zB (by simp) fun hC _ hsC => hX hC e (fun c o n1 _ n3 _ q => hsC.extBut _ _ n1 (hsB _ _ n3 (hsA.extBut _ _ n1 q))) ⟨oe, hsC.extBut _ _ ne g1, g2⟩
    | some x =>
      have hy : ys[k2]? = none := hend.elim (fun q => by rw [hx] at q; cases q) id
      refine wpAny_bind (wpAny_nextOf_list_item (h1.extBut hsA.extBut D.i1z) (hl1.extBut hsA.extBut D.l1z) hx fun hB h1B hsB => wpAny_pure ?_)
      have tB : IsPair hB TO a b := hsB.extBut _ _ D.TOi1 (hsA.extBut _ _ D.TOz hTO)
      refine wpAny_bind (wpAny_seqItems tB rfl (wpAny_bind (wpAny_updateSeq_pair tB fun hC tC hsC => wpAny_bind (wpAny_letGo (wpAny_pure ?_)))))
      refine wpAny_bind (wpAny_bind (wpAny_onRaise ?_)); show wpAny _ _ (Builtin.SmallTypes.nextOf (.ref i2) >>= _) _ _ _
      have h2C := ((h2.extBut hsA.extBut D.i2z).extBut hsB.extBut D.i12.symm).extBut hsC.extBut D.TOi2.symm
      have l2C := ((hl2.extBut hsA.extBut D.l2z).extBut hsB.extBut D.l2i1).extBut hsC.extBut D.l2TO
      refine wpAny_bind (wpAny_nextOf_list_end hh h2C l2C hy fun hD e hsD ⟨oe, g1, g2⟩ => ?_)
      have zD : ZipAt hD z TI TO .ellipsis f1 := hsD _ _ D.i2z.symm (hsC.extBut _ _ D.TOz.symm (hsB.extBut _ _ D.i1z.symm hzA))
      have ne : e ≠ z := fun q => by subst q; rw [zD] at g1; cases g1; simp at g2
      exact wpAny_setField_rec zD (by simp) fun hE _ hsE => hX hE e (fun c o n1 n2 n3 n4 q => hsE.extBut _ _ n1 (hsD _ _ n4 (hsC.extBut _ _ n2 (hsB.extBut _ _ n3 (hsA.extBut _ _ n1 q))))) ⟨oe, hsE.extBut _ _ ne g1, g2⟩
  · simp only [Bool.false_eq_true, if_false]
    refine wpAny_bind ?_
    simp only [List.forIn_toArray, List.forIn_cons, List.forIn_nil]
    refine wpAny_bind (wpAny_bind (wpAny_holding ?_)); show wpAny _ _ (Builtin.SmallTypes.nextOf (.ref i1) >>= _) _ _ _
    cases hx : xs[k1]? with
    | none =>
      exact wpAny_bind (wpAny_nextOf_list_end hh (h1.extBut hsB.extBut D.i1z) (hl1.extBut hsB.extBut D.l1z) hx fun hC e hsC he => hX hC e (fun c o n1 _ n3 _ q => hsC _ _ n3 (hsB.extBut _ _ n1 q)) he)
    | some x =>
      have hy : ys[k2]? = none := hend.elim (fun q => by rw [hx] at q; cases q) id
      refine wpAny_bind (wpAny_nextOf_list_item (h1.extBut hsB.extBut D.i1z) (hl1.extBut hsB.extBut D.l1z) hx fun hC h1C hsC => wpAny_pure (wpAny_pure ?_))
      refine wpAny_bind (wpAny_bind (wpAny_holding ?_)); show wpAny _ _ (Builtin.SmallTypes.nextOf (.ref i2) >>= _) _ _ _
      exact wpAny_bind (wpAny_nextOf_list_end hh ((h2.extBut hsB.extBut D.i2z).extBut hsC.extBut D.i12.symm) ((hl2.extBut hsB.extBut D.l2z).extBut hsC.extBut D.l2i1) hy fun hD e hsD he => hX hD e (fun c o n1 _ n3 n4 q => hsD _ _ n4 (hsC.extBut _ _ n3 (hsB.extBut _ _ n1 q))) he)
end
end CD

/-! CDu: for p in zip(a, b). -/
namespace CD
open PySem PySem.Spec PyProof.Rows L2
section
variable {prog : Program} {w : World} {A : Around} {E : Value → Shared → Prop} {s : Shared} {z TI TO i1 i2 l1 l2 : Addr} {k1 k2 : Nat} {xs ys : Array Value} {x y a b : Value}
/-- what the zip at z holds of pairs -/
def ZipSt (h : Heap) (z TI TO : Addr) : Prop := ∃ f0 f1, ZipAt h z TI TO f0 f1 ∧ ((f0 = .none ∧ f1 = .bool false) ∨ ∃ U : Addr, f0 = rawInt U)
theorem next_item {Q : Option Value → Shared → Prop} (D : ZipApart z TI TO i1 i2 l1 l2) (hz : ZipSt s.heap z TI TO) (hTI : IsPair s.heap TI (.ref i1) (.ref i2)) (hTO : IsPair s.heap TO a b)
    (h1 : s.heap.IsListIter i1 l1 k1) (h2 : s.heap.IsListIter i2 l2 k2) (hl1 : s.heap.IsList l1 xs) (hl2 : s.heap.IsList l2 ys) (hx : xs[k1]? = some x) (hy : ys[k2]? = some y)
    (hQ : ∀ hB, ZipSt hB z TI TO → (∃ c d, IsPair hB TO c d) → hB.IsListIter i1 l1 (k1 + 1) → hB.IsListIter i2 l2 (k2 + 1) → IsPair hB s.heap.objs.size x y → hB.objs.size = s.heap.objs.size + 1 →
      (∀ c o, c ≠ z → c ≠ TO → c ≠ i1 → c ≠ i2 → s.heap.get? c = some o → hB.get? c = some o) → Q (some (.ref s.heap.objs.size)) { s with heap := hB }) : wpAny (model prog w) A (pyNext (.ref z)) Q E s := by
  obtain ⟨f0, f1, hz, ⟨rfl, rfl⟩ | ⟨U, rfl⟩⟩ := hz
  · exact wpAny_pyNext_zip_item D hz hTI hTO h1 h2 hl1 hl2 hx hy fun hB q1 q2 q3 q4 q5 q6 q7 => hQ hB ⟨_, _, q1, .inr ⟨_, rfl⟩⟩ ⟨_, _, q2⟩ q3 q4 q5 q6 q7
  · have hT : s.TypeIs (.ref z) "zip" := ⟨_, hz, rfl⟩
    unfold pyNext
    exact wpAny_bind (wpAny_attempt (wpAny_callSpecial?_slot (name := Str.ofString "__next__") hT F.slot_zip_next (wpAny_call_entry F.slot_zip_next hT F.entry_zip_next
      (zipN_item D hz hTI hTO h1 h2 hl1 hl2 hx hy fun hB U fl q1 q2 q3 q4 q5 q6 q7 => wpAny_pure (hQ hB ⟨_, _, q1, .inr ⟨_, rfl⟩⟩ q2 q3 q4 q5 q6 q7)) (F.args_zip_next_1 _))))
theorem next_end {Q : Option Value → Shared → Prop} (hh : A.handled = none) (D : ZipApart z TI TO i1 i2 l1 l2) (hz : ZipSt s.heap z TI TO) (hTI : IsPair s.heap TI (.ref i1) (.ref i2)) (hTO : IsPair s.heap TO a b)
    (h1 : s.heap.IsListIter i1 l1 k1) (h2 : s.heap.IsListIter i2 l2 k2) (hl1 : s.heap.IsList l1 xs) (hl2 : s.heap.IsList l2 ys) (hend : xs[k1]? = none ∨ ys[k2]? = none)
    (hQ : ∀ hB, (∀ c o, c ≠ z → c ≠ TO → c ≠ i1 → c ≠ i2 → s.heap.get? c = some o → hB.get? c = some o) → Q none { s with heap := hB }) : wpAny (model prog w) A (pyNext (.ref z)) Q E s := by
  obtain ⟨f0, f1, hz, ⟨rfl, rfl⟩ | ⟨U, rfl⟩⟩ := hz
  · exact wpAny_pyNext_zip_end hh D hz hTI hTO h1 h2 hl1 hl2 hend hQ
  · have hT : s.TypeIs (.ref z) "zip" := ⟨_, hz, rfl⟩
    unfold pyNext
    refine wpAny_bind (wpAny_attempt (wpAny_callSpecial?_slot (name := Str.ofString "__next__") hT F.slot_zip_next (wpAny_call_entry F.slot_zip_next hT F.entry_zip_next
      (zipN_end hh D hz hTI hTO h1 h2 hl1 hl2 hend fun hB e hk ⟨o, ho, hc⟩ => ?_) (F.args_zip_next_1 _))))
    exact wpAny_bind (wpAny_isInstance (T := "StopIteration") (b := true) ⟨o, ho, hc⟩ isSubtype_stop (wpAny_pure (hQ _ hk)))
end
def ZipTn (a b z TI TO i1 i2 : Addr) (i : Nat) (h : Heap) : Prop := ZipSt h z TI TO ∧ IsPair h TI (.ref i1) (.ref i2) ∧ (∃ x y, IsPair h TO x y) ∧ h.IsListIter i1 a i ∧ h.IsListIter i2 b i
theorem turn_zipN {P : Program} {w : World} {K : PySem.W.Frag} {nm : Str} {tpos : Pos} {a b z TI TO i1 i2 : Addr} (D : ZipApart z TI TO i1 i2 a b) : Turn P w K (.Name nm tpos) (Itz K a b) [z, TI, TO, i1, i2] z (ZipTn a b z TI TO i1 i2) where
  mem := by simp
  obj := fun i h ⟨⟨f0, f1, hz, _⟩, hTI, ⟨x, y, hTO⟩, ⟨o1, e1, _, d1⟩, ⟨o2, e2, _, d2⟩⟩ c hc => by
    have q : c = z ∨ c = TI ∨ c = TO ∨ c = i1 ∨ c = i2 := by simpa using hc
    rcases q with q | q | q | q | q <;> rw [q]
    · exact ⟨_, hz, fun v q => nomatch q⟩
    · exact ⟨_, hTI, fun v q => nomatch q⟩
    · exact ⟨_, hTO, fun v q => nomatch q⟩
    · exact ⟨o1, e1, fun v q => by rw [d1] at q; cases q⟩
    · exact ⟨o2, e2, fun v q => by rw [d2] at q; cases q⟩
  keep := fun i h h' ⟨⟨f0, f1, hz, hf⟩, hTI, ⟨x, y, hTO⟩, h1, h2⟩ k => ⟨⟨f0, f1, k z (by simp) _ hz, hf⟩, k TI (by simp) _ hTI, ⟨x, y, k TO (by simp) _ hTO⟩, h1.at fun o q => k i1 (by simp) o q, h2.at fun o q => k i2 (by simp) o q⟩
  item := by
    intro X hP hw hK hc i pins s σ H E I hf st hg
    subst hP hw hK
    obtain ⟨hz, hTI, ⟨x0, y0, hTO⟩, h1, h2⟩ := st
    obtain ⟨xs, ys, x, y, hqx, hqy, hx, hy⟩ := hg
    obtain ⟨its, rv, p, _⟩ := I.list hqx
    obtain ⟨its2, rv2, p2, _⟩ := I.list hqy
    obtain ⟨u, hu, ru⟩ := rv.get hx
    obtain ⟨u2, hu2, ru2⟩ := rv2.get hy
    refine next_item D hz hTI hTO h1 h2 p.isList p2.isList (x := u) (y := u2) (by simpa using hu) (by simpa using hu2) fun hB zB tB h1B h2B hT hsz hk => ?_
    refine ⟨_, rfl, wpAny_pure ?_⟩
    have new : ObjOk X.prog X.w (upd H s.heap.objs.size (.tup [x, y])) hB s.heap.objs.size (.tup [x, y]) := ⟨by show 2 ≤ sizeLine; decide, [u, u2], .cons ru (.cons ru2 .nil), ⟨_, hT, rfl, _, rfl⟩⟩
    have I1 : Inv X pins σ (upd H s.heap.objs.size (.tup [x, y])) { s with heap := hB } := I.turnedNew (t' := s.toks) (ch := [z, TI, TO, i1, i2])
      (fun c o hb q => hk c o (fun e => hb (by simp [e])) (fun e => hb (by simp [e])) (fun e => hb (by simp [e])) (fun e => hb (by simp [e])) q) hf (Nat.le_refl _) new
    refine ⟨.ref s.heap.objs.size, _, I1, rfl, ⟨_, x, y, rfl, I.hok.fresh (Nat.le_refl _), rfl, fun l hl => by rw [I.list_inj hl hqx]; exact hx, fun l hl => by rw [I.list_inj hl hqy]; exact hy⟩, ⟨zB, hk _ _ D.TIz D.TITO D.TIi1 D.TIi2 hTI, tB, h1B, h2B⟩, fun c hcm => ?_⟩
    have hlt : c < s.heap.objs.size := by
      obtain ⟨f0, f1, hz, _⟩ := hz
      have q : c = z ∨ c = TI ∨ c = TO ∨ c = i1 ∨ c = i2 := by simpa using hcm
      rcases q with q | q | q | q | q <;> rw [q]
      · exact Heap.lt_size hz
      · exact Heap.lt_size hTI
      · exact Heap.lt_size hTO
      · obtain ⟨_, e1, _⟩ := h1; exact Heap.lt_size e1
      · obtain ⟨_, e1, _⟩ := h2; exact Heap.lt_size e1
    rw [upd_ne (Nat.ne_of_lt hlt)]
    exact (hf c hcm).1
  done := by
    intro X hP hw hK hc i pins s σ H E I hf st hg
    subst hP hw hK
    obtain ⟨hz, hTI, ⟨x0, y0, hTO⟩, h1, h2⟩ := st
    obtain ⟨xs, ys, hqx, hqy, hend⟩ := hg
    obtain ⟨its, rv, p, _⟩ := I.list hqx
    obtain ⟨its2, rv2, p2, _⟩ := I.list hqy
    have q1 := rv.length
    have q2 := rv2.length
    have he : its.toArray[i]? = none ∨ its2.toArray[i]? = none := hend.elim (fun q => .inl (by simp; omega)) fun q => .inr (by simp; omega)
    exact next_end (I.ok.hd hc) D hz hTI hTO h1 h2 p.isList p2.isList he fun hB hk => ⟨rfl, I.turnedL (t' := s.toks) (ch := [z, TI, TO, i1, i2]) (fun c o hb q =>
      hk c o (fun e => hb (by simp [e])) (fun e => hb (by simp [e])) (fun e => hb (by simp [e])) (fun e => hb (by simp [e])) q) hf⟩
  self := fun A i s Q E ⟨⟨f0, f1, hz, _⟩, _⟩ h => by
    have hT : s.TypeIs (.ref z) "zip" := ⟨_, hz, rfl⟩
    refine wpAny_pyIter_slot hT F.slot_zip_iter (wpAny_call_entry F.slot_zip_iter hT F.entry_zip_iter ?_ (F.args_zip_iter_1 _))
    show wpAny _ _ (ret (.ref z)) _ _ s; exact wpAny_pure ⟨_, rfl, "zip", _, hT, F.slot_zip_next.lookup, h⟩
theorem pi_zipN {X : Cx} {e e2 : Expr} {ta : TA} {p pos tpos : Pos} {nm : Str} (hg : Gl X "zip") (hm : X.mg "zip" = none) (ha : PA X [e, e2] ta)
    (hs : starEach [e, e2] X.env = (false, eval e X.env) :: starEach [e2] X.env := by rfl) (hpl : (backTo pos (starEach [e2] X.env)).any (·.1) = false := by rfl) : PI X (.Name nm tpos) (.Call (.Name "zip" p) [e, e2] [] pos) (iZip X.K ta) := by
  refine ⟨fun pins s σ H R I h => Call_ (ld_blt I hg hm PyProof.Rows.boot_zip (PyProof.Rows.callWith_type1 (thn (ha.run pos pins s σ H _ I h) fun us s1 ⟨vs, H1, I1, r1, a, b, xs, ys, ex, hqx, hqy, q⟩ => ?_) hs hpl))⟩
  subst ex
  cases r1 with
  | cons r rr =>
    cases rr with
    | cons r' rr =>
      cases rr
      cases r
      cases r'
      obtain ⟨its, rv, p1, _⟩ := I1.list hqx
      obtain ⟨its2, rv2, p2, _⟩ := I1.list hqy
      refine call_zip_2 p1.isList p2.isList fun hB hz hTI hTO h1 h2 hsz hk => wpAny_pyIter_zip hz ?_
      refine ⟨s1.heap.objs.size + 4, [s1.heap.objs.size + 4, s1.heap.objs.size + 2, s1.heap.objs.size + 3, s1.heap.objs.size, s1.heap.objs.size + 1], _, _, H1, rfl, I1.kept (t' := s1.toks) hk, turn_zipN (PySem.W.ktu_apart s1.heap.objs.size a b p1.lt p2.lt), ⟨⟨_, _, hz, .inl ⟨rfl, rfl⟩⟩, hTI, ⟨_, _, hTO⟩, h1, h2⟩, fun c hcm => ?_, q⟩
      have hle : s1.heap.objs.size ≤ c := by
        have e' : c = s1.heap.objs.size + 4 ∨ c = s1.heap.objs.size + 2 ∨ c = s1.heap.objs.size + 3 ∨ c = s1.heap.objs.size ∨ c = s1.heap.objs.size + 1 := by simpa using hcm
        rcases e' with e' | e' | e' | e' | e' <;> rw [e']
        · exact Nat.le_add_right _ _
        · exact Nat.le_add_right _ _
        · exact Nat.le_add_right _ _
        · exact Nat.le_refl _
        · exact Nat.le_add_right _ _
      exact I1.fpOk hle (I1.hok.fresh hle)
end CD

/-! K4D: what the program's and the law's functions do, printed by gen.py. -/
namespace K4
open PySem PySem.Spec PyProof.Rows L2 CD
def topS (i : Nat) : Stmt := PySem.Challenge.pw_carryways_k04_whole_houses_made_of_house.main.body.getD i (.Pass ⟨0, 0, 0, 0⟩)
/-- a house that is looked at: at most twenty bases -/
def gb (b r : List Int) : Prop := b.length ≤ 20 ∧ r.length = b.length + 1 ∧ (∀ x ∈ b, 2 ≤ x ∧ x ≤ 100) ∧ (∀ x ∈ r, 0 ≤ x ∧ x ≤ 100)
instance (b r : List Int) : Decidable (gb b r) := by unfold gb; infer_instance
def F_House (d1 d2 : D) (c : Cells) : Option (List Int × List Int) := match d1, d2 with
  | .lst x, .lst y => (match intsOf x, intsOf y with
    | some b, some r => if gb b r then some (b, r) else none
    | _, _ => none)
  | _, _ => none
def mxPurses : List D → Nat
  | [.scr ns, .int few] => (max 1 (min few.toNat ns.length))
  | _ => 0
noncomputable section
variable {P : Program} {w : World} {K : PySem.W.Frag} {mg : Str → Option Value} {base : Heap} {C : Hc} {xa : Str → Addr}
abbrev s_is_whole : Stmt := topS 1
theorem sc_is_whole : FnScope ["value"] ["value"] (defScope s_is_whole) := ⟨rfl, rfl, rfl, by decide +kernel, rfl, by decide +kernel, by decide +kernel⟩
def b_is_whole : M Ctl := (retS (andV (isB "int" (nmM 0)) (notV (isB "bool" (nmM 0)))))
noncomputable def F_is_whole : Fn := runBx ["value"] 1 (fun _ => 0) b_is_whole
theorem der_is_whole (T : Txt mg C) (hk : HK C) (hC : C.K = K) {qual : Str} {f : Addr} (cdv : Value) (A : Around) (outer : List Env) (s : Shared) (H : Hp) (E : XK) (S : Addr → Prop) (hr : Room 0 (A.deeper (envOfC qual (defScope s_is_whole) s.heap.objs.size f cdv))) :
    PSs (cxOf CX0 P w K mg base ["value"] qual (defScope s_is_whole) f cdv A outer s H E).nox (defBody s_is_whole) (tS ⟨K, C, E0, xa, S⟩ b_is_whole) :=
  (ds_one (ds_ret (d_and (d_is hk hC (by decide) (pe_callB call_isi (by rfl) T.isinstance PyProof.Rows.boot_isinstance (pa_cons (d_nm (pv 0)) (pa_cons (pe_bltn (v := .ty "int") (by rfl) T.t_int PyProof.Rows.boot_int rfl) pa_nil)))) (d_one (d_not (d_is hk hC (by decide) (pe_callB call_isi (by rfl) T.isinstance PyProof.Rows.boot_isinstance (pa_cons (d_nm (pv 0)) (pa_cons (pe_bltn (v := .ty "bool") (by rfl) T.t_bool PyProof.Rows.boot_bool rfl) pa_nil)))))))))

abbrev s_is_count : Stmt := topS 2
theorem sc_is_count : FnScope ["value"] ["value"] (defScope s_is_count) := ⟨rfl, rfl, rfl, by decide +kernel, rfl, by decide +kernel, by decide +kernel⟩
def b_is_count : M Ctl := (retS (andV (fnM 1 F_is_whole (consM (nmM 0) (pureM []))) (binM geG (nmM 0) (pureM (.int 0)))))
noncomputable def F_is_count : Fn := runBx ["value"] 1 (fun _ => 0) b_is_count
theorem der_is_count (T : Txt mg C) (hk : HK C) (hC : C.K = K) {f_is_whole : Addr} {fd_is_whole : FuncData} (c_is_whole : Ca P w K mg base C xa "is_whole" ["value"] 1 F_is_whole f_is_whole fd_is_whole) {qual : Str} {f : Addr} (cdv : Value) (A : Around) (outer : List Env) (s : Shared) (H : Hp) (E : XK) (S : Addr → Prop) (hr : Room 1 (A.deeper (envOfC qual (defScope s_is_count) s.heap.objs.size f cdv))) :
    PSs (cxOf CX0 P w K mg base ["value"] qual (defScope s_is_count) f cdv A outer s H E).nox (defBody s_is_count) (tS ⟨K, C, E0, xa, S⟩ b_is_count) :=
  (ds_one (ds_ret (d_and (d_ca c_is_whole rfl (hr.mono (by decide)) (by rfl) (da_cons (d_nm (pv 0)) da_nil)) (d_one (d_cmp op_ge o_ord (d_nm (pv 0)) d_int)))))

abbrev s_is_count_below : Stmt := topS 3
theorem sc_is_count_below : FnScope ["value", "bound"] ["value", "bound"] (defScope s_is_count_below) := ⟨rfl, rfl, rfl, by decide +kernel, rfl, by decide +kernel, by decide +kernel⟩
def b_is_count_below : M Ctl := (retS (andV (fnM 1 F_is_count (consM (nmM 0) (pureM []))) (binM ltG (nmM 0) (nmM 1))))
noncomputable def F_is_count_below : Fn := runBx ["value", "bound"] 2 (fun _ => 0) b_is_count_below
theorem der_is_count_below (T : Txt mg C) (hk : HK C) (hC : C.K = K) {f_is_count : Addr} {fd_is_count : FuncData} (c_is_count : Ca P w K mg base C xa "is_count" ["value"] 2 F_is_count f_is_count fd_is_count) {qual : Str} {f : Addr} (cdv : Value) (A : Around) (outer : List Env) (s : Shared) (H : Hp) (E : XK) (S : Addr → Prop) (hr : Room 2 (A.deeper (envOfC qual (defScope s_is_count_below) s.heap.objs.size f cdv))) :
    PSs (cxOf CX0 P w K mg base ["value", "bound"] qual (defScope s_is_count_below) f cdv A outer s H E).nox (defBody s_is_count_below) (tS ⟨K, C, E0, xa, S⟩ b_is_count_below) :=
  (ds_one (ds_ret (d_and (d_ca c_is_count rfl (hr.mono (by decide)) (by rfl) (da_cons (d_nm (pv 0)) da_nil)) (d_one (d_cmp op_lt o_ord (d_nm (pv 0)) (d_nm (pv 1)))))))

abbrev s_is_base : Stmt := topS 4
theorem sc_is_base : FnScope ["value"] ["value"] (defScope s_is_base) := ⟨rfl, rfl, rfl, by decide +kernel, rfl, by decide +kernel, by decide +kernel⟩
def b_is_base : M Ctl := (retS (andV (fnM 1 F_is_whole (consM (nmM 0) (pureM []))) (binM geG (nmM 0) (pureM (.int 2)))))
noncomputable def F_is_base : Fn := runBx ["value"] 1 (fun _ => 0) b_is_base
theorem der_is_base (T : Txt mg C) (hk : HK C) (hC : C.K = K) {f_is_whole : Addr} {fd_is_whole : FuncData} (c_is_whole : Ca P w K mg base C xa "is_whole" ["value"] 1 F_is_whole f_is_whole fd_is_whole) {qual : Str} {f : Addr} (cdv : Value) (A : Around) (outer : List Env) (s : Shared) (H : Hp) (E : XK) (S : Addr → Prop) (hr : Room 1 (A.deeper (envOfC qual (defScope s_is_base) s.heap.objs.size f cdv))) :
    PSs (cxOf CX0 P w K mg base ["value"] qual (defScope s_is_base) f cdv A outer s H E).nox (defBody s_is_base) (tS ⟨K, C, E0, xa, S⟩ b_is_base) :=
  (ds_one (ds_ret (d_and (d_ca c_is_whole rfl (hr.mono (by decide)) (by rfl) (da_cons (d_nm (pv 0)) da_nil)) (d_one (d_cmp op_ge o_ord (d_nm (pv 0)) d_int)))))

abbrev s_are_bases : Stmt := topS 5
theorem sc_are_bases : FnScope ["value", "base"] ["value"] (defScope s_are_bases) := ⟨rfl, rfl, rfl, by decide +kernel, rfl, by decide +kernel, by decide +kernel⟩
def b_are_bases : M Ctl := (retS (andV (isB "list" (nmM 0)) (bindM (consM (lcM false (itmM (nmM 0)) (.one 1) [1] (pureM true) (fnM 1 F_is_base (consM (nmM 1) (pureM [])))) (pureM [])) allG)))
noncomputable def F_are_bases : Fn := runBx ["value", "base"] 1 (fun _ => 0) b_are_bases
theorem der_are_bases (T : Txt mg C) (hk : HK C) (hC : C.K = K) {f_is_base : Addr} {fd_is_base : FuncData} (c_is_base : Ca P w K mg base C xa "is_base" ["value"] 2 F_is_base f_is_base fd_is_base) {qual : Str} {f : Addr} (cdv : Value) (A : Around) (outer : List Env) (s : Shared) (H : Hp) (E : XK) (S : Addr → Prop) (hr : Room 2 (A.deeper (envOfC qual (defScope s_are_bases) s.heap.objs.size f cdv))) :
    PSs (cxOf CX0 P w K mg base ["value", "base"] qual (defScope s_are_bases) f cdv A outer s H E).nox (defBody s_are_bases) (tS ⟨K, C, E0, xa, S⟩ b_are_bases) :=
  (ds_one (ds_ret (d_and (d_is hk hC (by decide) (pe_callB call_isi (by rfl) T.isinstance PyProof.Rows.boot_isinstance (pa_cons (d_nm (pv 0)) (pa_cons (pe_bltn (v := .ty "list") (by rfl) T.t_list PyProof.Rows.boot_list rfl) pa_nil)))) (d_one (d_call (o_all) (pe_callB (cr_all rfl) (by rfl) T.all PyProof.Rows.boot_all (da_cons (d_lc (t := (.one 1)) (by decide) (pe_lc (own := [("base", 1)]) (g := Tg.G _ (.one 1)) rfl sc_are_bases.nd (di_list (d_nm (pv 0))) (blkOk_by (own := [("base", 1)]) (N := ["value", "base"]) (sc := defScope s_are_bases) (by decide +kernel)) (fun _ _ _ _ _ => (pg_name (i := 1) sc_are_bases.nd rfl (Or.inl rfl))) (fun _ _ _ _ _ => pts_yes) (fun _ _ _ _ _ => pe_exS fun _ => (d_ca c_is_base rfl (hr.mono (by decide)) (by rfl) (da_cons (d_nm (pv 1)) da_nil))))) da_nil)))))))

abbrev s_are_counts : Stmt := topS 6
theorem sc_are_counts : FnScope ["value", "many", "count"] ["value", "many"] (defScope s_are_counts) := ⟨rfl, rfl, rfl, by decide +kernel, rfl, by decide +kernel, by decide +kernel⟩
def b_are_counts : M Ctl := (retS (andV (isB "list" (nmM 0)) (andV (binM (eqG false) (bindM (consM (nmM 0) (pureM [])) lenG) (nmM 1)) (bindM (consM (lcM false (itmM (nmM 0)) (.one 2) [2] (pureM true) (fnM 1 F_is_count (consM (nmM 2) (pureM [])))) (pureM [])) allG))))
noncomputable def F_are_counts : Fn := runBx ["value", "many", "count"] 2 (fun _ => 0) b_are_counts
theorem der_are_counts (T : Txt mg C) (hk : HK C) (hC : C.K = K) {f_is_count : Addr} {fd_is_count : FuncData} (c_is_count : Ca P w K mg base C xa "is_count" ["value"] 2 F_is_count f_is_count fd_is_count) {qual : Str} {f : Addr} (cdv : Value) (A : Around) (outer : List Env) (s : Shared) (H : Hp) (E : XK) (S : Addr → Prop) (hr : Room 2 (A.deeper (envOfC qual (defScope s_are_counts) s.heap.objs.size f cdv))) :
    PSs (cxOf CX0 P w K mg base ["value", "many", "count"] qual (defScope s_are_counts) f cdv A outer s H E).nox (defBody s_are_counts) (tS ⟨K, C, E0, xa, S⟩ b_are_counts) :=
  (ds_one (ds_ret (d_and (d_is hk hC (by decide) (pe_callB call_isi (by rfl) T.isinstance PyProof.Rows.boot_isinstance (pa_cons (d_nm (pv 0)) (pa_cons (pe_bltn (v := .ty "list") (by rfl) T.t_list PyProof.Rows.boot_list rfl) pa_nil)))) (d_and (d_cmp (op_eqD hr.units) o_eq (d_call (o_len hC) (pe_callB call_len_seq (by rfl) T.len PySem.boot_len (da_cons (d_nm (pv 0)) da_nil))) (d_nm (pv 1))) (d_one (d_call (o_all) (pe_callB (cr_all rfl) (by rfl) T.all PyProof.Rows.boot_all (da_cons (d_lc (t := (.one 2)) (by decide) (pe_lc (own := [("count", 2)]) (g := Tg.G _ (.one 2)) rfl sc_are_counts.nd (di_list (d_nm (pv 0))) (blkOk_by (own := [("count", 2)]) (N := ["value", "many", "count"]) (sc := defScope s_are_counts) (by decide +kernel)) (fun _ _ _ _ _ => (pg_name (i := 2) sc_are_counts.nd rfl (Or.inl rfl))) (fun _ _ _ _ _ => pts_yes) (fun _ _ _ _ _ => pe_exS fun _ => (d_ca c_is_count rfl (hr.mono (by decide)) (by rfl) (da_cons (d_nm (pv 2)) da_nil))))) da_nil))))))))

abbrev s_are_counts_within : Stmt := topS 7
theorem sc_are_counts_within : FnScope ["value", "rooms", "count", "room"] ["value", "rooms"] (defScope s_are_counts_within) := ⟨rfl, rfl, rfl, by decide +kernel, rfl, by decide +kernel, by decide +kernel⟩
def b_are_counts_within : M Ctl := (retS (andV (fnM 2 F_are_counts (consM (nmM 0) (consM (bindM (consM (nmM 1) (pureM [])) lenG) (pureM [])))) (bindM (consM (lcM false (zipM (consM (nmM 0) (consM (nmM 1) (pureM [])))) (.tup [2, 3]) [2, 3] (pureM true) (binM leG (nmM 2) (nmM 3))) (pureM [])) allG)))
noncomputable def F_are_counts_within : Fn := runBx ["value", "rooms", "count", "room"] 2 (fun _ => 0) b_are_counts_within
theorem der_are_counts_within (T : Txt mg C) (hk : HK C) (hC : C.K = K) {f_are_counts : Addr} {fd_are_counts : FuncData} (c_are_counts : Ca P w K mg base C xa "are_counts" ["value", "many"] 3 F_are_counts f_are_counts fd_are_counts) {qual : Str} {f : Addr} (cdv : Value) (A : Around) (outer : List Env) (s : Shared) (H : Hp) (E : XK) (S : Addr → Prop) (hr : Room 3 (A.deeper (envOfC qual (defScope s_are_counts_within) s.heap.objs.size f cdv))) :
    PSs (cxOf CX0 P w K mg base ["value", "rooms", "count", "room"] qual (defScope s_are_counts_within) f cdv A outer s H E).nox (defBody s_are_counts_within) (tS ⟨K, C, E0, xa, S⟩ b_are_counts_within) :=
  (ds_one (ds_ret (d_and (d_ca c_are_counts rfl (hr.mono (by decide)) (by rfl) (da_cons (d_nm (pv 0)) (da_cons (d_call (o_len hC) (pe_callB call_len_seq (by rfl) T.len PySem.boot_len (da_cons (d_nm (pv 1)) da_nil))) da_nil))) (d_one (d_call (o_all) (pe_callB (cr_all rfl) (by rfl) T.all PyProof.Rows.boot_all (da_cons (d_lc (t := (.tup [2, 3])) (by decide) (pe_lc (own := [("count", 2), ("room", 3)]) (g := Tg.G _ (.tup [2, 3])) rfl sc_are_counts_within.nd (di_zip (pi_zip (by rfl) T.zip (da_cons (d_nm (pv 0)) (da_cons (d_nm (pv 1)) da_nil)))) (blkOk_by (own := [("count", 2), ("room", 3)]) (N := ["value", "rooms", "count", "room"]) (sc := defScope s_are_counts_within) (by decide +kernel)) (fun _ _ _ _ _ => (pg_tup rfl (pgs_cons (pg_name (i := 2) sc_are_counts_within.nd rfl (Or.inl rfl)) (pgs_cons (pg_name (i := 3) sc_are_counts_within.nd rfl (Or.inl rfl)) pgs_nil)))) (fun _ _ _ _ _ => pts_yes) (fun _ _ _ _ _ => pe_exS fun _ => (d_cmp op_le o_ord (d_nm (pv 2)) (d_nm (pv 3)))))) da_nil)))))))

abbrev s_House_bases : Stmt := inClass (topS 17) 1
theorem sc_House_bases : FnScope ["self"] ["self"] (defScope s_House_bases) := ⟨rfl, rfl, rfl, by decide +kernel, rfl, by decide +kernel, by decide +kernel⟩
def b_House_bases : M Ctl := (retS (bindM (consM (fldM true (nmM 0)) (pureM [])) (listG newC)))
noncomputable def F_House_bases : Fn := runBx ["self"] 1 (fun _ => 0) b_House_bases
theorem der_House_bases (T : Txt mg C) (hk : HK C) (hC : C.K = K) {qual : Str} {f : Addr} (cdv : Value) (A : Around) (outer : List Env) (s : Shared) (H : Hp) (E : XK) (S : Addr → Prop) (hr : Room 0 (A.deeper (envOfC qual (defScope s_House_bases) s.heap.objs.size f cdv))) :
    PSs (cxOf CX0 P w K mg base ["self"] qual (defScope s_House_bases) f cdv A outer s H E).nox (defBody s_House_bases) (tS ⟨K, C, E0, xa, S⟩ b_House_bases) :=
  (ds_one (ds_ret (d_call (o_list mkC) (pe_callTy call_list_of (by rfl) T.t_list PyProof.Rows.boot_list (da_cons (d_fldB hk hC (d_nm (pv 0)) rfl) da_nil)))))

abbrev s_House_rooms : Stmt := inClass (topS 17) 2
theorem sc_House_rooms : FnScope ["self"] ["self"] (defScope s_House_rooms) := ⟨rfl, rfl, rfl, by decide +kernel, rfl, by decide +kernel, by decide +kernel⟩
def b_House_rooms : M Ctl := (retS (bindM (consM (fldM false (nmM 0)) (pureM [])) (listG newC)))
noncomputable def F_House_rooms : Fn := runBx ["self"] 1 (fun _ => 0) b_House_rooms
noncomputable def F_House_rooms_x : Fn := runBx ["self"] 1 (fun _ => 1) b_House_rooms
theorem der_House_rooms (T : Txt mg C) (hk : HK C) (hC : C.K = K) {qual : Str} {f : Addr} (cdv : Value) (A : Around) (outer : List Env) (s : Shared) (H : Hp) (E : XK) (S : Addr → Prop) (hr : Room 0 (A.deeper (envOfC qual (defScope s_House_rooms) s.heap.objs.size f cdv))) :
    PSs (cxOf CX0 P w K mg base ["self"] qual (defScope s_House_rooms) f cdv A outer s H E).nox (defBody s_House_rooms) (tS ⟨K, C, E0, xa, S⟩ b_House_rooms) :=
  (ds_one (ds_ret (d_call (o_list mkC) (pe_callTy call_list_of (by rfl) T.t_list PyProof.Rows.boot_list (da_cons (d_fldR hk hC (d_nm (pv 0)) rfl) da_nil)))))

abbrev s_House_places : Stmt := inClass (topS 17) 3
theorem sc_House_places : FnScope ["self"] ["self"] (defScope s_House_places) := ⟨rfl, rfl, rfl, by decide +kernel, rfl, by decide +kernel, by decide +kernel⟩
def b_House_places : M Ctl := (retS (bindM (consM (fldM false (nmM 0)) (pureM [])) lenG))
noncomputable def F_House_places : Fn := runBx ["self"] 1 (fun _ => 0) b_House_places
theorem der_House_places (T : Txt mg C) (hk : HK C) (hC : C.K = K) {qual : Str} {f : Addr} (cdv : Value) (A : Around) (outer : List Env) (s : Shared) (H : Hp) (E : XK) (S : Addr → Prop) (hr : Room 0 (A.deeper (envOfC qual (defScope s_House_places) s.heap.objs.size f cdv))) :
    PSs (cxOf CX0 P w K mg base ["self"] qual (defScope s_House_places) f cdv A outer s H E).nox (defBody s_House_places) (tS ⟨K, C, E0, xa, S⟩ b_House_places) :=
  (ds_one (ds_ret (d_call (o_len hC) (pe_callB call_len_seq (by rfl) T.len PySem.boot_len (da_cons (d_fldR hk hC (d_nm (pv 0)) rfl) da_nil)))))

abbrev s_check_house : Stmt := topS 18
theorem sc_check_house : FnScope ["house"] ["house"] (defScope s_check_house) := ⟨rfl, rfl, rfl, by decide +kernel, rfl, by decide +kernel, by decide +kernel⟩
def b_check_house : M Ctl := (ifM (notT (testM (isH (nmM 0)))) failM (pureM .nx))
noncomputable def F_check_house : Fn := runBx ["house"] 1 (fun _ => 0) b_check_house
theorem der_check_house (T : Txt mg C) (hk : HK C) (hC : C.K = K) {qual : Str} {f : Addr} (cdv : Value) (A : Around) (outer : List Env) (s : Shared) (H : Hp) (E : XK) (S : Addr → Prop) (hr : Room 0 (A.deeper (envOfC qual (defScope s_check_house) s.heap.objs.size f cdv))) :
    PSs (cxOf CX0 P w K mg base ["house"] qual (defScope s_check_house) f cdv A outer s H E).nox (defBody s_check_house) (tS ⟨K, C, E0, xa, S⟩ b_check_house) :=
  (ds_one (ds_if (dt_not (dt_val (d_isH hk hC (pe_callB call_isi (by rfl) T.isinstance PyProof.Rows.boot_isinstance (pa_cons (d_nm (pv 0)) (pa_cons (pe_glob (by rfl) T.House rfl) pa_nil)))))) (ds_one ds_never) ds_nil))

abbrev s_check_place : Stmt := topS 19
theorem sc_check_place : FnScope ["house", "place"] ["house", "place"] (defScope s_check_place) := ⟨rfl, rfl, rfl, by decide +kernel, rfl, by decide +kernel, by decide +kernel⟩
def b_check_place : M Ctl := (ifM (notT (testM (fnM 2 F_is_count_below (consM (nmM 1) (consM (metM 1 F_House_places (nmM 0) (pureM [])) (pureM [])))))) failM (pureM .nx))
noncomputable def F_check_place : Fn := runBx ["house", "place"] 2 (fun _ => 0) b_check_place
theorem der_check_place (T : Txt mg C) (hk : HK C) (hC : C.K = K) {f_is_count_below : Addr} {fd_is_count_below : FuncData} (c_is_count_below : Ca P w K mg base C xa "is_count_below" ["value", "bound"] 3 F_is_count_below f_is_count_below fd_is_count_below) {f_House_places : Addr} {fd_House_places : FuncData} (c_House_places : Cm P w K mg base C xa "places" 1 F_House_places f_House_places fd_House_places) {qual : Str} {f : Addr} (cdv : Value) (A : Around) (outer : List Env) (s : Shared) (H : Hp) (E : XK) (S : Addr → Prop) (hr : Room 3 (A.deeper (envOfC qual (defScope s_check_place) s.heap.objs.size f cdv))) :
    PSs (cxOf CX0 P w K mg base ["house", "place"] qual (defScope s_check_place) f cdv A outer s H E).nox (defBody s_check_place) (tS ⟨K, C, E0, xa, S⟩ b_check_place) :=
  (ds_one (ds_if (dt_not (dt_val (d_ca c_is_count_below rfl (hr.mono (by decide)) (by rfl) (da_cons (d_nm (pv 1)) (da_cons (d_cm c_House_places rfl (hr.mono (by decide)) nl_places (d_nm (pv 0))) da_nil))))) (ds_one ds_never) ds_nil))

abbrev s_check_like_houses : Stmt := topS 20
theorem sc_check_like_houses : FnScope ["one", "other"] ["one", "other"] (defScope s_check_like_houses) := ⟨rfl, rfl, rfl, by decide +kernel, rfl, by decide +kernel, by decide +kernel⟩
def b_check_like_houses : M Ctl := (seqM (dropM (fnM 1 F_check_house (consM (nmM 0) (pureM []))))
    (seqM (dropM (fnM 1 F_check_house (consM (nmM 1) (pureM []))))
    (ifM (testM (binM (eqG true) (metM 1 F_House_bases (nmM 0) (pureM [])) (metM 1 F_House_bases (nmM 1) (pureM [])))) failM (pureM .nx))))
noncomputable def F_check_like_houses : Fn := runBx ["one", "other"] 2 (fun _ => 0) b_check_like_houses
theorem der_check_like_houses (T : Txt mg C) (hk : HK C) (hC : C.K = K) {f_check_house : Addr} {fd_check_house : FuncData} (c_check_house : Ca P w K mg base C xa "check_house" ["house"] 1 F_check_house f_check_house fd_check_house) {f_House_bases : Addr} {fd_House_bases : FuncData} (c_House_bases : Cm P w K mg base C xa "bases" 1 F_House_bases f_House_bases fd_House_bases) {qual : Str} {f : Addr} (cdv : Value) (A : Around) (outer : List Env) (s : Shared) (H : Hp) (E : XK) (S : Addr → Prop) (hr : Room 1 (A.deeper (envOfC qual (defScope s_check_like_houses) s.heap.objs.size f cdv))) :
    PSs (cxOf CX0 P w K mg base ["one", "other"] qual (defScope s_check_like_houses) f cdv A outer s H E).nox (defBody s_check_like_houses) (tS ⟨K, C, E0, xa, S⟩ b_check_like_houses) :=
  (ds_cons (ds_expr (ps_expr (d_ca c_check_house rfl (hr.mono (by decide)) (by rfl) (da_cons (d_nm (pv 0)) da_nil))))
    (ds_cons (ds_expr (ps_expr (d_ca c_check_house rfl (hr.mono (by decide)) (by rfl) (da_cons (d_nm (pv 1)) da_nil))))
    (ds_one (ds_if (dt_cmp (op_neD hr.units) o_ne (d_cm c_House_bases rfl (hr.mono (by decide)) nl_bases (d_nm (pv 0))) (d_cm c_House_bases rfl (hr.mono (by decide)) nl_bases (d_nm (pv 1)))) (ds_one ds_never) ds_nil))))

abbrev s_weights : Stmt := topS 21
theorem sc_weights : FnScope ["house", "found", "base"] ["house"] (defScope s_weights) := ⟨rfl, rfl, rfl, by decide +kernel, rfl, by decide +kernel, by decide +kernel⟩
def b_weights : M Ctl := (seqM (dropM (fnM 1 F_check_house (consM (nmM 0) (pureM []))))
    (seqM (asgM (bindM (consM (pureM (.int 1)) (pureM [])) newC) (.one 1))
    (seqM (forM (itmM (metM 1 F_House_bases (nmM 0) (pureM []))) (.one 2) (dropM (appM (nmM 1) (consM (binM mulG (binM ixG (nmM 1) (bindM (pureM (.int 1)) negG)) (nmM 2)) (pureM [])))))
    (retS (nmM 1)))))
noncomputable def F_weights : Fn := runBx ["house", "found", "base"] 1 (fun _ => 0) b_weights
theorem der_weights (T : Txt mg C) (hk : HK C) (hC : C.K = K) {f_check_house : Addr} {fd_check_house : FuncData} (c_check_house : Ca P w K mg base C xa "check_house" ["house"] 1 F_check_house f_check_house fd_check_house) {f_House_bases : Addr} {fd_House_bases : FuncData} (c_House_bases : Cm P w K mg base C xa "bases" 1 F_House_bases f_House_bases fd_House_bases) {qual : Str} {f : Addr} (cdv : Value) (A : Around) (outer : List Env) (s : Shared) (H : Hp) (E : XK) (S : Addr → Prop) (hr : Room 1 (A.deeper (envOfC qual (defScope s_weights) s.heap.objs.size f cdv))) :
    PSs (cxOf CX0 P w K mg base ["house", "found", "base"] qual (defScope s_weights) f cdv A outer s H E).nox (defBody s_weights) (tS ⟨K, C, E0, xa, S⟩ b_weights) :=
  (ds_cons (ds_expr (ps_expr (d_ca c_check_house rfl (hr.mono (by decide)) (by rfl) (da_cons (d_nm (pv 0)) da_nil))))
    (ds_cons (ds_asg (t := .one 1) (ps_set (i := 1) sc_weights.nd rfl (Or.inl rfl) (d_lst mkC (da_cons d_int da_nil))) rfl)
    (ds_cons (ds_for (t := (.one 2)) (ps_for PassesOwn.never rfl (di_list (d_cm c_House_bases rfl (hr.mono (by decide)) nl_bases (d_nm (pv 0)))) (pg_name (i := 2) sc_weights.nd rfl (Or.inl rfl)) (ds_one (ds_expr (ps_expr (d_app hC (pe_bm PySem.F.plainAttrs_list PySem.F.slot_list_append PySem.F.type_list_append mt_append (d_nm (pv 1)) (da_cons (d_mul (d_ix (d_nm (pv 1)) (d_neg d_int) (fun _ _ => rfl)) (d_nm (pv 2))) da_nil))))))))
    (ds_one (ds_ret (d_nm (pv 1)))))))

abbrev s_held_up_to : Stmt := topS 22
theorem sc_held_up_to : FnScope ["house", "held", "found", "room", "weight"] ["house"] (defScope s_held_up_to) := ⟨rfl, rfl, rfl, by decide +kernel, rfl, by decide +kernel, by decide +kernel⟩
def b_held_up_to : M Ctl := (seqM (dropM (fnM 1 F_check_house (consM (nmM 0) (pureM []))))
    (seqM (asgM (pureM (.int 0)) (.one 1))
    (seqM (asgM (bindM (pureM []) newC) (.one 2))
    (seqM (forM (zipM (consM (metM 1 F_House_rooms (nmM 0) (pureM [])) (consM (fnM 1 F_weights (consM (nmM 0) (pureM []))) (pureM [])))) (.tup [3, 4]) (seqM (augM 1 iaddG (binM mulG (nmM 3) (nmM 4)))
    (dropM (appM (nmM 2) (consM (nmM 1) (pureM []))))))
    (retS (nmM 2))))))
noncomputable def F_held_up_to : Fn := runBx ["house", "held", "found", "room", "weight"] 1 (fun _ => 0) b_held_up_to
theorem der_held_up_to (T : Txt mg C) (hk : HK C) (hC : C.K = K) {f_check_house : Addr} {fd_check_house : FuncData} (c_check_house : Ca P w K mg base C xa "check_house" ["house"] 1 F_check_house f_check_house fd_check_house) {f_weights : Addr} {fd_weights : FuncData} (c_weights : Ca P w K mg base C xa "weights" ["house"] 2 F_weights f_weights fd_weights) {f_House_rooms : Addr} {fd_House_rooms : FuncData} (c_House_rooms : Cm P w K mg base C xa "rooms" 1 F_House_rooms f_House_rooms fd_House_rooms) {qual : Str} {f : Addr} (cdv : Value) (A : Around) (outer : List Env) (s : Shared) (H : Hp) (E : XK) (S : Addr → Prop) (hr : Room 2 (A.deeper (envOfC qual (defScope s_held_up_to) s.heap.objs.size f cdv))) :
    PSs (cxOf CX0 P w K mg base ["house", "held", "found", "room", "weight"] qual (defScope s_held_up_to) f cdv A outer s H E).nox (defBody s_held_up_to) (tS ⟨K, C, E0, xa, S⟩ b_held_up_to) :=
  (ds_cons (ds_expr (ps_expr (d_ca c_check_house rfl (hr.mono (by decide)) (by rfl) (da_cons (d_nm (pv 0)) da_nil))))
    (ds_cons (ds_asg (t := .one 1) (ps_set (i := 1) sc_held_up_to.nd rfl (Or.inl rfl) d_int) rfl)
    (ds_cons (ds_asg (t := .one 2) (ps_set (i := 2) sc_held_up_to.nd rfl (Or.inl rfl) (d_lst mkC da_nil)) rfl)
    (ds_cons (ds_for (t := (.tup [3, 4])) (ps_for PassesOwn.never rfl (di_zip (pi_zip (by rfl) T.zip (da_cons (d_cm c_House_rooms rfl (hr.mono (by decide)) nl_rooms (d_nm (pv 0))) (da_cons (d_ca c_weights rfl (hr.mono (by decide)) (by rfl) (da_cons (d_nm (pv 0)) da_nil)) da_nil)))) (pg_tup rfl (pgs_cons (pg_name (i := 3) sc_held_up_to.nd rfl (Or.inl rfl)) (pgs_cons (pg_name (i := 4) sc_held_up_to.nd rfl (Or.inl rfl)) pgs_nil))) (ds_cons (ds_aug o_ipadd (ps_aug (i := 1) sc_held_up_to.nd rfl (Or.inl rfl) (d_mul (d_nm (pv 3)) (d_nm (pv 4))) ip_add))
    (ds_one (ds_expr (ps_expr (d_app hC (pe_bm PySem.F.plainAttrs_list PySem.F.slot_list_append PySem.F.type_list_append mt_append (d_nm (pv 2)) (da_cons (d_nm (pv 1)) da_nil)))))))))
    (ds_one (ds_ret (d_nm (pv 2))))))))

abbrev s_many_rows : Stmt := topS 23
theorem sc_many_rows : FnScope ["house", "many", "room"] ["house"] (defScope s_many_rows) := ⟨rfl, rfl, rfl, by decide +kernel, rfl, by decide +kernel, by decide +kernel⟩
def b_many_rows : M Ctl := (seqM (dropM (fnM 1 F_check_house (consM (nmM 0) (pureM []))))
    (seqM (asgM (pureM (.int 1)) (.one 1))
    (seqM (forM (itmM (metM 1 F_House_rooms (nmM 0) (pureM []))) (.one 2) (asgM (binM mulG (nmM 1) (binM (addG newL) (nmM 2) (pureM (.int 1)))) (.one 1)))
    (retS (nmM 1)))))
noncomputable def F_many_rows : Fn := runBx ["house", "many", "room"] 1 (fun _ => 0) b_many_rows
theorem der_many_rows (T : Txt mg C) (hk : HK C) (hC : C.K = K) {f_check_house : Addr} {fd_check_house : FuncData} (c_check_house : Ca P w K mg base C xa "check_house" ["house"] 1 F_check_house f_check_house fd_check_house) {f_House_rooms : Addr} {fd_House_rooms : FuncData} (c_House_rooms : Cm P w K mg base C xa "rooms" 1 F_House_rooms f_House_rooms fd_House_rooms) {qual : Str} {f : Addr} (cdv : Value) (A : Around) (outer : List Env) (s : Shared) (H : Hp) (E : XK) (S : Addr → Prop) (hr : Room 1 (A.deeper (envOfC qual (defScope s_many_rows) s.heap.objs.size f cdv))) :
    PSs (cxOf CX0 P w K mg base ["house", "many", "room"] qual (defScope s_many_rows) f cdv A outer s H E).nox (defBody s_many_rows) (tS ⟨K, C, E0, xa, S⟩ b_many_rows) :=
  (ds_cons (ds_expr (ps_expr (d_ca c_check_house rfl (hr.mono (by decide)) (by rfl) (da_cons (d_nm (pv 0)) da_nil))))
    (ds_cons (ds_asg (t := .one 1) (ps_set (i := 1) sc_many_rows.nd rfl (Or.inl rfl) d_int) rfl)
    (ds_cons (ds_for (t := (.one 2)) (ps_for PassesOwn.never rfl (di_list (d_cm c_House_rooms rfl (hr.mono (by decide)) nl_rooms (d_nm (pv 0)))) (pg_name (i := 2) sc_many_rows.nd rfl (Or.inl rfl)) (ds_one (ds_asg (t := .one 1) (ps_set (i := 1) sc_many_rows.nd rfl (Or.inl rfl) (d_mul (d_nm (pv 1)) (d_add mkL (d_nm (pv 2)) d_int))) rfl))))
    (ds_one (ds_ret (d_nm (pv 1)))))))

abbrev s_is_within : Stmt := topS 24
theorem sc_is_within : FnScope ["one", "other"] ["one", "other"] (defScope s_is_within) := ⟨rfl, rfl, rfl, by decide +kernel, rfl, by decide +kernel, by decide +kernel⟩
def b_is_within : M Ctl := (seqM (dropM (fnM 1 F_check_house (consM (nmM 0) (pureM []))))
    (seqM (dropM (fnM 1 F_check_house (consM (nmM 1) (pureM []))))
    (retS (andV (binM (eqG false) (metM 1 F_House_bases (nmM 0) (pureM [])) (metM 1 F_House_bases (nmM 1) (pureM []))) (fnM 2 F_are_counts_within (consM (metM 1 F_House_rooms (nmM 0) (pureM [])) (consM (metM 1 F_House_rooms (nmM 1) (pureM [])) (pureM []))))))))
noncomputable def F_is_within : Fn := runBx ["one", "other"] 2 (fun _ => 0) b_is_within
theorem der_is_within (T : Txt mg C) (hk : HK C) (hC : C.K = K) {f_check_house : Addr} {fd_check_house : FuncData} (c_check_house : Ca P w K mg base C xa "check_house" ["house"] 1 F_check_house f_check_house fd_check_house) {f_House_bases : Addr} {fd_House_bases : FuncData} (c_House_bases : Cm P w K mg base C xa "bases" 1 F_House_bases f_House_bases fd_House_bases) {f_are_counts_within : Addr} {fd_are_counts_within : FuncData} (c_are_counts_within : Ca P w K mg base C xa "are_counts_within" ["value", "rooms"] 4 F_are_counts_within f_are_counts_within fd_are_counts_within) {f_House_rooms : Addr} {fd_House_rooms : FuncData} (c_House_rooms : Cm P w K mg base C xa "rooms" 1 F_House_rooms f_House_rooms fd_House_rooms) {qual : Str} {f : Addr} (cdv : Value) (A : Around) (outer : List Env) (s : Shared) (H : Hp) (E : XK) (S : Addr → Prop) (hr : Room 4 (A.deeper (envOfC qual (defScope s_is_within) s.heap.objs.size f cdv))) :
    PSs (cxOf CX0 P w K mg base ["one", "other"] qual (defScope s_is_within) f cdv A outer s H E).nox (defBody s_is_within) (tS ⟨K, C, E0, xa, S⟩ b_is_within) :=
  (ds_cons (ds_expr (ps_expr (d_ca c_check_house rfl (hr.mono (by decide)) (by rfl) (da_cons (d_nm (pv 0)) da_nil))))
    (ds_cons (ds_expr (ps_expr (d_ca c_check_house rfl (hr.mono (by decide)) (by rfl) (da_cons (d_nm (pv 1)) da_nil))))
    (ds_one (ds_ret (d_and (d_cmp (op_eqD hr.units) o_eq (d_cm c_House_bases rfl (hr.mono (by decide)) nl_bases (d_nm (pv 0))) (d_cm c_House_bases rfl (hr.mono (by decide)) nl_bases (d_nm (pv 1)))) (d_one (d_ca c_are_counts_within rfl (hr.mono (by decide)) (by rfl) (da_cons (d_cm c_House_rooms rfl (hr.mono (by decide)) nl_rooms (d_nm (pv 0))) (da_cons (d_cm c_House_rooms rfl (hr.mono (by decide)) nl_rooms (d_nm (pv 1))) da_nil)))))))))

abbrev s_lesser_house : Stmt := topS 25
theorem sc_lesser_house : FnScope ["one", "other", "first", "second"] ["one", "other"] (defScope s_lesser_house) := ⟨rfl, rfl, rfl, by decide +kernel, rfl, by decide +kernel, by decide +kernel⟩
def b_lesser_house : M Ctl := (seqM (dropM (fnM 2 F_check_like_houses (consM (nmM 0) (consM (nmM 1) (pureM [])))))
    (retS (bindM (consM (metM 1 F_House_bases (nmM 0) (pureM [])) (consM (lcM false (zipM (consM (metM 1 F_House_rooms (nmM 0) (pureM [])) (consM (metM 1 F_House_rooms (nmM 1) (pureM [])) (pureM [])))) (.tup [2, 3]) [2, 3] (pureM true) (bindM (consM (nmM 2) (consM (nmM 3) (pureM []))) minG)) (pureM []))) (makG F_House))))
noncomputable def F_lesser_house : Fn := runBx ["one", "other", "first", "second"] 2 (fun _ => 0) b_lesser_house
theorem der_lesser_house (T : Txt mg C) (hk : HK C) (hC : C.K = K) {f_check_like_houses : Addr} {fd_check_like_houses : FuncData} (c_check_like_houses : Ca P w K mg base C xa "check_like_houses" ["one", "other"] 2 F_check_like_houses f_check_like_houses fd_check_like_houses) {fI : Addr} {fdI : FuncData} (M : HMk P w K mg base C xa 4 F_House fI fdI) {f_House_rooms : Addr} {fd_House_rooms : FuncData} (c_House_rooms : Cm P w K mg base C xa "rooms" 1 F_House_rooms f_House_rooms fd_House_rooms) {f_House_bases : Addr} {fd_House_bases : FuncData} (c_House_bases : Cm P w K mg base C xa "bases" 1 F_House_bases f_House_bases fd_House_bases) {qual : Str} {f : Addr} (cdv : Value) (A : Around) (outer : List Env) (s : Shared) (H : Hp) (E : XK) (S : Addr → Prop) (hr : Room 5 (A.deeper (envOfC qual (defScope s_lesser_house) s.heap.objs.size f cdv))) :
    PSs (cxOf CX0 P w K mg base ["one", "other", "first", "second"] qual (defScope s_lesser_house) f cdv A outer s H E).nox (defBody s_lesser_house) (tS ⟨K, C, E0, xa, S⟩ b_lesser_house) :=
  (ds_cons (ds_expr (ps_expr (d_ca c_check_like_houses rfl (hr.mono (by decide)) (by rfl) (da_cons (d_nm (pv 0)) (da_cons (d_nm (pv 1)) da_nil)))))
    (ds_one (ds_ret (d_make (pe_make M.ma M.ok (hr.mono (by decide)) (by rfl) T.House M.b .nil pass0 (da_cons (d_cm c_House_bases rfl (hr.mono (by decide)) nl_bases (d_nm (pv 0))) (da_cons (d_lc (t := (.tup [2, 3])) (by decide) (pe_lc (own := [("first", 2), ("second", 3)]) (g := Tg.G _ (.tup [2, 3])) rfl sc_lesser_house.nd (di_zip (pi_zip (by rfl) T.zip (da_cons (d_cm c_House_rooms rfl (hr.mono (by decide)) nl_rooms (d_nm (pv 0))) (da_cons (d_cm c_House_rooms rfl (hr.mono (by decide)) nl_rooms (d_nm (pv 1))) da_nil)))) (blkOk_by (own := [("first", 2), ("second", 3)]) (N := ["one", "other", "first", "second"]) (sc := defScope s_lesser_house) (by decide +kernel)) (fun _ _ _ _ _ => (pg_tup rfl (pgs_cons (pg_name (i := 2) sc_lesser_house.nd rfl (Or.inl rfl)) (pgs_cons (pg_name (i := 3) sc_lesser_house.nd rfl (Or.inl rfl)) pgs_nil)))) (fun _ _ _ _ _ => pts_yes) (fun _ _ _ _ _ => pe_exS fun _ => (d_call (o_min) (pe_callB (call_min2 rfl) (by rfl) T.min PyProof.Rows.boot_min (da_cons (d_nm (pv 2)) (da_cons (d_nm (pv 3)) da_nil))))))) da_nil)))))))

abbrev s_greater_house : Stmt := topS 26
theorem sc_greater_house : FnScope ["one", "other", "first", "second"] ["one", "other"] (defScope s_greater_house) := ⟨rfl, rfl, rfl, by decide +kernel, rfl, by decide +kernel, by decide +kernel⟩
def b_greater_house : M Ctl := (seqM (dropM (fnM 2 F_check_like_houses (consM (nmM 0) (consM (nmM 1) (pureM [])))))
    (retS (bindM (consM (metM 1 F_House_bases (nmM 0) (pureM [])) (consM (lcM false (zipM (consM (metM 1 F_House_rooms (nmM 0) (pureM [])) (consM (metM 1 F_House_rooms (nmM 1) (pureM [])) (pureM [])))) (.tup [2, 3]) [2, 3] (pureM true) (bindM (consM (nmM 2) (consM (nmM 3) (pureM []))) maxG)) (pureM []))) (makG F_House))))
noncomputable def F_greater_house : Fn := runBx ["one", "other", "first", "second"] 2 (fun _ => 0) b_greater_house
theorem der_greater_house (T : Txt mg C) (hk : HK C) (hC : C.K = K) {f_check_like_houses : Addr} {fd_check_like_houses : FuncData} (c_check_like_houses : Ca P w K mg base C xa "check_like_houses" ["one", "other"] 2 F_check_like_houses f_check_like_houses fd_check_like_houses) {fI : Addr} {fdI : FuncData} (M : HMk P w K mg base C xa 4 F_House fI fdI) {f_House_rooms : Addr} {fd_House_rooms : FuncData} (c_House_rooms : Cm P w K mg base C xa "rooms" 1 F_House_rooms f_House_rooms fd_House_rooms) {f_House_bases : Addr} {fd_House_bases : FuncData} (c_House_bases : Cm P w K mg base C xa "bases" 1 F_House_bases f_House_bases fd_House_bases) {qual : Str} {f : Addr} (cdv : Value) (A : Around) (outer : List Env) (s : Shared) (H : Hp) (E : XK) (S : Addr → Prop) (hr : Room 5 (A.deeper (envOfC qual (defScope s_greater_house) s.heap.objs.size f cdv))) :
    PSs (cxOf CX0 P w K mg base ["one", "other", "first", "second"] qual (defScope s_greater_house) f cdv A outer s H E).nox (defBody s_greater_house) (tS ⟨K, C, E0, xa, S⟩ b_greater_house) :=
  (ds_cons (ds_expr (ps_expr (d_ca c_check_like_houses rfl (hr.mono (by decide)) (by rfl) (da_cons (d_nm (pv 0)) (da_cons (d_nm (pv 1)) da_nil)))))
    (ds_one (ds_ret (d_make (pe_make M.ma M.ok (hr.mono (by decide)) (by rfl) T.House M.b .nil pass0 (da_cons (d_cm c_House_bases rfl (hr.mono (by decide)) nl_bases (d_nm (pv 0))) (da_cons (d_lc (t := (.tup [2, 3])) (by decide) (pe_lc (own := [("first", 2), ("second", 3)]) (g := Tg.G _ (.tup [2, 3])) rfl sc_greater_house.nd (di_zip (pi_zip (by rfl) T.zip (da_cons (d_cm c_House_rooms rfl (hr.mono (by decide)) nl_rooms (d_nm (pv 0))) (da_cons (d_cm c_House_rooms rfl (hr.mono (by decide)) nl_rooms (d_nm (pv 1))) da_nil)))) (blkOk_by (own := [("first", 2), ("second", 3)]) (N := ["one", "other", "first", "second"]) (sc := defScope s_greater_house) (by decide +kernel)) (fun _ _ _ _ _ => (pg_tup rfl (pgs_cons (pg_name (i := 2) sc_greater_house.nd rfl (Or.inl rfl)) (pgs_cons (pg_name (i := 3) sc_greater_house.nd rfl (Or.inl rfl)) pgs_nil)))) (fun _ _ _ _ _ => pts_yes) (fun _ _ _ _ _ => pe_exS fun _ => (d_call (o_max) (pe_callB (CallR.or2 (call_max2 rfl) (cr_max rfl)) (by rfl) T.max PyProof.Rows.boot_max (da_cons (d_nm (pv 2)) (da_cons (d_nm (pv 3)) da_nil))))))) da_nil)))))))

abbrev s_with_room : Stmt := topS 27
theorem sc_with_room : FnScope ["house", "place", "room", "rooms"] ["house", "place", "room"] (defScope s_with_room) := ⟨rfl, rfl, rfl, by decide +kernel, rfl, by decide +kernel, by decide +kernel⟩
def b_with_room : M Ctl := (seqM (dropM (fnM 1 F_check_house (consM (nmM 0) (pureM []))))
    (seqM (dropM (fnM 2 F_check_place (consM (nmM 0) (consM (nmM 1) (pureM [])))))
    (seqM (ifM (notT (testM (fnM 1 F_is_count (consM (nmM 2) (pureM []))))) failM (pureM .nx))
    (seqM (asgM (metM 1 F_House_rooms_x (nmM 0) (pureM [])) (.one 3))
    (seqM (sasM (nmM 2) (nmM 3) (nmM 1))
    (retS (bindM (consM (metM 1 F_House_bases (nmM 0) (pureM [])) (consM (frnM 3) (pureM []))) (makG F_House))))))))
noncomputable def F_with_room : Fn := runBx ["house", "place", "room", "rooms"] 3 (fun _ => 0) b_with_room
theorem der_with_room (T : Txt mg C) (hk : HK C) (hC : C.K = K) {f_check_house : Addr} {fd_check_house : FuncData} (c_check_house : Ca P w K mg base C xa "check_house" ["house"] 1 F_check_house f_check_house fd_check_house) {f_check_place : Addr} {fd_check_place : FuncData} (c_check_place : Ca P w K mg base C xa "check_place" ["house", "place"] 4 F_check_place f_check_place fd_check_place) {f_is_count : Addr} {fd_is_count : FuncData} (c_is_count : Ca P w K mg base C xa "is_count" ["value"] 2 F_is_count f_is_count fd_is_count) {f_House_rooms_x : Addr} {fd_House_rooms_x : FuncData} (c_House_rooms_x : Cm P w K mg base C xa "rooms" 1 F_House_rooms_x f_House_rooms_x fd_House_rooms_x) {fI : Addr} {fdI : FuncData} (M : HMk P w K mg base C xa 4 F_House fI fdI) {f_House_bases : Addr} {fd_House_bases : FuncData} (c_House_bases : Cm P w K mg base C xa "bases" 1 F_House_bases f_House_bases fd_House_bases) {qual : Str} {f : Addr} (cdv : Value) (A : Around) (outer : List Env) (s : Shared) (H : Hp) (E : XK) (S : Addr → Prop) (hr : Room 5 (A.deeper (envOfC qual (defScope s_with_room) s.heap.objs.size f cdv))) :
    PSs (cxOf CX0 P w K mg base ["house", "place", "room", "rooms"] qual (defScope s_with_room) f cdv A outer s H E).nox (defBody s_with_room) (tS ⟨K, C, E0, xa, S⟩ b_with_room) :=
  (ds_cons (ds_expr (ps_expr (d_ca c_check_house rfl (hr.mono (by decide)) (by rfl) (da_cons (d_nm (pv 0)) da_nil))))
    (ds_cons (ds_expr (ps_expr (d_ca c_check_place rfl (hr.mono (by decide)) (by rfl) (da_cons (d_nm (pv 0)) (da_cons (d_nm (pv 1)) da_nil)))))
    (ds_cons (ds_if (dt_not (dt_val (d_ca c_is_count rfl (hr.mono (by decide)) (by rfl) (da_cons (d_nm (pv 2)) da_nil)))) (ds_one ds_never) ds_nil)
    (ds_cons (ds_asg (t := .one 3) (ps_set (i := 3) sc_with_room.nd rfl (Or.inl rfl) (d_cm c_House_rooms_x rfl (hr.mono (by decide)) nl_rooms (d_nm (pv 0)))) rfl)
    (ds_cons (ds_sas (ps_asg (d_nm (pv 2)) (pg_sub (d_nm (pv 3)) (d_nm (pv 1)) set_list)))
    (ds_one (ds_ret (d_make (pe_make M.ma M.ok (hr.mono (by decide)) (by rfl) T.House M.b .nil pass0 (da_cons (d_cm c_House_bases rfl (hr.mono (by decide)) nl_bases (d_nm (pv 0))) (da_cons (d_frn (pv 3)) da_nil)))))))))))

abbrev s_stretch : Stmt := topS 28
theorem sc_stretch : FnScope ["house", "first", "last"] ["house", "first", "last"] (defScope s_stretch) := ⟨rfl, rfl, rfl, by decide +kernel, rfl, by decide +kernel, by decide +kernel⟩
def b_stretch : M Ctl := (seqM (dropM (fnM 1 F_check_house (consM (nmM 0) (pureM []))))
    (seqM (dropM (fnM 2 F_check_place (consM (nmM 0) (consM (nmM 1) (pureM [])))))
    (seqM (dropM (fnM 2 F_check_place (consM (nmM 0) (consM (nmM 2) (pureM [])))))
    (seqM (ifM (testM (binM ltG (nmM 2) (nmM 1))) failM (pureM .nx))
    (retS (bindM (consM (sliM newL (metM 1 F_House_bases (nmM 0) (pureM [])) (partM (nmM 1)) (partM (nmM 2))) (consM (sliM newL (metM 1 F_House_rooms (nmM 0) (pureM [])) (partM (nmM 1)) (partM (binM (addG newL) (nmM 2) (pureM (.int 1))))) (pureM []))) (makG F_House)))))))
noncomputable def F_stretch : Fn := runBx ["house", "first", "last"] 3 (fun _ => 0) b_stretch
theorem der_stretch (T : Txt mg C) (hk : HK C) (hC : C.K = K) {f_check_house : Addr} {fd_check_house : FuncData} (c_check_house : Ca P w K mg base C xa "check_house" ["house"] 1 F_check_house f_check_house fd_check_house) {f_check_place : Addr} {fd_check_place : FuncData} (c_check_place : Ca P w K mg base C xa "check_place" ["house", "place"] 4 F_check_place f_check_place fd_check_place) {fI : Addr} {fdI : FuncData} (M : HMk P w K mg base C xa 4 F_House fI fdI) {f_House_rooms : Addr} {fd_House_rooms : FuncData} (c_House_rooms : Cm P w K mg base C xa "rooms" 1 F_House_rooms f_House_rooms fd_House_rooms) {f_House_bases : Addr} {fd_House_bases : FuncData} (c_House_bases : Cm P w K mg base C xa "bases" 1 F_House_bases f_House_bases fd_House_bases) {qual : Str} {f : Addr} (cdv : Value) (A : Around) (outer : List Env) (s : Shared) (H : Hp) (E : XK) (S : Addr → Prop) (hr : Room 5 (A.deeper (envOfC qual (defScope s_stretch) s.heap.objs.size f cdv))) :
    PSs (cxOf CX0 P w K mg base ["house", "first", "last"] qual (defScope s_stretch) f cdv A outer s H E).nox (defBody s_stretch) (tS ⟨K, C, E0, xa, S⟩ b_stretch) :=
  (ds_cons (ds_expr (ps_expr (d_ca c_check_house rfl (hr.mono (by decide)) (by rfl) (da_cons (d_nm (pv 0)) da_nil))))
    (ds_cons (ds_expr (ps_expr (d_ca c_check_place rfl (hr.mono (by decide)) (by rfl) (da_cons (d_nm (pv 0)) (da_cons (d_nm (pv 1)) da_nil)))))
    (ds_cons (ds_expr (ps_expr (d_ca c_check_place rfl (hr.mono (by decide)) (by rfl) (da_cons (d_nm (pv 0)) (da_cons (d_nm (pv 2)) da_nil)))))
    (ds_cons (ds_if (dt_cmp op_lt o_ord (d_nm (pv 2)) (d_nm (pv 1))) (ds_one ds_never) ds_nil)
    (ds_one (ds_ret (d_make (pe_make M.ma M.ok (hr.mono (by decide)) (by rfl) T.House M.b .nil pass0 (da_cons (d_sli mkL hC (d_cm c_House_bases rfl (hr.mono (by decide)) nl_bases (d_nm (pv 0))) (do_some (d_nm (pv 1))) (do_some (d_nm (pv 2)))) (da_cons (d_sli mkL hC (d_cm c_House_rooms rfl (hr.mono (by decide)) nl_rooms (d_nm (pv 0))) (do_some (d_nm (pv 1))) (do_some (d_add mkL (d_nm (pv 2)) d_int))) da_nil))))))))))

abbrev s_set_behind : Stmt := topS 29
theorem sc_set_behind : FnScope ["one", "base", "other"] ["one", "base", "other"] (defScope s_set_behind) := ⟨rfl, rfl, rfl, by decide +kernel, rfl, by decide +kernel, by decide +kernel⟩
def b_set_behind : M Ctl := (seqM (dropM (fnM 1 F_check_house (consM (nmM 0) (pureM []))))
    (seqM (ifM (notT (testM (fnM 1 F_is_base (consM (nmM 1) (pureM []))))) failM (pureM .nx))
    (seqM (dropM (fnM 1 F_check_house (consM (nmM 2) (pureM []))))
    (retS (bindM (consM (binM (addG newL) (binM (addG newL) (metM 1 F_House_bases (nmM 0) (pureM [])) (bindM (consM (nmM 1) (pureM [])) newL)) (metM 1 F_House_bases (nmM 2) (pureM []))) (consM (binM (addG newL) (metM 1 F_House_rooms (nmM 0) (pureM [])) (metM 1 F_House_rooms (nmM 2) (pureM []))) (pureM []))) (makG F_House))))))
noncomputable def F_set_behind : Fn := runBx ["one", "base", "other"] 3 (fun _ => 0) b_set_behind
theorem der_set_behind (T : Txt mg C) (hk : HK C) (hC : C.K = K) {f_check_house : Addr} {fd_check_house : FuncData} (c_check_house : Ca P w K mg base C xa "check_house" ["house"] 1 F_check_house f_check_house fd_check_house) {f_is_base : Addr} {fd_is_base : FuncData} (c_is_base : Ca P w K mg base C xa "is_base" ["value"] 2 F_is_base f_is_base fd_is_base) {fI : Addr} {fdI : FuncData} (M : HMk P w K mg base C xa 4 F_House fI fdI) {f_House_rooms : Addr} {fd_House_rooms : FuncData} (c_House_rooms : Cm P w K mg base C xa "rooms" 1 F_House_rooms f_House_rooms fd_House_rooms) {f_House_bases : Addr} {fd_House_bases : FuncData} (c_House_bases : Cm P w K mg base C xa "bases" 1 F_House_bases f_House_bases fd_House_bases) {qual : Str} {f : Addr} (cdv : Value) (A : Around) (outer : List Env) (s : Shared) (H : Hp) (E : XK) (S : Addr → Prop) (hr : Room 5 (A.deeper (envOfC qual (defScope s_set_behind) s.heap.objs.size f cdv))) :
    PSs (cxOf CX0 P w K mg base ["one", "base", "other"] qual (defScope s_set_behind) f cdv A outer s H E).nox (defBody s_set_behind) (tS ⟨K, C, E0, xa, S⟩ b_set_behind) :=
  (ds_cons (ds_expr (ps_expr (d_ca c_check_house rfl (hr.mono (by decide)) (by rfl) (da_cons (d_nm (pv 0)) da_nil))))
    (ds_cons (ds_if (dt_not (dt_val (d_ca c_is_base rfl (hr.mono (by decide)) (by rfl) (da_cons (d_nm (pv 1)) da_nil)))) (ds_one ds_never) ds_nil)
    (ds_cons (ds_expr (ps_expr (d_ca c_check_house rfl (hr.mono (by decide)) (by rfl) (da_cons (d_nm (pv 2)) da_nil))))
    (ds_one (ds_ret (d_make (pe_make M.ma M.ok (hr.mono (by decide)) (by rfl) T.House M.b .nil pass0 (da_cons (d_add mkL (d_add mkL (d_cm c_House_bases rfl (hr.mono (by decide)) nl_bases (d_nm (pv 0))) (d_lst mkL (da_cons (d_nm (pv 1)) da_nil))) (d_cm c_House_bases rfl (hr.mono (by decide)) nl_bases (d_nm (pv 2)))) (da_cons (d_add mkL (d_cm c_House_rooms rfl (hr.mono (by decide)) nl_rooms (d_nm (pv 0))) (d_cm c_House_rooms rfl (hr.mono (by decide)) nl_rooms (d_nm (pv 2)))) da_nil)))))))))

abbrev s_tightened : Stmt := topS 30
theorem sc_tightened : FnScope ["house", "place"] ["house", "place"] (defScope s_tightened) := ⟨rfl, rfl, rfl, by decide +kernel, rfl, by decide +kernel, by decide +kernel⟩
def b_tightened : M Ctl := (seqM (dropM (fnM 1 F_check_house (consM (nmM 0) (pureM []))))
    (seqM (ifM (notT (testM (fnM 2 F_is_count_below (consM (nmM 1) (consM (binM subG (metM 1 F_House_places (nmM 0) (pureM [])) (pureM (.int 1))) (pureM [])))))) failM (pureM .nx))
    (retS (fnM 3 F_with_room (consM (nmM 0) (consM (nmM 1) (consM (bindM (consM (binM ixG (metM 1 F_House_rooms (nmM 0) (pureM [])) (nmM 1)) (consM (binM subG (binM ixG (metM 1 F_House_bases (nmM 0) (pureM [])) (nmM 1)) (pureM (.int 1))) (pureM []))) minG) (pureM []))))))))
noncomputable def F_tightened : Fn := runBx ["house", "place"] 2 (fun _ => 0) b_tightened
theorem der_tightened (T : Txt mg C) (hk : HK C) (hC : C.K = K) {f_check_house : Addr} {fd_check_house : FuncData} (c_check_house : Ca P w K mg base C xa "check_house" ["house"] 1 F_check_house f_check_house fd_check_house) {f_is_count_below : Addr} {fd_is_count_below : FuncData} (c_is_count_below : Ca P w K mg base C xa "is_count_below" ["value", "bound"] 3 F_is_count_below f_is_count_below fd_is_count_below) {f_House_places : Addr} {fd_House_places : FuncData} (c_House_places : Cm P w K mg base C xa "places" 1 F_House_places f_House_places fd_House_places) {f_with_room : Addr} {fd_with_room : FuncData} (c_with_room : Ca P w K mg base C xa "with_room" ["house", "place", "room"] 6 F_with_room f_with_room fd_with_room) {f_House_bases : Addr} {fd_House_bases : FuncData} (c_House_bases : Cm P w K mg base C xa "bases" 1 F_House_bases f_House_bases fd_House_bases) {f_House_rooms : Addr} {fd_House_rooms : FuncData} (c_House_rooms : Cm P w K mg base C xa "rooms" 1 F_House_rooms f_House_rooms fd_House_rooms) {qual : Str} {f : Addr} (cdv : Value) (A : Around) (outer : List Env) (s : Shared) (H : Hp) (E : XK) (S : Addr → Prop) (hr : Room 6 (A.deeper (envOfC qual (defScope s_tightened) s.heap.objs.size f cdv))) :
    PSs (cxOf CX0 P w K mg base ["house", "place"] qual (defScope s_tightened) f cdv A outer s H E).nox (defBody s_tightened) (tS ⟨K, C, E0, xa, S⟩ b_tightened) :=
  (ds_cons (ds_expr (ps_expr (d_ca c_check_house rfl (hr.mono (by decide)) (by rfl) (da_cons (d_nm (pv 0)) da_nil))))
    (ds_cons (ds_if (dt_not (dt_val (d_ca c_is_count_below rfl (hr.mono (by decide)) (by rfl) (da_cons (d_nm (pv 1)) (da_cons (d_sub (d_cm c_House_places rfl (hr.mono (by decide)) nl_places (d_nm (pv 0))) d_int) da_nil))))) (ds_one ds_never) ds_nil)
    (ds_one (ds_ret (d_ca c_with_room rfl (hr.mono (by decide)) (by rfl) (da_cons (d_nm (pv 0)) (da_cons (d_nm (pv 1)) (da_cons (d_call (o_min) (pe_callB (call_min2 rfl) (by rfl) T.min PyProof.Rows.boot_min (da_cons (d_ix (d_cm c_House_rooms rfl (hr.mono (by decide)) nl_rooms (d_nm (pv 0))) (d_nm (pv 1)) (fun _ _ => rfl)) (da_cons (d_sub (d_ix (d_cm c_House_bases rfl (hr.mono (by decide)) nl_bases (d_nm (pv 0))) (d_nm (pv 1)) (fun _ _ => rfl)) d_int) da_nil)))) da_nil))))))))

abbrev s__law_purse : Stmt := topS 32
theorem sc__law_purse : FnScope ["_law_script", "_law_at", "_law_seed"] ["_law_script", "_law_at"] (defScope s__law_purse) := ⟨rfl, rfl, rfl, by decide +kernel, rfl, by decide +kernel, by decide +kernel⟩
def b__law_purse : M Ctl := (seqM (asgM (bindM (consM (sliM newL (nmM 0) (partM (nmM 1)) (partM (binM (addG newL) (nmM 1) (pureM (.int 1))))) (pureM [])) sumG) (.one 2))
    (retS (bindM (consM (binM modG (bindM (consM (bindM (consM (binM subG (nmM 2) (binM powWG (pureM (.int 10)) (pureM (.int 18)))) (consM (pureM (.int 0)) (pureM []))) maxG) (pureM [])) intG) (binM powWG (binM powWG (pureM (.int 10)) (pureM (.int 60))) (pureM (.int 8)))) (consM (binM modG (bindM (consM (nmM 2) (pureM [])) intG) (pureM (.int 2147483629))) (consM (pureM (.int 0)) (consM (nmM 1) (pureM []))))) newC)))
noncomputable def F__law_purse : Fn := runBx ["_law_script", "_law_at", "_law_seed"] 2 (fun _ => 0) b__law_purse
noncomputable def F__law_purse_x : Fn := runBx ["_law_script", "_law_at", "_law_seed"] 2 (fun _ => 1) b__law_purse
theorem der__law_purse (T : Txt mg C) (hk : HK C) (hC : C.K = K) {qual : Str} {f : Addr} (cdv : Value) (A : Around) (outer : List Env) (s : Shared) (H : Hp) (E : XK) (S : Addr → Prop) (hr : Room 0 (A.deeper (envOfC qual (defScope s__law_purse) s.heap.objs.size f cdv))) :
    PSs (cxOf CX0 P w K mg base ["_law_script", "_law_at", "_law_seed"] qual (defScope s__law_purse) f cdv A outer s H E).nox (defBody s__law_purse) (tS ⟨K, C, E0, xa, S⟩ b__law_purse) :=
  (ds_cons (ds_asg (t := .one 2) (ps_set (i := 2) sc__law_purse.nd rfl (Or.inl rfl) (d_call (o_sum) (pe_callB (cr_sum rfl) (by rfl) T.sum PyProof.Rows.boot_sum (da_cons (d_sli mkL hC (d_nm (pv 0)) (do_some (d_nm (pv 1))) (do_some (d_add mkL (d_nm (pv 1)) d_int))) da_nil)))) rfl)
    (ds_one (ds_ret (d_lst mkC (da_cons (d_mod (d_call (o_int) (pe_callTy call_int1 (by rfl) T.t_int PyProof.Rows.boot_int (da_cons (d_call (o_max) (pe_callB (CallR.or2 (call_max2 rfl) (cr_max rfl)) (by rfl) T.max PyProof.Rows.boot_max (da_cons (d_sub (d_nm (pv 2)) (d_powW d_int d_int)) (da_cons d_int da_nil)))) da_nil))) (d_powW (d_powW d_int d_int) d_int)) (da_cons (d_mod (d_call (o_int) (pe_callTy call_int1 (by rfl) T.t_int PyProof.Rows.boot_int (da_cons (d_nm (pv 2)) da_nil))) d_int) (da_cons d_int (da_cons (d_nm (pv 1)) da_nil))))))))

abbrev s__law_mixed : Stmt := topS 33
theorem sc__law_mixed : FnScope ["_law_seed", "_law_spin", "_law_at", "_law_mixed_here"] ["_law_seed", "_law_spin", "_law_at"] (defScope s__law_mixed) := ⟨rfl, rfl, rfl, by decide +kernel, rfl, by decide +kernel, by decide +kernel⟩
def b__law_mixed : M Ctl := (seqM (asgM (binM (addG newL) (binM mulG (nmM 0) (pureM (.int 69069))) (binM mulG (binM mulG (pureM (.int 104729)) (nmM 1)) (nmM 1))) (.one 3))
    (seqM (asgM (binM modG (bindM (consM (binM (addG newL) (binM (addG newL) (nmM 3) (binM mulG (pureM (.int 7919)) (nmM 2))) (nmM 1)) (pureM [])) intG) (pureM (.int 2147483647))) (.one 3))
    (seqM (asgM (binM modG (bindM (consM (binM (addG newL) (binM mulG (nmM 3) (nmM 3)) (pureM (.int 40503))) (pureM [])) intG) (pureM (.int 2147483629))) (.one 3))
    (retS (binM modG (bindM (consM (binM mulG (nmM 3) (pureM (.int 48271))) (pureM [])) intG) (pureM (.int 2147483587)))))))
noncomputable def F__law_mixed : Fn := runBx ["_law_seed", "_law_spin", "_law_at", "_law_mixed_here"] 3 (fun _ => 0) b__law_mixed
theorem der__law_mixed (T : Txt mg C) (hk : HK C) (hC : C.K = K) {qual : Str} {f : Addr} (cdv : Value) (A : Around) (outer : List Env) (s : Shared) (H : Hp) (E : XK) (S : Addr → Prop) (hr : Room 0 (A.deeper (envOfC qual (defScope s__law_mixed) s.heap.objs.size f cdv))) :
    PSs (cxOf CX0 P w K mg base ["_law_seed", "_law_spin", "_law_at", "_law_mixed_here"] qual (defScope s__law_mixed) f cdv A outer s H E).nox (defBody s__law_mixed) (tS ⟨K, C, E0, xa, S⟩ b__law_mixed) :=
  (ds_cons (ds_asg (t := .one 3) (ps_set (i := 3) sc__law_mixed.nd rfl (Or.inl rfl) (d_add mkL (d_mul (d_nm (pv 0)) d_int) (d_mul (d_mul d_int (d_nm (pv 1))) (d_nm (pv 1))))) rfl)
    (ds_cons (ds_asg (t := .one 3) (ps_set (i := 3) sc__law_mixed.nd rfl (Or.inl rfl) (d_mod (d_call (o_int) (pe_callTy call_int1 (by rfl) T.t_int PyProof.Rows.boot_int (da_cons (d_add mkL (d_add mkL (d_nm (pv 3)) (d_mul d_int (d_nm (pv 2)))) (d_nm (pv 1))) da_nil))) d_int)) rfl)
    (ds_cons (ds_asg (t := .one 3) (ps_set (i := 3) sc__law_mixed.nd rfl (Or.inl rfl) (d_mod (d_call (o_int) (pe_callTy call_int1 (by rfl) T.t_int PyProof.Rows.boot_int (da_cons (d_add mkL (d_mul (d_nm (pv 3)) (d_nm (pv 3))) d_int) da_nil))) d_int)) rfl)
    (ds_one (ds_ret (d_mod (d_call (o_int) (pe_callTy call_int1 (by rfl) T.t_int PyProof.Rows.boot_int (da_cons (d_mul (d_nm (pv 3)) d_int) da_nil))) d_int))))))

abbrev s__law_draw : Stmt := topS 34
theorem sc__law_draw : FnScope ["_law_purse_here", "_law_many", "_law_found", "_law_piece", "_law_drawn"] ["_law_purse_here", "_law_many"] (defScope s__law_draw) := ⟨rfl, rfl, rfl, by decide +kernel, rfl, by decide +kernel, by decide +kernel⟩
def b__law_draw : M Ctl := (seqM (ifM (testM (binM gtG (binM ixG (nmM 0) (pureM (.int 0))) (pureM (.int 0)))) (seqM (asgM (binM modG (bindM (consM (binM ixG (nmM 0) (pureM (.int 0))) (pureM [])) intG) (nmM 1)) (.one 4))
    (seqM (sasM (binM divG (binM ixG (nmM 0) (pureM (.int 0))) (nmM 1)) (nmM 0) (pureM (.int 0)))
    (retS (nmM 4)))) (pureM .nx))
    (seqM (asgM (pureM (.int 0)) (.one 2))
    (seqM (forM (rng1M (consM (binM (addG newL) (pureM (.int 1)) (binM divG (bindM (nmM 1) bitG) (pureM (.int 28)))) (pureM []))) (.one 3) (seqM (sasM (binM (addG newL) (binM ixG (nmM 0) (pureM (.int 2))) (pureM (.int 1))) (nmM 0) (pureM (.int 2)))
    (asgM (binM (addG newL) (binM mulG (nmM 2) (pureM (.int 2147483587))) (fnM 3 F__law_mixed (consM (binM ixG (nmM 0) (pureM (.int 1))) (consM (binM ixG (nmM 0) (pureM (.int 2))) (consM (binM ixG (nmM 0) (pureM (.int 3))) (pureM [])))))) (.one 2))))
    (retS (binM modG (bindM (consM (nmM 2) (pureM [])) intG) (nmM 1))))))
noncomputable def F__law_draw : Fn := runBx ["_law_purse_here", "_law_many", "_law_found", "_law_piece", "_law_drawn"] 2 (fun _ => 0) b__law_draw
theorem der__law_draw (T : Txt mg C) (hk : HK C) (hC : C.K = K) {f__law_mixed : Addr} {fd__law_mixed : FuncData} (c__law_mixed : Ca P w K mg base C xa "_law_mixed" ["_law_seed", "_law_spin", "_law_at"] 1 F__law_mixed f__law_mixed fd__law_mixed) {qual : Str} {f : Addr} (cdv : Value) (A : Around) (outer : List Env) (s : Shared) (H : Hp) (E : XK) (S : Addr → Prop) (hr : Room 1 (A.deeper (envOfC qual (defScope s__law_draw) s.heap.objs.size f cdv))) :
    PSs (cxOf CX0 P w K mg base ["_law_purse_here", "_law_many", "_law_found", "_law_piece", "_law_drawn"] qual (defScope s__law_draw) f cdv A outer s H E).nox (defBody s__law_draw) (tS ⟨K, C, E0, xa, S⟩ b__law_draw) :=
  (ds_cons (ds_if (dt_cmp op_gt o_ord (d_ix (d_nm (pv 0)) d_int (fun _ _ => rfl)) d_int) (ds_cons (ds_asg (t := .one 4) (ps_set (i := 4) sc__law_draw.nd rfl (Or.inl rfl) (d_mod (d_call (o_int) (pe_callTy call_int1 (by rfl) T.t_int PyProof.Rows.boot_int (da_cons (d_ix (d_nm (pv 0)) d_int (fun _ _ => rfl)) da_nil))) (d_nm (pv 1)))) rfl)
    (ds_cons (ds_sas (ps_asg (d_div (d_ix (d_nm (pv 0)) d_int (fun _ _ => rfl)) (d_nm (pv 1))) (pg_sub (d_nm (pv 0)) d_int set_list)))
    (ds_one (ds_ret (d_nm (pv 4)))))) ds_nil)
    (ds_cons (ds_asg (t := .one 2) (ps_set (i := 2) sc__law_draw.nd rfl (Or.inl rfl) d_int) rfl)
    (ds_cons (ds_for (t := (.one 3)) (ps_for PassesOwn.never rfl (di_rng1 (pi_range1 (by rfl) T.range (da_cons (d_add mkL d_int (d_div (d_bit (pe_bits (d_nm (pv 1)))) d_int)) da_nil))) (pg_name (i := 3) sc__law_draw.nd rfl (Or.inl rfl)) (ds_cons (ds_sas (ps_asg (d_add mkL (d_ix (d_nm (pv 0)) d_int (fun _ _ => rfl)) d_int) (pg_sub (d_nm (pv 0)) d_int set_list)))
    (ds_one (ds_asg (t := .one 2) (ps_set (i := 2) sc__law_draw.nd rfl (Or.inl rfl) (d_add mkL (d_mul (d_nm (pv 2)) d_int) (d_ca c__law_mixed rfl (hr.mono (by decide)) (by rfl) (da_cons (d_ix (d_nm (pv 0)) d_int (fun _ _ => rfl)) (da_cons (d_ix (d_nm (pv 0)) d_int (fun _ _ => rfl)) (da_cons (d_ix (d_nm (pv 0)) d_int (fun _ _ => rfl)) da_nil)))))) rfl)))))
    (ds_one (ds_ret (d_mod (d_call (o_int) (pe_callTy call_int1 (by rfl) T.t_int PyProof.Rows.boot_int (da_cons (d_nm (pv 2)) da_nil))) (d_nm (pv 1))))))))

abbrev s__law_purses : Stmt := topS 35
theorem sc__law_purses : FnScope ["_law_script", "_law_few", "_law_at"] ["_law_script", "_law_few"] (defScope s__law_purses) := ⟨rfl, rfl, rfl, by decide +kernel, rfl, by decide +kernel, by decide +kernel⟩
def b__law_purses : M Ctl := (retS (lcM true (rng1M (consM (bindM (consM (pureM (.int 1)) (consM (bindM (consM (nmM 1) (consM (bindM (consM (nmM 0) (pureM [])) lenG) (pureM []))) minG) (pureM []))) maxG) (pureM []))) (.one 2) [2] (pureM true) (fnM 2 F__law_purse_x (consM (nmM 0) (consM (nmM 2) (pureM []))))))
noncomputable def F__law_purses : Fn := runBx ["_law_script", "_law_few", "_law_at"] 2 (mxPurses) b__law_purses
theorem der__law_purses (T : Txt mg C) (hk : HK C) (hC : C.K = K) {f__law_purse_x : Addr} {fd__law_purse_x : FuncData} (c__law_purse_x : Ca P w K mg base C xa "_law_purse" ["_law_script", "_law_at"] 1 F__law_purse_x f__law_purse_x fd__law_purse_x) {qual : Str} {f : Addr} (cdv : Value) (A : Around) (outer : List Env) (s : Shared) (H : Hp) (E : XK) (S : Addr → Prop) (hr : Room 1 (A.deeper (envOfC qual (defScope s__law_purses) s.heap.objs.size f cdv))) :
    PSs (cxOf CX0 P w K mg base ["_law_script", "_law_few", "_law_at"] qual (defScope s__law_purses) f cdv A outer s H E).nox (defBody s__law_purses) (tS ⟨K, C, E0, xa, S⟩ b__law_purses) :=
  (ds_one (ds_ret (d_lc (t := (.one 2)) (by decide) (pe_lc (own := [("_law_at", 2)]) (g := Tg.G _ (.one 2)) rfl sc__law_purses.nd (di_rng1 (pi_range1 (by rfl) T.range (da_cons (d_call (o_max) (pe_callB (CallR.or2 (call_max2 rfl) (cr_max rfl)) (by rfl) T.max PyProof.Rows.boot_max (da_cons d_int (da_cons (d_call (o_min) (pe_callB (call_min2 rfl) (by rfl) T.min PyProof.Rows.boot_min (da_cons (d_nm (pv 1)) (da_cons (d_call (o_len hC) (pe_callB call_len_seq (by rfl) T.len PySem.boot_len (da_cons (d_nm (pv 0)) da_nil))) da_nil)))) da_nil)))) da_nil))) (blkOk_by (own := [("_law_at", 2)]) (N := ["_law_script", "_law_few", "_law_at"]) (sc := defScope s__law_purses) (by decide +kernel)) (fun _ _ _ _ _ => (pg_name (i := 2) sc__law_purses.nd rfl (Or.inl rfl))) (fun _ _ _ _ _ => pts_yes) (fun _ _ _ _ _ => pe_exS fun _ => (d_ca c__law_purse_x rfl (hr.mono (by decide)) (by rfl) (da_cons (d_nm (pv 0)) (da_cons (d_nm (pv 2)) da_nil))))))))

abbrev s__law_one_of : Stmt := topS 36
theorem sc__law_one_of : FnScope ["_law_purse_here", "_law_some"] ["_law_purse_here", "_law_some"] (defScope s__law_one_of) := ⟨rfl, rfl, rfl, by decide +kernel, rfl, by decide +kernel, by decide +kernel⟩
def b__law_one_of : M Ctl := (retS (binM ixG (nmM 1) (fnM 2 F__law_draw (consM (nmM 0) (consM (bindM (consM (nmM 1) (pureM [])) lenG) (pureM []))))))
noncomputable def F__law_one_of : Fn := runBx ["_law_purse_here", "_law_some"] 2 (fun _ => 0) b__law_one_of
theorem der__law_one_of (T : Txt mg C) (hk : HK C) (hC : C.K = K) {f__law_draw : Addr} {fd__law_draw : FuncData} (c__law_draw : Ca P w K mg base C xa "_law_draw" ["_law_purse_here", "_law_many"] 2 F__law_draw f__law_draw fd__law_draw) {qual : Str} {f : Addr} (cdv : Value) (A : Around) (outer : List Env) (s : Shared) (H : Hp) (E : XK) (S : Addr → Prop) (hr : Room 2 (A.deeper (envOfC qual (defScope s__law_one_of) s.heap.objs.size f cdv))) :
    PSs (cxOf CX0 P w K mg base ["_law_purse_here", "_law_some"] qual (defScope s__law_one_of) f cdv A outer s H E).nox (defBody s__law_one_of) (tS ⟨K, C, E0, xa, S⟩ b__law_one_of) :=
  (ds_one (ds_ret (d_ix (d_nm (pv 1)) (d_ca c__law_draw rfl (hr.mono (by decide)) (by rfl) (da_cons (d_nm (pv 0)) (da_cons (d_call (o_len hC) (pe_callB call_len_seq (by rfl) T.len PySem.boot_len (da_cons (d_nm (pv 1)) da_nil))) da_nil))) (fun _ _ => rfl))))

abbrev s__law_exact : Stmt := topS 37
theorem sc__law_exact : FnScope ["_law_mine", "_law_theirs", "_law_alike", "_law_key", "_law_a", "_law_b"] ["_law_mine", "_law_theirs"] (defScope s__law_exact) := ⟨rfl, rfl, rfl, by decide +kernel, rfl, by decide +kernel, by decide +kernel⟩
def b__law_exact (F__law_exact : Fn) : M Ctl := (seqM (ifM (testM (isLT (nmM 0))) (seqM (asgM (andV (binM (eqG false) (isB "list" (nmM 1)) (isB "list" (nmM 0))) (binM (eqG false) (isB "tuple" (nmM 1)) (isB "tuple" (nmM 0)))) (.one 2))
    (retS (andV (nmM 2) (andV (binM (eqG false) (bindM (consM (nmM 0) (pureM [])) lenG) (bindM (consM (nmM 1) (pureM [])) lenG)) (bindM (consM (lcM false (zipM (consM (nmM 0) (consM (nmM 1) (pureM [])))) (.tup [4, 5]) [4, 5] (pureM true) (fnM 2 F__law_exact (consM (nmM 4) (consM (nmM 5) (pureM []))))) (pureM [])) allG))))) (pureM .nx))
    (seqM (ifM (testM (isB "dict" (nmM 0))) failM (pureM .nx))
    (seqM (asgM (binM (eqG false) (isB "int" (nmM 0)) (isB "int" (nmM 1))) (.one 2))
    (retS (andV (nmM 2) (andV (binM (eqG false) (isB "bool" (nmM 0)) (isB "bool" (nmM 1))) (binM (eqG false) (nmM 0) (nmM 1))))))))
noncomputable def F__law_exact : Nat → Fn
  | 0 => fun _ _ => none
  | n + 1 => runBx ["_law_mine", "_law_theirs", "_law_alike", "_law_key", "_law_a", "_law_b"] 2 (fun _ => 0) (b__law_exact (F__law_exact n))
theorem der__law_exact (T : Txt mg C) (hk : HK C) (hC : C.K = K) {k : Nat} {F__law_exact : Fn} {f__law_exact : Addr} {fd__law_exact : FuncData} (c__law_exact : Ca P w K mg base C xa "_law_exact" ["_law_mine", "_law_theirs"] k F__law_exact f__law_exact fd__law_exact) {qual : Str} {f : Addr} (cdv : Value) (A : Around) (outer : List Env) (s : Shared) (H : Hp) (E : XK) (S : Addr → Prop) (hr : Room k (A.deeper (envOfC qual (defScope s__law_exact) s.heap.objs.size f cdv))) :
    PSs (cxOf CX0 P w K mg base ["_law_mine", "_law_theirs", "_law_alike", "_law_key", "_law_a", "_law_b"] qual (defScope s__law_exact) f cdv A outer s H E).nox (defBody s__law_exact) (tS ⟨K, C, E0, xa, S⟩ (b__law_exact F__law_exact)) :=
  (ds_cons (ds_if (dt_val (d_isLT hk hC (pe_callB call_isiT (by rfl) T.isinstance PyProof.Rows.boot_isinstance (pa_cons (d_nm (pv 0)) (pa_cons (pe_tup (pa_cons (pe_bltn (v := .ty "list") (by rfl) T.t_list PyProof.Rows.boot_list rfl) (pa_cons (pe_bltn (v := .ty "tuple") (by rfl) T.t_tuple PyProof.Rows.boot_tuple rfl) pa_nil))) pa_nil))))) (ds_cons (ds_asg (t := .one 2) (ps_set (i := 2) sc__law_exact.nd rfl (Or.inl rfl) (d_and (d_cmp (op_eqD hr.units) o_eq (d_is hk hC (by decide) (pe_callB call_isi (by rfl) T.isinstance PyProof.Rows.boot_isinstance (pa_cons (d_nm (pv 1)) (pa_cons (pe_bltn (v := .ty "list") (by rfl) T.t_list PyProof.Rows.boot_list rfl) pa_nil)))) (d_is hk hC (by decide) (pe_callB call_isi (by rfl) T.isinstance PyProof.Rows.boot_isinstance (pa_cons (d_nm (pv 0)) (pa_cons (pe_bltn (v := .ty "list") (by rfl) T.t_list PyProof.Rows.boot_list rfl) pa_nil))))) (d_one (d_cmp (op_eqD hr.units) o_eq (d_is hk hC (by decide) (pe_callB call_isi (by rfl) T.isinstance PyProof.Rows.boot_isinstance (pa_cons (d_nm (pv 1)) (pa_cons (pe_bltn (v := .ty "tuple") (by rfl) T.t_tuple PyProof.Rows.boot_tuple rfl) pa_nil)))) (d_is hk hC (by decide) (pe_callB call_isi (by rfl) T.isinstance PyProof.Rows.boot_isinstance (pa_cons (d_nm (pv 0)) (pa_cons (pe_bltn (v := .ty "tuple") (by rfl) T.t_tuple PyProof.Rows.boot_tuple rfl) pa_nil)))))))) rfl)
    (ds_one (ds_ret (d_and (d_nm (pv 2)) (d_and (d_cmp (op_eqD hr.units) o_eq (d_call (o_len hC) (pe_callB call_len_seq (by rfl) T.len PySem.boot_len (da_cons (d_nm (pv 0)) da_nil))) (d_call (o_len hC) (pe_callB call_len_seq (by rfl) T.len PySem.boot_len (da_cons (d_nm (pv 1)) da_nil)))) (d_one (d_call (o_all) (pe_callB (cr_all rfl) (by rfl) T.all PyProof.Rows.boot_all (da_cons (d_lc (t := (.tup [4, 5])) (by decide) (pe_lc (own := [("_law_a", 4), ("_law_b", 5)]) (g := Tg.G _ (.tup [4, 5])) rfl sc__law_exact.nd (di_zip (pi_zip (by rfl) T.zip (da_cons (d_nm (pv 0)) (da_cons (d_nm (pv 1)) da_nil)))) (blkOk_by (own := [("_law_a", 4), ("_law_b", 5)]) (N := ["_law_mine", "_law_theirs", "_law_alike", "_law_key", "_law_a", "_law_b"]) (sc := defScope s__law_exact) (by decide +kernel)) (fun _ _ _ _ _ => (pg_tup rfl (pgs_cons (pg_name (i := 4) sc__law_exact.nd rfl (Or.inl rfl)) (pgs_cons (pg_name (i := 5) sc__law_exact.nd rfl (Or.inl rfl)) pgs_nil)))) (fun _ _ _ _ _ => pts_yes) (fun _ _ _ _ _ => pe_exS fun _ => (d_ca c__law_exact rfl hr (by rfl) (da_cons (d_nm (pv 4)) (da_cons (d_nm (pv 5)) da_nil)))))) da_nil))))))))) ds_nil)
    (ds_cons (ds_if (dt_val (d_is hk hC (by decide) (pe_callB call_isi (by rfl) T.isinstance PyProof.Rows.boot_isinstance (pa_cons (d_nm (pv 0)) (pa_cons (pe_bltn (v := .ty "dict") (by rfl) T.t_dict PyProof.Rows.boot_dict rfl) pa_nil))))) dss_never ds_nil)
    (ds_cons (ds_asg (t := .one 2) (ps_set (i := 2) sc__law_exact.nd rfl (Or.inl rfl) (d_cmp (op_eqD hr.units) o_eq (d_is hk hC (by decide) (pe_callB call_isi (by rfl) T.isinstance PyProof.Rows.boot_isinstance (pa_cons (d_nm (pv 0)) (pa_cons (pe_bltn (v := .ty "int") (by rfl) T.t_int PyProof.Rows.boot_int rfl) pa_nil)))) (d_is hk hC (by decide) (pe_callB call_isi (by rfl) T.isinstance PyProof.Rows.boot_isinstance (pa_cons (d_nm (pv 1)) (pa_cons (pe_bltn (v := .ty "int") (by rfl) T.t_int PyProof.Rows.boot_int rfl) pa_nil)))))) rfl)
    (ds_one (ds_ret (d_and (d_nm (pv 2)) (d_and (d_cmp (op_eqD hr.units) o_eq (d_is hk hC (by decide) (pe_callB call_isi (by rfl) T.isinstance PyProof.Rows.boot_isinstance (pa_cons (d_nm (pv 0)) (pa_cons (pe_bltn (v := .ty "bool") (by rfl) T.t_bool PyProof.Rows.boot_bool rfl) pa_nil)))) (d_is hk hC (by decide) (pe_callB call_isi (by rfl) T.isinstance PyProof.Rows.boot_isinstance (pa_cons (d_nm (pv 1)) (pa_cons (pe_bltn (v := .ty "bool") (by rfl) T.t_bool PyProof.Rows.boot_bool rfl) pa_nil))))) (d_one (d_cmp (op_eqD hr.units) o_eq (d_nm (pv 0)) (d_nm (pv 1)))))))))))

abbrev s__law_weights : Stmt := topS 38
theorem sc__law_weights : FnScope ["_law_house_here", "_law_found", "_law_base"] ["_law_house_here"] (defScope s__law_weights) := ⟨rfl, rfl, rfl, by decide +kernel, rfl, by decide +kernel, by decide +kernel⟩
def b__law_weights : M Ctl := (seqM (asgM (bindM (consM (pureM (.int 1)) (pureM [])) newC) (.one 1))
    (seqM (forM (itmM (binM ixG (nmM 0) (pureM (.int 0)))) (.one 2) (dropM (appM (nmM 1) (consM (binM mulG (binM ixG (nmM 1) (bindM (pureM (.int 1)) negG)) (nmM 2)) (pureM [])))))
    (retS (nmM 1))))
noncomputable def F__law_weights : Fn := runBx ["_law_house_here", "_law_found", "_law_base"] 1 (fun _ => 0) b__law_weights
theorem der__law_weights (T : Txt mg C) (hk : HK C) (hC : C.K = K) {qual : Str} {f : Addr} (cdv : Value) (A : Around) (outer : List Env) (s : Shared) (H : Hp) (E : XK) (S : Addr → Prop) (hr : Room 0 (A.deeper (envOfC qual (defScope s__law_weights) s.heap.objs.size f cdv))) :
    PSs (cxOf CX0 P w K mg base ["_law_house_here", "_law_found", "_law_base"] qual (defScope s__law_weights) f cdv A outer s H E).nox (defBody s__law_weights) (tS ⟨K, C, E0, xa, S⟩ b__law_weights) :=
  (ds_cons (ds_asg (t := .one 1) (ps_set (i := 1) sc__law_weights.nd rfl (Or.inl rfl) (d_lst mkC (da_cons d_int da_nil))) rfl)
    (ds_cons (ds_for (t := (.one 2)) (ps_for PassesOwn.never rfl (di_list (d_ix (d_nm (pv 0)) d_int (fun _ _ => rfl))) (pg_name (i := 2) sc__law_weights.nd rfl (Or.inl rfl)) (ds_one (ds_expr (ps_expr (d_app hC (pe_bm PySem.F.plainAttrs_list PySem.F.slot_list_append PySem.F.type_list_append mt_append (d_nm (pv 1)) (da_cons (d_mul (d_ix (d_nm (pv 1)) (d_neg d_int) (fun _ _ => rfl)) (d_nm (pv 2))) da_nil))))))))
    (ds_one (ds_ret (d_nm (pv 1))))))

abbrev s__law_many_rows : Stmt := topS 39
theorem sc__law_many_rows : FnScope ["_law_house_here", "_law_many", "_law_room"] ["_law_house_here"] (defScope s__law_many_rows) := ⟨rfl, rfl, rfl, by decide +kernel, rfl, by decide +kernel, by decide +kernel⟩
def b__law_many_rows : M Ctl := (seqM (asgM (pureM (.int 1)) (.one 1))
    (seqM (forM (itmM (binM ixG (nmM 0) (pureM (.int 1)))) (.one 2) (asgM (binM mulG (nmM 1) (binM (addG newL) (nmM 2) (pureM (.int 1)))) (.one 1)))
    (retS (nmM 1))))
noncomputable def F__law_many_rows : Fn := runBx ["_law_house_here", "_law_many", "_law_room"] 1 (fun _ => 0) b__law_many_rows
theorem der__law_many_rows (T : Txt mg C) (hk : HK C) (hC : C.K = K) {qual : Str} {f : Addr} (cdv : Value) (A : Around) (outer : List Env) (s : Shared) (H : Hp) (E : XK) (S : Addr → Prop) (hr : Room 0 (A.deeper (envOfC qual (defScope s__law_many_rows) s.heap.objs.size f cdv))) :
    PSs (cxOf CX0 P w K mg base ["_law_house_here", "_law_many", "_law_room"] qual (defScope s__law_many_rows) f cdv A outer s H E).nox (defBody s__law_many_rows) (tS ⟨K, C, E0, xa, S⟩ b__law_many_rows) :=
  (ds_cons (ds_asg (t := .one 1) (ps_set (i := 1) sc__law_many_rows.nd rfl (Or.inl rfl) d_int) rfl)
    (ds_cons (ds_for (t := (.one 2)) (ps_for PassesOwn.never rfl (di_list (d_ix (d_nm (pv 0)) d_int (fun _ _ => rfl))) (pg_name (i := 2) sc__law_many_rows.nd rfl (Or.inl rfl)) (ds_one (ds_asg (t := .one 1) (ps_set (i := 1) sc__law_many_rows.nd rfl (Or.inl rfl) (d_mul (d_nm (pv 1)) (d_add mkL (d_nm (pv 2)) d_int))) rfl))))
    (ds_one (ds_ret (d_nm (pv 1))))))

abbrev s__law_house : Stmt := topS 40
theorem sc__law_house : FnScope ["_law_purse_here", "_law_places", "_law_bases", "_law_rooms", "_law_base", "_law_some", "_law_at"] ["_law_purse_here", "_law_places"] (defScope s__law_house) := ⟨rfl, rfl, rfl, by decide +kernel, rfl, by decide +kernel, by decide +kernel⟩
def b__law_house : M Ctl := (seqM (asgM (lcM false (rng1M (consM (binM subG (nmM 1) (pureM (.int 1))) (pureM []))) (.one 6) [6] (pureM true) (fnM 2 F__law_one_of (consM (nmM 0) (consM (bindM (consM (pureM (.int 2)) (consM (pureM (.int 2)) (consM (pureM (.int 2)) (consM (pureM (.int 3)) (consM (pureM (.int 3)) (consM (pureM (.int 4)) (consM (pureM (.int 5)) (consM (pureM (.int 10)) (consM (pureM (.int 12)) (consM (pureM (.int 60)) (pureM []))))))))))) newL) (pureM []))))) (.one 2))
    (seqM (asgM (bindM (pureM []) newC) (.one 3))
    (seqM (forM (itmM (binM (addG newL) (nmM 2) (bindM (consM (pureM (.int 4)) (pureM [])) newL))) (.one 4) (seqM (asgM (bindM (consM (pureM (.int 0)) (consM (pureM (.int 1)) (consM (binM subG (nmM 4) (pureM (.int 1))) (consM (nmM 4) (consM (binM (addG newL) (nmM 4) (pureM (.int 1))) (consM (binM subG (binM mulG (pureM (.int 2)) (nmM 4)) (pureM (.int 1))) (consM (binM mulG (pureM (.int 2)) (nmM 4)) (pureM [])))))))) newL) (.one 5))
    (dropM (appM (nmM 3) (consM (bindM (consM (pureM (.int 60)) (consM (fnM 2 F__law_one_of (consM (nmM 0) (consM (binM (addG newL) (nmM 5) (bindM (consM (fnM 2 F__law_draw (consM (nmM 0) (consM (binM (addG newL) (binM mulG (pureM (.int 2)) (nmM 4)) (pureM (.int 1))) (pureM [])))) (consM (fnM 2 F__law_draw (consM (nmM 0) (consM (binM mulG (pureM (.int 3)) (nmM 4)) (pureM [])))) (pureM []))) newL)) (pureM [])))) (pureM []))) minG) (pureM []))))))
    (retS (bindM (consM (nmM 2) (consM (frnM 3) (pureM []))) newC)))))
noncomputable def F__law_house : Fn := runBx ["_law_purse_here", "_law_places", "_law_bases", "_law_rooms", "_law_base", "_law_some", "_law_at"] 2 (fun _ => 0) b__law_house
theorem der__law_house (T : Txt mg C) (hk : HK C) (hC : C.K = K) {f__law_one_of : Addr} {fd__law_one_of : FuncData} (c__law_one_of : Ca P w K mg base C xa "_law_one_of" ["_law_purse_here", "_law_some"] 3 F__law_one_of f__law_one_of fd__law_one_of) {f__law_draw : Addr} {fd__law_draw : FuncData} (c__law_draw : Ca P w K mg base C xa "_law_draw" ["_law_purse_here", "_law_many"] 2 F__law_draw f__law_draw fd__law_draw) {qual : Str} {f : Addr} (cdv : Value) (A : Around) (outer : List Env) (s : Shared) (H : Hp) (E : XK) (S : Addr → Prop) (hr : Room 3 (A.deeper (envOfC qual (defScope s__law_house) s.heap.objs.size f cdv))) :
    PSs (cxOf CX0 P w K mg base ["_law_purse_here", "_law_places", "_law_bases", "_law_rooms", "_law_base", "_law_some", "_law_at"] qual (defScope s__law_house) f cdv A outer s H E).nox (defBody s__law_house) (tS ⟨K, C, E0, xa, S⟩ b__law_house) :=
  (ds_cons (ds_setLc (t := (.one 6)) (by decide) (ps_setLc (i := 2) (own := [("_law_at", 6)]) (g := Tg.G _ (.one 6)) rfl sc__law_house.nd rfl rfl (sw_true rfl rfl rfl (by decide +kernel)) (di_rng1 (pi_range1 (by rfl) T.range (da_cons (d_sub (d_nm (pv 1)) d_int) da_nil))) (blkOk_by (own := [("_law_at", 6)]) (N := ["_law_purse_here", "_law_places", "_law_bases", "_law_rooms", "_law_base", "_law_some", "_law_at"]) (sc := defScope s__law_house) (by decide +kernel)) (fun _ _ _ _ _ => (pg_name (i := 6) sc__law_house.nd rfl (Or.inl rfl))) (fun _ _ _ _ _ => pts_yes) (fun _ _ _ _ _ => pe_exS fun _ => (d_ca c__law_one_of rfl (hr.mono (by decide)) (by rfl) (da_cons (d_nm (pv 0)) (da_cons (d_lst mkL (da_cons d_int (da_cons d_int (da_cons d_int (da_cons d_int (da_cons d_int (da_cons d_int (da_cons d_int (da_cons d_int (da_cons d_int (da_cons d_int da_nil))))))))))) da_nil))))))
    (ds_cons (ds_asg (t := .one 3) (ps_set (i := 3) sc__law_house.nd rfl (Or.inl rfl) (d_lst mkC da_nil)) rfl)
    (ds_cons (ds_for (t := (.one 4)) (ps_for PassesOwn.never rfl (di_list (d_add mkL (d_nm (pv 2)) (d_lst mkL (da_cons d_int da_nil)))) (pg_name (i := 4) sc__law_house.nd rfl (Or.inl rfl)) (ds_cons (ds_asg (t := .one 5) (ps_set (i := 5) sc__law_house.nd rfl (Or.inl rfl) (d_lst mkL (da_cons d_int (da_cons d_int (da_cons (d_sub (d_nm (pv 4)) d_int) (da_cons (d_nm (pv 4)) (da_cons (d_add mkL (d_nm (pv 4)) d_int) (da_cons (d_sub (d_mul d_int (d_nm (pv 4))) d_int) (da_cons (d_mul d_int (d_nm (pv 4))) da_nil))))))))) rfl)
    (ds_one (ds_expr (ps_expr (d_app hC (pe_bm PySem.F.plainAttrs_list PySem.F.slot_list_append PySem.F.type_list_append mt_append (d_nm (pv 3)) (da_cons (d_call (o_min) (pe_callB (call_min2 rfl) (by rfl) T.min PyProof.Rows.boot_min (da_cons d_int (da_cons (d_ca c__law_one_of rfl (hr.mono (by decide)) (by rfl) (da_cons (d_nm (pv 0)) (da_cons (d_add mkL (d_nm (pv 5)) (d_lst mkL (da_cons (d_ca c__law_draw rfl (hr.mono (by decide)) (by rfl) (da_cons (d_nm (pv 0)) (da_cons (d_add mkL (d_mul d_int (d_nm (pv 4))) d_int) da_nil))) (da_cons (d_ca c__law_draw rfl (hr.mono (by decide)) (by rfl) (da_cons (d_nm (pv 0)) (da_cons (d_mul d_int (d_nm (pv 4))) da_nil))) da_nil)))) da_nil))) da_nil)))) da_nil)))))))))
    (ds_one (ds_ret (d_lst mkC (da_cons (d_nm (pv 2)) (da_cons (d_frn (pv 3)) da_nil))))))))

def b__law_house_x : M Ctl := (seqM (asgM (lcM false (rng1M (consM (binM subG (nmM 1) (pureM (.int 1))) (pureM []))) (.one 6) [6] (pureM true) (fnM 2 F__law_one_of (consM (nmM 0) (consM (bindM (consM (pureM (.int 2)) (consM (pureM (.int 2)) (consM (pureM (.int 2)) (consM (pureM (.int 3)) (consM (pureM (.int 3)) (consM (pureM (.int 4)) (consM (pureM (.int 5)) (consM (pureM (.int 10)) (consM (pureM (.int 12)) (consM (pureM (.int 60)) (pureM []))))))))))) newL) (pureM []))))) (.one 2))
    (seqM (asgM (bindM (pureM []) newC) (.one 3))
    (seqM (forM (itmM (binM (addG newL) (nmM 2) (bindM (consM (pureM (.int 4)) (pureM [])) newL))) (.one 4) (seqM (asgM (bindM (consM (pureM (.int 0)) (consM (pureM (.int 1)) (consM (binM subG (nmM 4) (pureM (.int 1))) (consM (nmM 4) (consM (binM (addG newL) (nmM 4) (pureM (.int 1))) (consM (binM subG (binM mulG (pureM (.int 2)) (nmM 4)) (pureM (.int 1))) (consM (binM mulG (pureM (.int 2)) (nmM 4)) (pureM [])))))))) newL) (.one 5))
    (dropM (appM (nmM 3) (consM (bindM (consM (pureM (.int 60)) (consM (fnM 2 F__law_one_of (consM (nmM 0) (consM (binM (addG newL) (nmM 5) (bindM (consM (fnM 2 F__law_draw (consM (nmM 0) (consM (binM (addG newL) (binM mulG (pureM (.int 2)) (nmM 4)) (pureM (.int 1))) (pureM [])))) (consM (fnM 2 F__law_draw (consM (nmM 0) (consM (binM mulG (pureM (.int 3)) (nmM 4)) (pureM [])))) (pureM []))) newL)) (pureM [])))) (pureM []))) minG) (pureM []))))))
    (retS (bindM (consM (nmM 2) (consM (nmM 3) (pureM []))) newC)))))
noncomputable def F__law_house_x : Fn := runBx ["_law_purse_here", "_law_places", "_law_bases", "_law_rooms", "_law_base", "_law_some", "_law_at"] 2 (fun _ => 1) b__law_house_x
theorem der__law_house_x (T : Txt mg C) (hk : HK C) (hC : C.K = K) {f__law_one_of : Addr} {fd__law_one_of : FuncData} (c__law_one_of : Ca P w K mg base C xa "_law_one_of" ["_law_purse_here", "_law_some"] 3 F__law_one_of f__law_one_of fd__law_one_of) {f__law_draw : Addr} {fd__law_draw : FuncData} (c__law_draw : Ca P w K mg base C xa "_law_draw" ["_law_purse_here", "_law_many"] 2 F__law_draw f__law_draw fd__law_draw) {qual : Str} {f : Addr} (cdv : Value) (A : Around) (outer : List Env) (s : Shared) (H : Hp) (E : XK) (S : Addr → Prop) (hr : Room 3 (A.deeper (envOfC qual (defScope s__law_house) s.heap.objs.size f cdv))) :
    PSs (cxOf CX0 P w K mg base ["_law_purse_here", "_law_places", "_law_bases", "_law_rooms", "_law_base", "_law_some", "_law_at"] qual (defScope s__law_house) f cdv A outer s H E).nox (defBody s__law_house) (tS ⟨K, C, E0, xa, S⟩ b__law_house_x) :=
  (ds_cons (ds_setLc (t := (.one 6)) (by decide) (ps_setLc (i := 2) (own := [("_law_at", 6)]) (g := Tg.G _ (.one 6)) rfl sc__law_house.nd rfl rfl (sw_true rfl rfl rfl (by decide +kernel)) (di_rng1 (pi_range1 (by rfl) T.range (da_cons (d_sub (d_nm (pv 1)) d_int) da_nil))) (blkOk_by (own := [("_law_at", 6)]) (N := ["_law_purse_here", "_law_places", "_law_bases", "_law_rooms", "_law_base", "_law_some", "_law_at"]) (sc := defScope s__law_house) (by decide +kernel)) (fun _ _ _ _ _ => (pg_name (i := 6) sc__law_house.nd rfl (Or.inl rfl))) (fun _ _ _ _ _ => pts_yes) (fun _ _ _ _ _ => pe_exS fun _ => (d_ca c__law_one_of rfl (hr.mono (by decide)) (by rfl) (da_cons (d_nm (pv 0)) (da_cons (d_lst mkL (da_cons d_int (da_cons d_int (da_cons d_int (da_cons d_int (da_cons d_int (da_cons d_int (da_cons d_int (da_cons d_int (da_cons d_int (da_cons d_int da_nil))))))))))) da_nil))))))
    (ds_cons (ds_asg (t := .one 3) (ps_set (i := 3) sc__law_house.nd rfl (Or.inl rfl) (d_lst mkC da_nil)) rfl)
    (ds_cons (ds_for (t := (.one 4)) (ps_for PassesOwn.never rfl (di_list (d_add mkL (d_nm (pv 2)) (d_lst mkL (da_cons d_int da_nil)))) (pg_name (i := 4) sc__law_house.nd rfl (Or.inl rfl)) (ds_cons (ds_asg (t := .one 5) (ps_set (i := 5) sc__law_house.nd rfl (Or.inl rfl) (d_lst mkL (da_cons d_int (da_cons d_int (da_cons (d_sub (d_nm (pv 4)) d_int) (da_cons (d_nm (pv 4)) (da_cons (d_add mkL (d_nm (pv 4)) d_int) (da_cons (d_sub (d_mul d_int (d_nm (pv 4))) d_int) (da_cons (d_mul d_int (d_nm (pv 4))) da_nil))))))))) rfl)
    (ds_one (ds_expr (ps_expr (d_app hC (pe_bm PySem.F.plainAttrs_list PySem.F.slot_list_append PySem.F.type_list_append mt_append (d_nm (pv 3)) (da_cons (d_call (o_min) (pe_callB (call_min2 rfl) (by rfl) T.min PyProof.Rows.boot_min (da_cons d_int (da_cons (d_ca c__law_one_of rfl (hr.mono (by decide)) (by rfl) (da_cons (d_nm (pv 0)) (da_cons (d_add mkL (d_nm (pv 5)) (d_lst mkL (da_cons (d_ca c__law_draw rfl (hr.mono (by decide)) (by rfl) (da_cons (d_nm (pv 0)) (da_cons (d_add mkL (d_mul d_int (d_nm (pv 4))) d_int) da_nil))) (da_cons (d_ca c__law_draw rfl (hr.mono (by decide)) (by rfl) (da_cons (d_nm (pv 0)) (da_cons (d_mul d_int (d_nm (pv 4))) da_nil))) da_nil)))) da_nil))) da_nil)))) da_nil)))))))))
    (ds_one (ds_ret (d_lst mkC (da_cons (d_nm (pv 2)) (da_cons (d_nm (pv 3)) da_nil))))))))

abbrev s__law_great_house : Stmt := topS 41
theorem sc__law_great_house : FnScope ["_law_purse_here", "_law_house_here", "_law_at", "_law_base"] ["_law_purse_here"] (defScope s__law_great_house) := ⟨rfl, rfl, rfl, by decide +kernel, rfl, by decide +kernel, by decide +kernel⟩
def b__law_great_house : M Ctl := (seqM (asgM (fnM 2 F__law_house_x (consM (nmM 0) (consM (binM (addG newL) (pureM (.int 5)) (fnM 2 F__law_draw (consM (nmM 0) (consM (pureM (.int 4)) (pureM []))))) (pureM [])))) (.one 1))
    (seqM (forM (enuM (consM (binM ixG (nmM 1) (pureM (.int 0))) (pureM []))) (.tup [2, 3]) (ifM (andT (testM (binM gtG (fnM 2 F__law_draw (consM (nmM 0) (consM (pureM (.int 3)) (pureM [])))) (pureM (.int 0)))) (testM (binM ltG (binM ixG (binM ixG (nmM 1) (pureM (.int 1))) (nmM 2)) (nmM 3)))) (sasM (bindM (consM (pureM (.int 60)) (consM (binM (addG newL) (nmM 3) (fnM 2 F__law_draw (consM (nmM 0) (consM (pureM (.int 4)) (pureM []))))) (pureM []))) minG) (binM ixG (nmM 1) (pureM (.int 1))) (nmM 2)) (pureM .nx)))
    (retS (nmM 1))))
noncomputable def F__law_great_house : Fn := runBx ["_law_purse_here", "_law_house_here", "_law_at", "_law_base"] 1 (fun _ => 0) b__law_great_house
theorem der__law_great_house (T : Txt mg C) (hk : HK C) (hC : C.K = K) {f__law_draw : Addr} {fd__law_draw : FuncData} (c__law_draw : Ca P w K mg base C xa "_law_draw" ["_law_purse_here", "_law_many"] 2 F__law_draw f__law_draw fd__law_draw) {f__law_house_x : Addr} {fd__law_house_x : FuncData} (c__law_house_x : Ca P w K mg base C xa "_law_house" ["_law_purse_here", "_law_places"] 4 F__law_house_x f__law_house_x fd__law_house_x) {qual : Str} {f : Addr} (cdv : Value) (A : Around) (outer : List Env) (s : Shared) (H : Hp) (E : XK) (S : Addr → Prop) (hr : Room 4 (A.deeper (envOfC qual (defScope s__law_great_house) s.heap.objs.size f cdv))) :
    PSs (cxOf CX0 P w K mg base ["_law_purse_here", "_law_house_here", "_law_at", "_law_base"] qual (defScope s__law_great_house) f cdv A outer s H E).nox (defBody s__law_great_house) (tS ⟨K, C, E0, xa, S⟩ b__law_great_house) :=
  (ds_cons (ds_asg (t := .one 1) (ps_set (i := 1) sc__law_great_house.nd rfl (Or.inl rfl) (d_ca c__law_house_x rfl (hr.mono (by decide)) (by rfl) (da_cons (d_nm (pv 0)) (da_cons (d_add mkL d_int (d_ca c__law_draw rfl (hr.mono (by decide)) (by rfl) (da_cons (d_nm (pv 0)) (da_cons d_int da_nil)))) da_nil)))) rfl)
    (ds_cons (ds_for (t := (.tup [2, 3])) (ps_for PassesOwn.never rfl (di_enu (pi_enum (by rfl) T.enumerate (da_cons (d_ix (d_nm (pv 1)) d_int (fun _ _ => rfl)) da_nil))) (pg_tup rfl (pgs_cons (pg_name (i := 2) sc__law_great_house.nd rfl (Or.inl rfl)) (pgs_cons (pg_name (i := 3) sc__law_great_house.nd rfl (Or.inl rfl)) pgs_nil))) (ds_one (ds_if (dt_w (dw_and (dt_cmp op_gt o_ord (d_ca c__law_draw rfl (hr.mono (by decide)) (by rfl) (da_cons (d_nm (pv 0)) (da_cons d_int da_nil))) d_int) (dw_and1 (dt_cmp op_lt o_ord (d_ix (d_ix (d_nm (pv 1)) d_int (fun _ _ => rfl)) (d_nm (pv 2)) (fun _ _ => rfl)) (d_nm (pv 3)))))) (ds_one (ds_sas (ps_asg (d_call (o_min) (pe_callB (call_min2 rfl) (by rfl) T.min PyProof.Rows.boot_min (da_cons d_int (da_cons (d_add mkL (d_nm (pv 3)) (d_ca c__law_draw rfl (hr.mono (by decide)) (by rfl) (da_cons (d_nm (pv 0)) (da_cons d_int da_nil)))) da_nil)))) (pg_sub (d_ix (d_nm (pv 1)) d_int (fun _ _ => rfl)) (d_nm (pv 2)) set_list)))) ds_nil))))
    (ds_one (ds_ret (d_nm (pv 1))))))

abbrev s__law_made : Stmt := topS 42
theorem sc__law_made : FnScope ["_law_house_here"] ["_law_house_here"] (defScope s__law_made) := ⟨rfl, rfl, rfl, by decide +kernel, rfl, by decide +kernel, by decide +kernel⟩
def b__law_made : M Ctl := (retS (bindM (consM (bindM (consM (binM ixG (nmM 0) (pureM (.int 0))) (pureM [])) (listG newL)) (consM (bindM (consM (binM ixG (nmM 0) (pureM (.int 1))) (pureM [])) (listG newL)) (pureM []))) (makG F_House)))
noncomputable def F__law_made : Fn := runBx ["_law_house_here"] 1 (fun _ => 0) b__law_made
theorem der__law_made (T : Txt mg C) (hk : HK C) (hC : C.K = K) {fI : Addr} {fdI : FuncData} (M : HMk P w K mg base C xa 4 F_House fI fdI) {qual : Str} {f : Addr} (cdv : Value) (A : Around) (outer : List Env) (s : Shared) (H : Hp) (E : XK) (S : Addr → Prop) (hr : Room 5 (A.deeper (envOfC qual (defScope s__law_made) s.heap.objs.size f cdv))) :
    PSs (cxOf CX0 P w K mg base ["_law_house_here"] qual (defScope s__law_made) f cdv A outer s H E).nox (defBody s__law_made) (tS ⟨K, C, E0, xa, S⟩ b__law_made) :=
  (ds_one (ds_ret (d_make (pe_make M.ma M.ok (hr.mono (by decide)) (by rfl) T.House M.b .nil pass0 (da_cons (d_call (o_list mkL) (pe_callTy call_list_of (by rfl) T.t_list PyProof.Rows.boot_list (da_cons (d_ix (d_nm (pv 0)) d_int (fun _ _ => rfl)) da_nil))) (da_cons (d_call (o_list mkL) (pe_callTy call_list_of (by rfl) T.t_list PyProof.Rows.boot_list (da_cons (d_ix (d_nm (pv 0)) d_int (fun _ _ => rfl)) da_nil))) da_nil))))))

abbrev s__law_told_of : Stmt := topS 43
theorem sc__law_told_of : FnScope ["_law_made_here", "_law_at", "_law_house_here", "_law_held", "_law_late"] ["_law_made_here"] (defScope s__law_told_of) := ⟨rfl, rfl, rfl, by decide +kernel, rfl, by decide +kernel, by decide +kernel⟩
def b__law_told_of : M Ctl := (seqM (asgM (bindM (consM (bindM (consM (metM 1 F_House_bases (nmM 0) (pureM [])) (consM (metM 1 F_House_rooms (nmM 0) (pureM [])) (pureM []))) newL) (consM (bindM (pureM []) newC) (pureM []))) newT) (.tup [2, 3]))
    (seqM (forM (rng1M (consM (bindM (consM (binM ixG (nmM 2) (pureM (.int 1))) (pureM [])) lenG) (pureM []))) (.one 1) (dropM (appM (nmM 3) (consM (bindM (consM (lcM false (rng1M (consM (binM (addG newL) (nmM 1) (pureM (.int 1))) (pureM []))) (.one 4) [4] (pureM true) (binM mulG (binM ixG (binM ixG (nmM 2) (pureM (.int 1))) (nmM 4)) (binM ixG (fnM 1 F__law_weights (consM (nmM 2) (pureM []))) (nmM 4)))) (pureM [])) sumG) (pureM [])))))
    (seqM (ifM (notT (testM (fnM 2 (F__law_exact 9) (consM (bindM (consM (fnM 1 F_weights (consM (nmM 0) (pureM []))) (consM (fnM 1 F_held_up_to (consM (nmM 0) (pureM []))) (consM (fnM 1 F_many_rows (consM (nmM 0) (pureM []))) (consM (metM 1 F_House_places (nmM 0) (pureM [])) (pureM []))))) newL) (consM (bindM (consM (fnM 1 F__law_weights (consM (nmM 2) (pureM []))) (consM (frnM 3) (consM (fnM 1 F__law_many_rows (consM (nmM 2) (pureM []))) (consM (bindM (consM (nmM 3) (pureM [])) lenG) (pureM []))))) newL) (pureM [])))))) (retS (pureM .non)) (pureM .nx))
    (retS (nmM 2)))))
noncomputable def F__law_told_of : Fn := runBx ["_law_made_here", "_law_at", "_law_house_here", "_law_held", "_law_late"] 1 (fun _ => 0) b__law_told_of
theorem der__law_told_of (T : Txt mg C) (hk : HK C) (hC : C.K = K) {f_House_rooms : Addr} {fd_House_rooms : FuncData} (c_House_rooms : Cm P w K mg base C xa "rooms" 1 F_House_rooms f_House_rooms fd_House_rooms) {f_House_bases : Addr} {fd_House_bases : FuncData} (c_House_bases : Cm P w K mg base C xa "bases" 1 F_House_bases f_House_bases fd_House_bases) {f__law_weights : Addr} {fd__law_weights : FuncData} (c__law_weights : Ca P w K mg base C xa "_law_weights" ["_law_house_here"] 1 F__law_weights f__law_weights fd__law_weights) {f__law_exact : Addr} {fd__law_exact : FuncData} (c__law_exact : Ca P w K mg base C xa "_law_exact" ["_law_mine", "_law_theirs"] 9 (F__law_exact 9) f__law_exact fd__law_exact) {f__law_many_rows : Addr} {fd__law_many_rows : FuncData} (c__law_many_rows : Ca P w K mg base C xa "_law_many_rows" ["_law_house_here"] 1 F__law_many_rows f__law_many_rows fd__law_many_rows) {f_House_places : Addr} {fd_House_places : FuncData} (c_House_places : Cm P w K mg base C xa "places" 1 F_House_places f_House_places fd_House_places) {f_many_rows : Addr} {fd_many_rows : FuncData} (c_many_rows : Ca P w K mg base C xa "many_rows" ["house"] 2 F_many_rows f_many_rows fd_many_rows) {f_held_up_to : Addr} {fd_held_up_to : FuncData} (c_held_up_to : Ca P w K mg base C xa "held_up_to" ["house"] 3 F_held_up_to f_held_up_to fd_held_up_to) {f_weights : Addr} {fd_weights : FuncData} (c_weights : Ca P w K mg base C xa "weights" ["house"] 2 F_weights f_weights fd_weights) {qual : Str} {f : Addr} (cdv : Value) (A : Around) (outer : List Env) (s : Shared) (H : Hp) (E : XK) (S : Addr → Prop) (hr : Room 9 (A.deeper (envOfC qual (defScope s__law_told_of) s.heap.objs.size f cdv))) :
    PSs (cxOf CX0 P w K mg base ["_law_made_here", "_law_at", "_law_house_here", "_law_held", "_law_late"] qual (defScope s__law_told_of) f cdv A outer s H E).nox (defBody s__law_told_of) (tS ⟨K, C, E0, xa, S⟩ b__law_told_of) :=
  (ds_cons (ds_asg (t := (.tup [2, 3])) (ps_asg (d_tup (da_cons (d_lst mkL (da_cons (d_cm c_House_bases rfl (hr.mono (by decide)) nl_bases (d_nm (pv 0))) (da_cons (d_cm c_House_rooms rfl (hr.mono (by decide)) nl_rooms (d_nm (pv 0))) da_nil))) (da_cons (d_lst mkC da_nil) da_nil))) (pg_tup rfl (pgs_cons (pg_name (i := 2) sc__law_told_of.nd rfl (Or.inr rfl)) (pgs_cons (pg_name (i := 3) sc__law_told_of.nd rfl (Or.inl rfl)) pgs_nil)))) rfl)
    (ds_cons (ds_for (t := (.one 1)) (ps_for PassesOwn.never rfl (di_rng1 (pi_range1 (by rfl) T.range (da_cons (d_call (o_len hC) (pe_callB call_len_seq (by rfl) T.len PySem.boot_len (da_cons (d_ix (d_nm (pv 2)) d_int (fun _ _ => rfl)) da_nil))) da_nil))) (pg_name (i := 1) sc__law_told_of.nd rfl (Or.inl rfl)) (ds_one (ds_expr (ps_expr (d_app hC (pe_bm PySem.F.plainAttrs_list PySem.F.slot_list_append PySem.F.type_list_append mt_append (d_nm (pv 3)) (da_cons (d_call (o_sum) (pe_callB (cr_sum rfl) (by rfl) T.sum PyProof.Rows.boot_sum (da_cons (d_lc (t := (.one 4)) (by decide) (pe_lc (own := [("_law_late", 4)]) (g := Tg.G _ (.one 4)) rfl sc__law_told_of.nd (di_rng1 (pi_range1 (by rfl) T.range (da_cons (d_add mkL (d_nm (pv 1)) d_int) da_nil))) (blkOk_by (own := [("_law_late", 4)]) (N := ["_law_made_here", "_law_at", "_law_house_here", "_law_held", "_law_late"]) (sc := defScope s__law_told_of) (by decide +kernel)) (fun _ _ _ _ _ => (pg_name (i := 4) sc__law_told_of.nd rfl (Or.inl rfl))) (fun _ _ _ _ _ => pts_yes) (fun _ _ _ _ _ => pe_exS fun _ => (d_mul (d_ix (d_ix (d_nm (pv 2)) d_int (fun _ _ => rfl)) (d_nm (pv 4)) (fun _ _ => rfl)) (d_ix (d_ca c__law_weights rfl (hr.mono (by decide)) (by rfl) (da_cons (d_nm (pv 2)) da_nil)) (d_nm (pv 4)) (fun _ _ => rfl)))))) da_nil))) da_nil))))))))
    (ds_cons (ds_if (dt_not (dt_val (d_ca c__law_exact rfl (hr.mono (by decide)) (by rfl) (da_cons (d_lst mkL (da_cons (d_ca c_weights rfl (hr.mono (by decide)) (by rfl) (da_cons (d_nm (pv 0)) da_nil)) (da_cons (d_ca c_held_up_to rfl (hr.mono (by decide)) (by rfl) (da_cons (d_nm (pv 0)) da_nil)) (da_cons (d_ca c_many_rows rfl (hr.mono (by decide)) (by rfl) (da_cons (d_nm (pv 0)) da_nil)) (da_cons (d_cm c_House_places rfl (hr.mono (by decide)) nl_places (d_nm (pv 0))) da_nil))))) (da_cons (d_lst mkL (da_cons (d_ca c__law_weights rfl (hr.mono (by decide)) (by rfl) (da_cons (d_nm (pv 2)) da_nil)) (da_cons (d_frn (pv 3)) (da_cons (d_ca c__law_many_rows rfl (hr.mono (by decide)) (by rfl) (da_cons (d_nm (pv 2)) da_nil)) (da_cons (d_call (o_len hC) (pe_callB call_len_seq (by rfl) T.len PySem.boot_len (da_cons (d_nm (pv 3)) da_nil))) da_nil))))) da_nil))))) (ds_one (ds_ret d_non)) ds_nil)
    (ds_one (ds_ret (d_nm (pv 2)))))))

abbrev s__law_places_right : Stmt := topS 45
theorem sc__law_places_right : FnScope ["_law_purse_here", "_law_house_here", "_law_at", "_law_made_here", "_law_many", "_law_room", "_law_told", "_law_last", "_law_less"] ["_law_purse_here", "_law_house_here"] (defScope s__law_places_right) := ⟨rfl, rfl, rfl, by decide +kernel, rfl, by decide +kernel, by decide +kernel⟩
def b__law_places_right : M Ctl := (seqM (parM [3, 4] (consM (fnM 1 F__law_made (consM (nmM 1) (pureM []))) (consM (bindM (consM (binM ixG (nmM 1) (pureM (.int 1))) (pureM [])) lenG) (pureM []))))
    (seqM (forM (rng1M (consM (nmM 4) (pureM []))) (.one 2) (seqM (asgM (fnM 2 F__law_draw (consM (nmM 0) (consM (pureM (.int 61)) (pureM [])))) (.one 5))
    (seqM (asgM (fnK0M 3 F_with_room perm210 (consM (nmM 5) (consM (nmM 2) (consM (nmM 3) (pureM []))))) (.one 6))
    (seqM (ifM (notT (testM (fnM 2 (F__law_exact 9) (consM (fnM 1 F__law_told_of (consM (nmM 6) (pureM []))) (consM (bindM (consM (binM ixG (nmM 1) (pureM (.int 0))) (consM (binM (addG newL) (binM (addG newL) (sliM newL (binM ixG (nmM 1) (pureM (.int 1))) (pureM none) (partM (nmM 2))) (bindM (consM (nmM 5) (pureM [])) newL)) (sliM newL (binM ixG (nmM 1) (pureM (.int 1))) (partM (binM (addG newL) (nmM 2) (pureM (.int 1)))) (pureM none))) (pureM []))) newL) (pureM [])))))) (retS (pureM (.bl false))) (pureM .nx))
    (seqM (ifM (testM (binM ltG (nmM 2) (binM subG (nmM 4) (pureM (.int 1))))) (seqM (asgM (bindM (consM (binM ixG (binM ixG (nmM 1) (pureM (.int 1))) (nmM 2)) (consM (binM subG (binM ixG (binM ixG (nmM 1) (pureM (.int 0))) (nmM 2)) (pureM (.int 1))) (pureM []))) minG) (.one 8))
    (seqM (asgM (ifM (testM (binM gtG (nmM 2) (pureM (.int 0)))) (fnM 2 F_tightened (consM (nmM 3) (consM (nmM 2) (pureM [])))) (fnK0M 2 F_tightened perm10 (consM (nmM 2) (consM (nmM 3) (pureM []))))) (.one 6))
    (ifM (notT (testM (fnM 2 (F__law_exact 9) (consM (fnM 1 F__law_told_of (consM (nmM 6) (pureM []))) (consM (bindM (consM (binM ixG (nmM 1) (pureM (.int 0))) (consM (binM (addG newL) (binM (addG newL) (sliM newL (binM ixG (nmM 1) (pureM (.int 1))) (pureM none) (partM (nmM 2))) (bindM (consM (nmM 8) (pureM [])) newL)) (sliM newL (binM ixG (nmM 1) (pureM (.int 1))) (partM (binM (addG newL) (nmM 2) (pureM (.int 1)))) (pureM none))) (pureM []))) newL) (pureM [])))))) (retS (pureM (.bl false))) (pureM .nx)))) (pureM .nx))
    (forM (rng2M (consM (nmM 2) (consM (nmM 4) (pureM [])))) (.one 7) (ifM (notT (testM (fnM 2 (F__law_exact 9) (consM (fnM 1 F__law_told_of (consM (fnK0M 3 F_stretch perm210 (consM (nmM 7) (consM (nmM 2) (consM (nmM 3) (pureM []))))) (pureM []))) (consM (bindM (consM (sliM newL (binM ixG (nmM 1) (pureM (.int 0))) (partM (nmM 2)) (partM (nmM 7))) (consM (sliM newL (binM ixG (nmM 1) (pureM (.int 1))) (partM (nmM 2)) (partM (binM (addG newL) (nmM 7) (pureM (.int 1))))) (pureM []))) newL) (pureM [])))))) (retS (pureM (.bl false))) (pureM .nx))))))))
    (retS (fnM 2 (F__law_exact 9) (consM (fnM 1 F__law_told_of (consM (nmM 3) (pureM []))) (consM (nmM 1) (pureM [])))))))
noncomputable def F__law_places_right : Fn := runBx ["_law_purse_here", "_law_house_here", "_law_at", "_law_made_here", "_law_many", "_law_room", "_law_told", "_law_last", "_law_less"] 2 (fun _ => 0) b__law_places_right
theorem der__law_places_right (T : Txt mg C) (hk : HK C) (hC : C.K = K) {f__law_made : Addr} {fd__law_made : FuncData} (c__law_made : Ca P w K mg base C xa "_law_made" ["_law_house_here"] 6 F__law_made f__law_made fd__law_made) {f__law_draw : Addr} {fd__law_draw : FuncData} (c__law_draw : Ca P w K mg base C xa "_law_draw" ["_law_purse_here", "_law_many"] 2 F__law_draw f__law_draw fd__law_draw) {f_with_room : Addr} {fd_with_room : FuncData} (c_with_room : Ca P w K mg base C xa "with_room" ["house", "place", "room"] 6 F_with_room f_with_room fd_with_room) {f__law_exact : Addr} {fd__law_exact : FuncData} (c__law_exact : Ca P w K mg base C xa "_law_exact" ["_law_mine", "_law_theirs"] 9 (F__law_exact 9) f__law_exact fd__law_exact) {f__law_told_of : Addr} {fd__law_told_of : FuncData} (c__law_told_of : Ca P w K mg base C xa "_law_told_of" ["_law_made_here"] 10 F__law_told_of f__law_told_of fd__law_told_of) {f_tightened : Addr} {fd_tightened : FuncData} (c_tightened : Ca P w K mg base C xa "tightened" ["house", "place"] 7 F_tightened f_tightened fd_tightened) {f_stretch : Addr} {fd_stretch : FuncData} (c_stretch : Ca P w K mg base C xa "stretch" ["house", "first", "last"] 6 F_stretch f_stretch fd_stretch) (kb_with_room_210 : Kb K fd_with_room ["house", "place", "room"] ["room", "place", "house"] perm210) (kb_tightened_10 : Kb K fd_tightened ["house", "place"] ["place", "house"] perm10) (kb_stretch_210 : Kb K fd_stretch ["house", "first", "last"] ["last", "first", "house"] perm210) {qual : Str} {f : Addr} (cdv : Value) (A : Around) (outer : List Env) (s : Shared) (H : Hp) (E : XK) (S : Addr → Prop) (hr : Room 10 (A.deeper (envOfC qual (defScope s__law_places_right) s.heap.objs.size f cdv))) :
    PSs (cxOf CX0 P w K mg base ["_law_purse_here", "_law_house_here", "_law_at", "_law_made_here", "_law_many", "_law_room", "_law_told", "_law_last", "_law_less"] qual (defScope s__law_places_right) f cdv A outer s H E).nox (defBody s__law_places_right) (tS ⟨K, C, E0, xa, S⟩ b__law_places_right) :=
  (ds_cons (ds_par (ps_par rfl sc__law_places_right.nd (i := 3) (j := 4) rfl rfl (by decide) rfl rfl (da_cons (d_ca c__law_made rfl (hr.mono (by decide)) (by rfl) (da_cons (d_nm (pv 1)) da_nil)) (da_cons (d_call (o_len hC) (pe_callB call_len_seq (by rfl) T.len PySem.boot_len (da_cons (d_ix (d_nm (pv 1)) d_int (fun _ _ => rfl)) da_nil))) da_nil)) (by rfl)))
    (ds_cons (ds_for (t := (.one 2)) (ps_for PassesOwn.never rfl (di_rng1 (pi_range1 (by rfl) T.range (da_cons (d_nm (pv 4)) da_nil))) (pg_name (i := 2) sc__law_places_right.nd rfl (Or.inl rfl)) (ds_cons (ds_asg (t := .one 5) (ps_set (i := 5) sc__law_places_right.nd rfl (Or.inl rfl) (d_ca c__law_draw rfl (hr.mono (by decide)) (by rfl) (da_cons (d_nm (pv 0)) (da_cons d_int da_nil)))) rfl)
    (ds_cons (ds_asg (t := .one 6) (ps_set (i := 6) sc__law_places_right.nd rfl (Or.inl rfl) (d_ck ok210 c_with_room kb_with_room_210 (by decide) rfl (hr.mono (by decide)) (by rfl) (dk_cons (d_nm (pv 5)) (dk_cons (d_nm (pv 2)) (dk_cons (d_nm (pv 3)) dk_nil))))) rfl)
    (ds_cons (ds_if (dt_not (dt_val (d_ca c__law_exact rfl (hr.mono (by decide)) (by rfl) (da_cons (d_ca c__law_told_of rfl (hr.mono (by decide)) (by rfl) (da_cons (d_nm (pv 6)) da_nil)) (da_cons (d_lst mkL (da_cons (d_ix (d_nm (pv 1)) d_int (fun _ _ => rfl)) (da_cons (d_add mkL (d_add mkL (d_sli mkL hC (d_ix (d_nm (pv 1)) d_int (fun _ _ => rfl)) do_none (do_some (d_nm (pv 2)))) (d_lst mkL (da_cons (d_nm (pv 5)) da_nil))) (d_sli mkL hC (d_ix (d_nm (pv 1)) d_int (fun _ _ => rfl)) (do_some (d_add mkL (d_nm (pv 2)) d_int)) do_none)) da_nil))) da_nil))))) (ds_one (ds_ret d_bl)) ds_nil)
    (ds_cons (ds_if (dt_cmp op_lt o_ord (d_nm (pv 2)) (d_sub (d_nm (pv 4)) d_int)) (ds_cons (ds_asg (t := .one 8) (ps_set (i := 8) sc__law_places_right.nd rfl (Or.inl rfl) (d_call (o_min) (pe_callB (call_min2 rfl) (by rfl) T.min PyProof.Rows.boot_min (da_cons (d_ix (d_ix (d_nm (pv 1)) d_int (fun _ _ => rfl)) (d_nm (pv 2)) (fun _ _ => rfl)) (da_cons (d_sub (d_ix (d_ix (d_nm (pv 1)) d_int (fun _ _ => rfl)) (d_nm (pv 2)) (fun _ _ => rfl)) d_int) da_nil))))) rfl)
    (ds_cons (ds_asg (t := .one 6) (ps_set (i := 6) sc__law_places_right.nd rfl (Or.inl rfl) (d_ifx (dt_cmp op_gt o_ord (d_nm (pv 2)) d_int) (d_ca c_tightened rfl (hr.mono (by decide)) (by rfl) (da_cons (d_nm (pv 3)) (da_cons (d_nm (pv 2)) da_nil))) (d_ck ok10 c_tightened kb_tightened_10 (by decide) rfl (hr.mono (by decide)) (by rfl) (dk_cons (d_nm (pv 2)) (dk_cons (d_nm (pv 3)) dk_nil))))) rfl)
    (ds_one (ds_if (dt_not (dt_val (d_ca c__law_exact rfl (hr.mono (by decide)) (by rfl) (da_cons (d_ca c__law_told_of rfl (hr.mono (by decide)) (by rfl) (da_cons (d_nm (pv 6)) da_nil)) (da_cons (d_lst mkL (da_cons (d_ix (d_nm (pv 1)) d_int (fun _ _ => rfl)) (da_cons (d_add mkL (d_add mkL (d_sli mkL hC (d_ix (d_nm (pv 1)) d_int (fun _ _ => rfl)) do_none (do_some (d_nm (pv 2)))) (d_lst mkL (da_cons (d_nm (pv 8)) da_nil))) (d_sli mkL hC (d_ix (d_nm (pv 1)) d_int (fun _ _ => rfl)) (do_some (d_add mkL (d_nm (pv 2)) d_int)) do_none)) da_nil))) da_nil))))) (ds_one (ds_ret d_bl)) ds_nil)))) ds_nil)
    (ds_one (ds_for (t := (.one 7)) (ps_for PassesOwn.never rfl (di_rng2 (pi_range2 (by rfl) T.range (da_cons (d_nm (pv 2)) (da_cons (d_nm (pv 4)) da_nil)))) (pg_name (i := 7) sc__law_places_right.nd rfl (Or.inl rfl)) (ds_one (ds_if (dt_not (dt_val (d_ca c__law_exact rfl (hr.mono (by decide)) (by rfl) (da_cons (d_ca c__law_told_of rfl (hr.mono (by decide)) (by rfl) (da_cons (d_ck ok210 c_stretch kb_stretch_210 (by decide) rfl (hr.mono (by decide)) (by rfl) (dk_cons (d_nm (pv 7)) (dk_cons (d_nm (pv 2)) (dk_cons (d_nm (pv 3)) dk_nil)))) da_nil)) (da_cons (d_lst mkL (da_cons (d_sli mkL hC (d_ix (d_nm (pv 1)) d_int (fun _ _ => rfl)) (do_some (d_nm (pv 2))) (do_some (d_nm (pv 7)))) (da_cons (d_sli mkL hC (d_ix (d_nm (pv 1)) d_int (fun _ _ => rfl)) (do_some (d_nm (pv 2))) (do_some (d_add mkL (d_nm (pv 7)) d_int))) da_nil))) da_nil))))) (ds_one (ds_ret d_bl)) ds_nil)))))))))))
    (ds_one (ds_ret (d_ca c__law_exact rfl (hr.mono (by decide)) (by rfl) (da_cons (d_ca c__law_told_of rfl (hr.mono (by decide)) (by rfl) (da_cons (d_nm (pv 3)) da_nil)) (da_cons (d_nm (pv 1)) da_nil)))))))


end
end K4

/-! K4P: what the functions of the program answer. -/
namespace K4
open PySem PySem.Spec PyProof.Rows L2 CD
section
variable {c : Cells} {Q : D → Cells → Prop}
theorem fw_whole (i : Int) (q : Q (.bl true) c) : FW F_is_whole [.int i] c Q := by
  refine FW_runBx rfl ?_
  unfold b_is_whole
  try simp only [decide_true, decide_false, Bool.and_self, eq_self, W_loop0, WL_nil, true_or, or_true, or_false, W_seq, W_asg1, W_asgT, W_drop, W_ret, W_if, W_not, W_test, W_andV, W_notV, W_orV, W_andT, W_orT, W_bin, W_cons, W_nm, W_fn, W_fnK0, W_met, W_fld, W_pure, W_bind, W_isB, W_isLT, W_isH, W_add, W_sub, W_neg, W_ord, W_int, W_min, W_max, W_cat, W_part, W_sli, W_cutL, W_listL, W_listT, W_sumL, W_allL, W_itm, W_rng1, W_rng2, W_enu, W_zip', W_for, W_lc, W_app, W_sas, W_aug, W_par, W_lenL, W_lenT, W_lenS, W_iadd, W_isub, W_isBl, W_bit, Wa_newL, Wa_newT, Wa_newC, Wa_mul, Wa_div, Wa_mod, Wa_pow, Wa_ixL, Wa_ixT, Wa_ixC, Wa_lenC, Wa_mk, W_eqL, W_eqI, W_eqB, W_fail, W_cutS, W_cutC, startD, List.map_cons, List.map_nil, List.length_cons, List.length_nil, List.length_map, List.cons_append, List.nil_append, List.getElem?_cons_zero, List.getElem?_cons_succ, List.set_cons_zero, List.set_cons_succ, Option.some.injEq, exists_eq_left', List.replicate, Nat.reduceAdd, Nat.reduceSub, Nat.reduceMul, D.bl.injEq, D.int.injEq, D.hs.injEq, D.lst.injEq, D.ow.injEq, D.tup.injEq, List.cons.injEq, and_true, true_and, reduceCtorEq, Bool.not_true, Bool.not_false, false_implies, true_implies, forall_const, imp_self, Bool.false_eq_true, if_true, if_false, ↓reduceIte, Bool.true_eq_false, ty_ii, ty_bi, ty_li, ty_ti, ty_ib, ty_bb, ty_lb, ty_tb, ty_ll, ty_tl, ty_dl, okd_int, okd_bl, okd_lst, okd_hs, kin_hs, wipeD, Tg.st, setAll, exists_and_left, exists_eq_left, exists_eq', and_assoc, exists_and_right]
  exact End.plain (x' := []) (by simp) rfl (q)
theorem fw_count (i : Int) (q : Q (.bl (decide (0 ≤ i))) c) : FW F_is_count [.int i] c Q := by
  refine FW_runBx rfl ?_
  unfold b_is_count
  try simp only [decide_true, decide_false, Bool.and_self, eq_self, W_loop0, WL_nil, true_or, or_true, or_false, W_seq, W_asg1, W_asgT, W_drop, W_ret, W_if, W_not, W_test, W_andV, W_notV, W_orV, W_andT, W_orT, W_bin, W_cons, W_nm, W_fn, W_fnK0, W_met, W_fld, W_pure, W_bind, W_isB, W_isLT, W_isH, W_add, W_sub, W_neg, W_ord, W_int, W_min, W_max, W_cat, W_part, W_sli, W_cutL, W_listL, W_listT, W_sumL, W_allL, W_itm, W_rng1, W_rng2, W_enu, W_zip', W_for, W_lc, W_app, W_sas, W_aug, W_par, W_lenL, W_lenT, W_lenS, W_iadd, W_isub, W_isBl, W_bit, Wa_newL, Wa_newT, Wa_newC, Wa_mul, Wa_div, Wa_mod, Wa_pow, Wa_ixL, Wa_ixT, Wa_ixC, Wa_lenC, Wa_mk, W_eqL, W_eqI, W_eqB, W_fail, W_cutS, W_cutC, startD, List.map_cons, List.map_nil, List.length_cons, List.length_nil, List.length_map, List.cons_append, List.nil_append, List.getElem?_cons_zero, List.getElem?_cons_succ, List.set_cons_zero, List.set_cons_succ, Option.some.injEq, exists_eq_left', List.replicate, Nat.reduceAdd, Nat.reduceSub, Nat.reduceMul, D.bl.injEq, D.int.injEq, D.hs.injEq, D.lst.injEq, D.ow.injEq, D.tup.injEq, List.cons.injEq, and_true, true_and, reduceCtorEq, Bool.not_true, Bool.not_false, false_implies, true_implies, forall_const, imp_self, Bool.false_eq_true, if_true, if_false, ↓reduceIte, Bool.true_eq_false, ty_ii, ty_bi, ty_li, ty_ti, ty_ib, ty_bb, ty_lb, ty_tb, ty_ll, ty_tl, ty_dl, okd_int, okd_bl, okd_lst, okd_hs, kin_hs, wipeD, Tg.st, setAll, exists_and_left, exists_eq_left, exists_eq', and_assoc, exists_and_right]
  refine fw_whole i ?_
  try simp only [decide_true, decide_false, Bool.and_self, eq_self, W_loop0, WL_nil, true_or, or_true, or_false, W_seq, W_asg1, W_asgT, W_drop, W_ret, W_if, W_not, W_test, W_andV, W_notV, W_orV, W_andT, W_orT, W_bin, W_cons, W_nm, W_fn, W_fnK0, W_met, W_fld, W_pure, W_bind, W_isB, W_isLT, W_isH, W_add, W_sub, W_neg, W_ord, W_int, W_min, W_max, W_cat, W_part, W_sli, W_cutL, W_listL, W_listT, W_sumL, W_allL, W_itm, W_rng1, W_rng2, W_enu, W_zip', W_for, W_lc, W_app, W_sas, W_aug, W_par, W_lenL, W_lenT, W_lenS, W_iadd, W_isub, W_isBl, W_bit, Wa_newL, Wa_newT, Wa_newC, Wa_mul, Wa_div, Wa_mod, Wa_pow, Wa_ixL, Wa_ixT, Wa_ixC, Wa_lenC, Wa_mk, W_eqL, W_eqI, W_eqB, W_fail, W_cutS, W_cutC, startD, List.map_cons, List.map_nil, List.length_cons, List.length_nil, List.length_map, List.cons_append, List.nil_append, List.getElem?_cons_zero, List.getElem?_cons_succ, List.set_cons_zero, List.set_cons_succ, Option.some.injEq, exists_eq_left', List.replicate, Nat.reduceAdd, Nat.reduceSub, Nat.reduceMul, D.bl.injEq, D.int.injEq, D.hs.injEq, D.lst.injEq, D.ow.injEq, D.tup.injEq, List.cons.injEq, and_true, true_and, reduceCtorEq, Bool.not_true, Bool.not_false, false_implies, true_implies, forall_const, imp_self, Bool.false_eq_true, if_true, if_false, ↓reduceIte, Bool.true_eq_false, ty_ii, ty_bi, ty_li, ty_ti, ty_ib, ty_bb, ty_lb, ty_tb, ty_ll, ty_tl, ty_dl, okd_int, okd_bl, okd_lst, okd_hs, kin_hs, wipeD, Tg.st, setAll, exists_and_left, exists_eq_left, exists_eq', and_assoc, exists_and_right]
  exact End.plain (x' := []) (by simp) rfl (q)
theorem fw_base (i : Int) (q : Q (.bl (decide (2 ≤ i))) c) : FW F_is_base [.int i] c Q := by
  refine FW_runBx rfl ?_
  unfold b_is_base
  try simp only [decide_true, decide_false, Bool.and_self, eq_self, W_loop0, WL_nil, true_or, or_true, or_false, W_seq, W_asg1, W_asgT, W_drop, W_ret, W_if, W_not, W_test, W_andV, W_notV, W_orV, W_andT, W_orT, W_bin, W_cons, W_nm, W_fn, W_fnK0, W_met, W_fld, W_pure, W_bind, W_isB, W_isLT, W_isH, W_add, W_sub, W_neg, W_ord, W_int, W_min, W_max, W_cat, W_part, W_sli, W_cutL, W_listL, W_listT, W_sumL, W_allL, W_itm, W_rng1, W_rng2, W_enu, W_zip', W_for, W_lc, W_app, W_sas, W_aug, W_par, W_lenL, W_lenT, W_lenS, W_iadd, W_isub, W_isBl, W_bit, Wa_newL, Wa_newT, Wa_newC, Wa_mul, Wa_div, Wa_mod, Wa_pow, Wa_ixL, Wa_ixT, Wa_ixC, Wa_lenC, Wa_mk, W_eqL, W_eqI, W_eqB, W_fail, W_cutS, W_cutC, startD, List.map_cons, List.map_nil, List.length_cons, List.length_nil, List.length_map, List.cons_append, List.nil_append, List.getElem?_cons_zero, List.getElem?_cons_succ, List.set_cons_zero, List.set_cons_succ, Option.some.injEq, exists_eq_left', List.replicate, Nat.reduceAdd, Nat.reduceSub, Nat.reduceMul, D.bl.injEq, D.int.injEq, D.hs.injEq, D.lst.injEq, D.ow.injEq, D.tup.injEq, List.cons.injEq, and_true, true_and, reduceCtorEq, Bool.not_true, Bool.not_false, false_implies, true_implies, forall_const, imp_self, Bool.false_eq_true, if_true, if_false, ↓reduceIte, Bool.true_eq_false, ty_ii, ty_bi, ty_li, ty_ti, ty_ib, ty_bb, ty_lb, ty_tb, ty_ll, ty_tl, ty_dl, okd_int, okd_bl, okd_lst, okd_hs, kin_hs, wipeD, Tg.st, setAll, exists_and_left, exists_eq_left, exists_eq', and_assoc, exists_and_right]
  refine fw_whole i ?_
  try simp only [decide_true, decide_false, Bool.and_self, eq_self, W_loop0, WL_nil, true_or, or_true, or_false, W_seq, W_asg1, W_asgT, W_drop, W_ret, W_if, W_not, W_test, W_andV, W_notV, W_orV, W_andT, W_orT, W_bin, W_cons, W_nm, W_fn, W_fnK0, W_met, W_fld, W_pure, W_bind, W_isB, W_isLT, W_isH, W_add, W_sub, W_neg, W_ord, W_int, W_min, W_max, W_cat, W_part, W_sli, W_cutL, W_listL, W_listT, W_sumL, W_allL, W_itm, W_rng1, W_rng2, W_enu, W_zip', W_for, W_lc, W_app, W_sas, W_aug, W_par, W_lenL, W_lenT, W_lenS, W_iadd, W_isub, W_isBl, W_bit, Wa_newL, Wa_newT, Wa_newC, Wa_mul, Wa_div, Wa_mod, Wa_pow, Wa_ixL, Wa_ixT, Wa_ixC, Wa_lenC, Wa_mk, W_eqL, W_eqI, W_eqB, W_fail, W_cutS, W_cutC, startD, List.map_cons, List.map_nil, List.length_cons, List.length_nil, List.length_map, List.cons_append, List.nil_append, List.getElem?_cons_zero, List.getElem?_cons_succ, List.set_cons_zero, List.set_cons_succ, Option.some.injEq, exists_eq_left', List.replicate, Nat.reduceAdd, Nat.reduceSub, Nat.reduceMul, D.bl.injEq, D.int.injEq, D.hs.injEq, D.lst.injEq, D.ow.injEq, D.tup.injEq, List.cons.injEq, and_true, true_and, reduceCtorEq, Bool.not_true, Bool.not_false, false_implies, true_implies, forall_const, imp_self, Bool.false_eq_true, if_true, if_false, ↓reduceIte, Bool.true_eq_false, ty_ii, ty_bi, ty_li, ty_ti, ty_ib, ty_bb, ty_lb, ty_tb, ty_ll, ty_tl, ty_dl, okd_int, okd_bl, okd_lst, okd_hs, kin_hs, wipeD, Tg.st, setAll, exists_and_left, exists_eq_left, exists_eq', and_assoc, exists_and_right]
  exact End.plain (x' := []) (by simp) rfl (q)
theorem fw_below (i j : Int) (q : Q (.bl (decide (0 ≤ i) && decide (i < j))) c) : FW F_is_count_below [.int i, .int j] c Q := by
  refine FW_runBx rfl ?_
  unfold b_is_count_below
  try simp only [decide_true, decide_false, Bool.and_self, eq_self, W_loop0, WL_nil, true_or, or_true, or_false, W_seq, W_asg1, W_asgT, W_drop, W_ret, W_if, W_not, W_test, W_andV, W_notV, W_orV, W_andT, W_orT, W_bin, W_cons, W_nm, W_fn, W_fnK0, W_met, W_fld, W_pure, W_bind, W_isB, W_isLT, W_isH, W_add, W_sub, W_neg, W_ord, W_int, W_min, W_max, W_cat, W_part, W_sli, W_cutL, W_listL, W_listT, W_sumL, W_allL, W_itm, W_rng1, W_rng2, W_enu, W_zip', W_for, W_lc, W_app, W_sas, W_aug, W_par, W_lenL, W_lenT, W_lenS, W_iadd, W_isub, W_isBl, W_bit, Wa_newL, Wa_newT, Wa_newC, Wa_mul, Wa_div, Wa_mod, Wa_pow, Wa_ixL, Wa_ixT, Wa_ixC, Wa_lenC, Wa_mk, W_eqL, W_eqI, W_eqB, W_fail, W_cutS, W_cutC, startD, List.map_cons, List.map_nil, List.length_cons, List.length_nil, List.length_map, List.cons_append, List.nil_append, List.getElem?_cons_zero, List.getElem?_cons_succ, List.set_cons_zero, List.set_cons_succ, Option.some.injEq, exists_eq_left', List.replicate, Nat.reduceAdd, Nat.reduceSub, Nat.reduceMul, D.bl.injEq, D.int.injEq, D.hs.injEq, D.lst.injEq, D.ow.injEq, D.tup.injEq, List.cons.injEq, and_true, true_and, reduceCtorEq, Bool.not_true, Bool.not_false, false_implies, true_implies, forall_const, imp_self, Bool.false_eq_true, if_true, if_false, ↓reduceIte, Bool.true_eq_false, ty_ii, ty_bi, ty_li, ty_ti, ty_ib, ty_bb, ty_lb, ty_tb, ty_ll, ty_tl, ty_dl, okd_int, okd_bl, okd_lst, okd_hs, kin_hs, wipeD, Tg.st, setAll, exists_and_left, exists_eq_left, exists_eq', and_assoc, exists_and_right]
  refine fw_count i ?_
  try simp only [decide_true, decide_false, Bool.and_self, eq_self, W_loop0, WL_nil, true_or, or_true, or_false, W_seq, W_asg1, W_asgT, W_drop, W_ret, W_if, W_not, W_test, W_andV, W_notV, W_orV, W_andT, W_orT, W_bin, W_cons, W_nm, W_fn, W_fnK0, W_met, W_fld, W_pure, W_bind, W_isB, W_isLT, W_isH, W_add, W_sub, W_neg, W_ord, W_int, W_min, W_max, W_cat, W_part, W_sli, W_cutL, W_listL, W_listT, W_sumL, W_allL, W_itm, W_rng1, W_rng2, W_enu, W_zip', W_for, W_lc, W_app, W_sas, W_aug, W_par, W_lenL, W_lenT, W_lenS, W_iadd, W_isub, W_isBl, W_bit, Wa_newL, Wa_newT, Wa_newC, Wa_mul, Wa_div, Wa_mod, Wa_pow, Wa_ixL, Wa_ixT, Wa_ixC, Wa_lenC, Wa_mk, W_eqL, W_eqI, W_eqB, W_fail, W_cutS, W_cutC, startD, List.map_cons, List.map_nil, List.length_cons, List.length_nil, List.length_map, List.cons_append, List.nil_append, List.getElem?_cons_zero, List.getElem?_cons_succ, List.set_cons_zero, List.set_cons_succ, Option.some.injEq, exists_eq_left', List.replicate, Nat.reduceAdd, Nat.reduceSub, Nat.reduceMul, D.bl.injEq, D.int.injEq, D.hs.injEq, D.lst.injEq, D.ow.injEq, D.tup.injEq, List.cons.injEq, and_true, true_and, reduceCtorEq, Bool.not_true, Bool.not_false, false_implies, true_implies, forall_const, imp_self, Bool.false_eq_true, if_true, if_false, ↓reduceIte, Bool.true_eq_false, ty_ii, ty_bi, ty_li, ty_ti, ty_ib, ty_bb, ty_lb, ty_tb, ty_ll, ty_tl, ty_dl, okd_int, okd_bl, okd_lst, okd_hs, kin_hs, wipeD, Tg.st, setAll, exists_and_left, exists_eq_left, exists_eq', and_assoc, exists_and_right]
  refine ⟨fun h => ?_, fun h => ?_⟩
  · rw [h, Bool.true_and] at q; exact End.plain (x' := []) (by simp) rfl (q)
  · rw [h, Bool.false_and] at q; exact End.plain (x' := []) (by simp) rfl (q)
theorem fw_bases (ns : List Int) (hn : ns.length ≤ 1000) (q : Q (.bl (ns.all fun i => decide (2 ≤ i))) c) : FW F_are_bases [.lst (ns.map D.int)] c Q := by
  refine FW_runBx rfl ?_
  unfold b_are_bases
  try simp only [decide_true, decide_false, Bool.and_self, eq_self, W_loop0, WL_nil, true_or, or_true, or_false, W_seq, W_asg1, W_asgT, W_drop, W_ret, W_if, W_not, W_test, W_andV, W_notV, W_orV, W_andT, W_orT, W_bin, W_cons, W_nm, W_fn, W_fnK0, W_met, W_fld, W_pure, W_bind, W_isB, W_isLT, W_isH, W_add, W_sub, W_neg, W_ord, W_int, W_min, W_max, W_cat, W_part, W_sli, W_cutL, W_listL, W_listT, W_sumL, W_allL, W_itm, W_rng1, W_rng2, W_enu, W_zip', W_for, W_lc, W_app, W_sas, W_aug, W_par, W_lenL, W_lenT, W_lenS, W_iadd, W_isub, W_isBl, W_bit, Wa_newL, Wa_newT, Wa_newC, Wa_mul, Wa_div, Wa_mod, Wa_pow, Wa_ixL, Wa_ixT, Wa_ixC, Wa_lenC, Wa_mk, W_eqL, W_eqI, W_eqB, W_fail, W_cutS, W_cutC, startD, List.map_cons, List.map_nil, List.length_cons, List.length_nil, List.length_map, List.cons_append, List.nil_append, List.getElem?_cons_zero, List.getElem?_cons_succ, List.set_cons_zero, List.set_cons_succ, Option.some.injEq, exists_eq_left', List.replicate, Nat.reduceAdd, Nat.reduceSub, Nat.reduceMul, D.bl.injEq, D.int.injEq, D.hs.injEq, D.lst.injEq, D.ow.injEq, D.tup.injEq, List.cons.injEq, and_true, true_and, reduceCtorEq, Bool.not_true, Bool.not_false, false_implies, true_implies, forall_const, imp_self, Bool.false_eq_true, if_true, if_false, ↓reduceIte, Bool.true_eq_false, ty_ii, ty_bi, ty_li, ty_ti, ty_ib, ty_bb, ty_lb, ty_tb, ty_ll, ty_tl, ty_dl, okd_int, okd_bl, okd_lst, okd_hs, kin_hs, wipeD, Tg.st, setAll, exists_and_left, exists_eq_left, exists_eq', and_assoc, exists_and_right]
  refine WL_ints (fun i => decide (2 ≤ i)) D.bl ns (fun i _ => ⟨_, rfl, ?_⟩) ?_
  · try simp only [decide_true, decide_false, Bool.and_self, eq_self, W_loop0, WL_nil, true_or, or_true, or_false, W_seq, W_asg1, W_asgT, W_drop, W_ret, W_if, W_not, W_test, W_andV, W_notV, W_orV, W_andT, W_orT, W_bin, W_cons, W_nm, W_fn, W_fnK0, W_met, W_fld, W_pure, W_bind, W_isB, W_isLT, W_isH, W_add, W_sub, W_neg, W_ord, W_int, W_min, W_max, W_cat, W_part, W_sli, W_cutL, W_listL, W_listT, W_sumL, W_allL, W_itm, W_rng1, W_rng2, W_enu, W_zip', W_for, W_lc, W_app, W_sas, W_aug, W_par, W_lenL, W_lenT, W_lenS, W_iadd, W_isub, W_isBl, W_bit, Wa_newL, Wa_newT, Wa_newC, Wa_mul, Wa_div, Wa_mod, Wa_pow, Wa_ixL, Wa_ixT, Wa_ixC, Wa_lenC, Wa_mk, W_eqL, W_eqI, W_eqB, W_fail, W_cutS, W_cutC, startD, List.map_cons, List.map_nil, List.length_cons, List.length_nil, List.length_map, List.cons_append, List.nil_append, List.getElem?_cons_zero, List.getElem?_cons_succ, List.set_cons_zero, List.set_cons_succ, Option.some.injEq, exists_eq_left', List.replicate, Nat.reduceAdd, Nat.reduceSub, Nat.reduceMul, D.bl.injEq, D.int.injEq, D.hs.injEq, D.lst.injEq, D.ow.injEq, D.tup.injEq, List.cons.injEq, and_true, true_and, reduceCtorEq, Bool.not_true, Bool.not_false, false_implies, true_implies, forall_const, imp_self, Bool.false_eq_true, if_true, if_false, ↓reduceIte, Bool.true_eq_false, ty_ii, ty_bi, ty_li, ty_ti, ty_ib, ty_bb, ty_lb, ty_tb, ty_ll, ty_tl, ty_dl, okd_int, okd_bl, okd_lst, okd_hs, kin_hs, wipeD, Tg.st, setAll, exists_and_left, exists_eq_left, exists_eq', and_assoc, exists_and_right]
    exact fw_base i ⟨rfl, rfl⟩
  · try simp only [decide_true, decide_false, Bool.and_self, eq_self, W_loop0, WL_nil, true_or, or_true, or_false, W_seq, W_asg1, W_asgT, W_drop, W_ret, W_if, W_not, W_test, W_andV, W_notV, W_orV, W_andT, W_orT, W_bin, W_cons, W_nm, W_fn, W_fnK0, W_met, W_fld, W_pure, W_bind, W_isB, W_isLT, W_isH, W_add, W_sub, W_neg, W_ord, W_int, W_min, W_max, W_cat, W_part, W_sli, W_cutL, W_listL, W_listT, W_sumL, W_allL, W_itm, W_rng1, W_rng2, W_enu, W_zip', W_for, W_lc, W_app, W_sas, W_aug, W_par, W_lenL, W_lenT, W_lenS, W_iadd, W_isub, W_isBl, W_bit, Wa_newL, Wa_newT, Wa_newC, Wa_mul, Wa_div, Wa_mod, Wa_pow, Wa_ixL, Wa_ixT, Wa_ixC, Wa_lenC, Wa_mk, W_eqL, W_eqI, W_eqB, W_fail, W_cutS, W_cutC, startD, List.map_cons, List.map_nil, List.length_cons, List.length_nil, List.length_map, List.cons_append, List.nil_append, List.getElem?_cons_zero, List.getElem?_cons_succ, List.set_cons_zero, List.set_cons_succ, Option.some.injEq, exists_eq_left', List.replicate, Nat.reduceAdd, Nat.reduceSub, Nat.reduceMul, D.bl.injEq, D.int.injEq, D.hs.injEq, D.lst.injEq, D.ow.injEq, D.tup.injEq, List.cons.injEq, and_true, true_and, reduceCtorEq, Bool.not_true, Bool.not_false, false_implies, true_implies, forall_const, imp_self, Bool.false_eq_true, if_true, if_false, ↓reduceIte, Bool.true_eq_false, ty_ii, ty_bi, ty_li, ty_ti, ty_ib, ty_bb, ty_lb, ty_tb, ty_ll, ty_tl, ty_dl, okd_int, okd_bl, okd_lst, okd_hs, kin_hs, wipeD, Tg.st, setAll, exists_and_left, exists_eq_left, exists_eq', and_assoc, exists_and_right]
    refine ⟨szl hn, ?_⟩
    rw [List.all_map]
    exact End.plain (x' := []) (by simp) rfl (q)
theorem fw_counts (ns : List Int) (m : Int) (hn : ns.length ≤ 1000) (q : Q (.bl (decide ((ns.length : Int) = m) && ns.all fun i => decide (0 ≤ i))) c) : FW F_are_counts [.lst (ns.map D.int), .int m] c Q := by
  refine FW_runBx rfl ?_
  unfold b_are_counts
  try simp only [decide_true, decide_false, Bool.and_self, eq_self, W_loop0, WL_nil, true_or, or_true, or_false, W_seq, W_asg1, W_asgT, W_drop, W_ret, W_if, W_not, W_test, W_andV, W_notV, W_orV, W_andT, W_orT, W_bin, W_cons, W_nm, W_fn, W_fnK0, W_met, W_fld, W_pure, W_bind, W_isB, W_isLT, W_isH, W_add, W_sub, W_neg, W_ord, W_int, W_min, W_max, W_cat, W_part, W_sli, W_cutL, W_listL, W_listT, W_sumL, W_allL, W_itm, W_rng1, W_rng2, W_enu, W_zip', W_for, W_lc, W_app, W_sas, W_aug, W_par, W_lenL, W_lenT, W_lenS, W_iadd, W_isub, W_isBl, W_bit, Wa_newL, Wa_newT, Wa_newC, Wa_mul, Wa_div, Wa_mod, Wa_pow, Wa_ixL, Wa_ixT, Wa_ixC, Wa_lenC, Wa_mk, W_eqL, W_eqI, W_eqB, W_fail, W_cutS, W_cutC, startD, List.map_cons, List.map_nil, List.length_cons, List.length_nil, List.length_map, List.cons_append, List.nil_append, List.getElem?_cons_zero, List.getElem?_cons_succ, List.set_cons_zero, List.set_cons_succ, Option.some.injEq, exists_eq_left', List.replicate, Nat.reduceAdd, Nat.reduceSub, Nat.reduceMul, D.bl.injEq, D.int.injEq, D.hs.injEq, D.lst.injEq, D.ow.injEq, D.tup.injEq, List.cons.injEq, and_true, true_and, reduceCtorEq, Bool.not_true, Bool.not_false, false_implies, true_implies, forall_const, imp_self, Bool.false_eq_true, if_true, if_false, ↓reduceIte, Bool.true_eq_false, ty_ii, ty_bi, ty_li, ty_ti, ty_ib, ty_bb, ty_lb, ty_tb, ty_ll, ty_tl, ty_dl, okd_int, okd_bl, okd_lst, okd_hs, kin_hs, wipeD, Tg.st, setAll, exists_and_left, exists_eq_left, exists_eq', and_assoc, exists_and_right]
  refine ⟨fun h => ?_, fun h => ?_⟩
  · rw [h, Bool.true_and] at q
    refine WL_ints (fun i => decide (0 ≤ i)) D.bl ns (fun i _ => ⟨_, rfl, ?_⟩) ?_
    · try simp only [decide_true, decide_false, Bool.and_self, eq_self, W_loop0, WL_nil, true_or, or_true, or_false, W_seq, W_asg1, W_asgT, W_drop, W_ret, W_if, W_not, W_test, W_andV, W_notV, W_orV, W_andT, W_orT, W_bin, W_cons, W_nm, W_fn, W_fnK0, W_met, W_fld, W_pure, W_bind, W_isB, W_isLT, W_isH, W_add, W_sub, W_neg, W_ord, W_int, W_min, W_max, W_cat, W_part, W_sli, W_cutL, W_listL, W_listT, W_sumL, W_allL, W_itm, W_rng1, W_rng2, W_enu, W_zip', W_for, W_lc, W_app, W_sas, W_aug, W_par, W_lenL, W_lenT, W_lenS, W_iadd, W_isub, W_isBl, W_bit, Wa_newL, Wa_newT, Wa_newC, Wa_mul, Wa_div, Wa_mod, Wa_pow, Wa_ixL, Wa_ixT, Wa_ixC, Wa_lenC, Wa_mk, W_eqL, W_eqI, W_eqB, W_fail, W_cutS, W_cutC, startD, List.map_cons, List.map_nil, List.length_cons, List.length_nil, List.length_map, List.cons_append, List.nil_append, List.getElem?_cons_zero, List.getElem?_cons_succ, List.set_cons_zero, List.set_cons_succ, Option.some.injEq, exists_eq_left', List.replicate, Nat.reduceAdd, Nat.reduceSub, Nat.reduceMul, D.bl.injEq, D.int.injEq, D.hs.injEq, D.lst.injEq, D.ow.injEq, D.tup.injEq, List.cons.injEq, and_true, true_and, reduceCtorEq, Bool.not_true, Bool.not_false, false_implies, true_implies, forall_const, imp_self, Bool.false_eq_true, if_true, if_false, ↓reduceIte, Bool.true_eq_false, ty_ii, ty_bi, ty_li, ty_ti, ty_ib, ty_bb, ty_lb, ty_tb, ty_ll, ty_tl, ty_dl, okd_int, okd_bl, okd_lst, okd_hs, kin_hs, wipeD, Tg.st, setAll, exists_and_left, exists_eq_left, exists_eq', and_assoc, exists_and_right]
      exact fw_count i ⟨rfl, rfl⟩
    · try simp only [decide_true, decide_false, Bool.and_self, eq_self, W_loop0, WL_nil, true_or, or_true, or_false, W_seq, W_asg1, W_asgT, W_drop, W_ret, W_if, W_not, W_test, W_andV, W_notV, W_orV, W_andT, W_orT, W_bin, W_cons, W_nm, W_fn, W_fnK0, W_met, W_fld, W_pure, W_bind, W_isB, W_isLT, W_isH, W_add, W_sub, W_neg, W_ord, W_int, W_min, W_max, W_cat, W_part, W_sli, W_cutL, W_listL, W_listT, W_sumL, W_allL, W_itm, W_rng1, W_rng2, W_enu, W_zip', W_for, W_lc, W_app, W_sas, W_aug, W_par, W_lenL, W_lenT, W_lenS, W_iadd, W_isub, W_isBl, W_bit, Wa_newL, Wa_newT, Wa_newC, Wa_mul, Wa_div, Wa_mod, Wa_pow, Wa_ixL, Wa_ixT, Wa_ixC, Wa_lenC, Wa_mk, W_eqL, W_eqI, W_eqB, W_fail, W_cutS, W_cutC, startD, List.map_cons, List.map_nil, List.length_cons, List.length_nil, List.length_map, List.cons_append, List.nil_append, List.getElem?_cons_zero, List.getElem?_cons_succ, List.set_cons_zero, List.set_cons_succ, Option.some.injEq, exists_eq_left', List.replicate, Nat.reduceAdd, Nat.reduceSub, Nat.reduceMul, D.bl.injEq, D.int.injEq, D.hs.injEq, D.lst.injEq, D.ow.injEq, D.tup.injEq, List.cons.injEq, and_true, true_and, reduceCtorEq, Bool.not_true, Bool.not_false, false_implies, true_implies, forall_const, imp_self, Bool.false_eq_true, if_true, if_false, ↓reduceIte, Bool.true_eq_false, ty_ii, ty_bi, ty_li, ty_ti, ty_ib, ty_bb, ty_lb, ty_tb, ty_ll, ty_tl, ty_dl, okd_int, okd_bl, okd_lst, okd_hs, kin_hs, wipeD, Tg.st, setAll, exists_and_left, exists_eq_left, exists_eq', and_assoc, exists_and_right]
      refine ⟨szl hn, ?_⟩
      rw [List.all_map]
      exact End.plain (x' := []) (by simp) rfl (q)
  · rw [h, Bool.false_and] at q; exact End.plain (x' := []) (by simp) rfl (q)
def leAll (a b : List Int) : Bool := (List.zipWith (fun i j => decide (i ≤ j)) a b).all id
theorem fw_within (a b : List Int) (hn : a.length ≤ 1000) (hb : b.length ≤ 1000) (q : Q (.bl ((decide ((a.length : Int) = b.length) && a.all fun i => decide (0 ≤ i)) && leAll a b)) c) : FW F_are_counts_within [.lst (a.map D.int), .lst (b.map D.int)] c Q := by
  refine FW_runBx rfl ?_
  unfold b_are_counts_within
  try simp only [decide_true, decide_false, Bool.and_self, eq_self, W_loop0, WL_nil, true_or, or_true, or_false, W_seq, W_asg1, W_asgT, W_drop, W_ret, W_if, W_not, W_test, W_andV, W_notV, W_orV, W_andT, W_orT, W_bin, W_cons, W_nm, W_fn, W_fnK0, W_met, W_fld, W_pure, W_bind, W_isB, W_isLT, W_isH, W_add, W_sub, W_neg, W_ord, W_int, W_min, W_max, W_cat, W_part, W_sli, W_cutL, W_listL, W_listT, W_sumL, W_allL, W_itm, W_rng1, W_rng2, W_enu, W_zip', W_for, W_lc, W_app, W_sas, W_aug, W_par, W_lenL, W_lenT, W_lenS, W_iadd, W_isub, W_isBl, W_bit, Wa_newL, Wa_newT, Wa_newC, Wa_mul, Wa_div, Wa_mod, Wa_pow, Wa_ixL, Wa_ixT, Wa_ixC, Wa_lenC, Wa_mk, W_eqL, W_eqI, W_eqB, W_fail, W_cutS, W_cutC, startD, List.map_cons, List.map_nil, List.length_cons, List.length_nil, List.length_map, List.cons_append, List.nil_append, List.getElem?_cons_zero, List.getElem?_cons_succ, List.set_cons_zero, List.set_cons_succ, Option.some.injEq, exists_eq_left', List.replicate, Nat.reduceAdd, Nat.reduceSub, Nat.reduceMul, D.bl.injEq, D.int.injEq, D.hs.injEq, D.lst.injEq, D.ow.injEq, D.tup.injEq, List.cons.injEq, and_true, true_and, reduceCtorEq, Bool.not_true, Bool.not_false, false_implies, true_implies, forall_const, imp_self, Bool.false_eq_true, if_true, if_false, ↓reduceIte, Bool.true_eq_false, ty_ii, ty_bi, ty_li, ty_ti, ty_ib, ty_bb, ty_lb, ty_tb, ty_ll, ty_tl, ty_dl, okd_int, okd_bl, okd_lst, okd_hs, kin_hs, wipeD, Tg.st, setAll, exists_and_left, exists_eq_left, exists_eq', and_assoc, exists_and_right]
  refine fw_counts a _ hn ?_
  try simp only [decide_true, decide_false, Bool.and_self, eq_self, W_loop0, WL_nil, true_or, or_true, or_false, W_seq, W_asg1, W_asgT, W_drop, W_ret, W_if, W_not, W_test, W_andV, W_notV, W_orV, W_andT, W_orT, W_bin, W_cons, W_nm, W_fn, W_fnK0, W_met, W_fld, W_pure, W_bind, W_isB, W_isLT, W_isH, W_add, W_sub, W_neg, W_ord, W_int, W_min, W_max, W_cat, W_part, W_sli, W_cutL, W_listL, W_listT, W_sumL, W_allL, W_itm, W_rng1, W_rng2, W_enu, W_zip', W_for, W_lc, W_app, W_sas, W_aug, W_par, W_lenL, W_lenT, W_lenS, W_iadd, W_isub, W_isBl, W_bit, Wa_newL, Wa_newT, Wa_newC, Wa_mul, Wa_div, Wa_mod, Wa_pow, Wa_ixL, Wa_ixT, Wa_ixC, Wa_lenC, Wa_mk, W_eqL, W_eqI, W_eqB, W_fail, W_cutS, W_cutC, startD, List.map_cons, List.map_nil, List.length_cons, List.length_nil, List.length_map, List.cons_append, List.nil_append, List.getElem?_cons_zero, List.getElem?_cons_succ, List.set_cons_zero, List.set_cons_succ, Option.some.injEq, exists_eq_left', List.replicate, Nat.reduceAdd, Nat.reduceSub, Nat.reduceMul, D.bl.injEq, D.int.injEq, D.hs.injEq, D.lst.injEq, D.ow.injEq, D.tup.injEq, List.cons.injEq, and_true, true_and, reduceCtorEq, Bool.not_true, Bool.not_false, false_implies, true_implies, forall_const, imp_self, Bool.false_eq_true, if_true, if_false, ↓reduceIte, Bool.true_eq_false, ty_ii, ty_bi, ty_li, ty_ti, ty_ib, ty_bb, ty_lb, ty_tb, ty_ll, ty_tl, ty_dl, okd_int, okd_bl, okd_lst, okd_hs, kin_hs, wipeD, Tg.st, setAll, exists_and_left, exists_eq_left, exists_eq', and_assoc, exists_and_right]
  refine ⟨fun h => ?_, fun h => ?_⟩
  · rw [h, Bool.true_and] at q
    refine WL_zip (fun i j => decide (i ≤ j)) D.bl a b (fun i j _ => ⟨_, rfl, ?_⟩) ?_
    · try simp only [decide_true, decide_false, Bool.and_self, eq_self, W_loop0, WL_nil, true_or, or_true, or_false, W_seq, W_asg1, W_asgT, W_drop, W_ret, W_if, W_not, W_test, W_andV, W_notV, W_orV, W_andT, W_orT, W_bin, W_cons, W_nm, W_fn, W_fnK0, W_met, W_fld, W_pure, W_bind, W_isB, W_isLT, W_isH, W_add, W_sub, W_neg, W_ord, W_int, W_min, W_max, W_cat, W_part, W_sli, W_cutL, W_listL, W_listT, W_sumL, W_allL, W_itm, W_rng1, W_rng2, W_enu, W_zip', W_for, W_lc, W_app, W_sas, W_aug, W_par, W_lenL, W_lenT, W_lenS, W_iadd, W_isub, W_isBl, W_bit, Wa_newL, Wa_newT, Wa_newC, Wa_mul, Wa_div, Wa_mod, Wa_pow, Wa_ixL, Wa_ixT, Wa_ixC, Wa_lenC, Wa_mk, W_eqL, W_eqI, W_eqB, W_fail, W_cutS, W_cutC, startD, List.map_cons, List.map_nil, List.length_cons, List.length_nil, List.length_map, List.cons_append, List.nil_append, List.getElem?_cons_zero, List.getElem?_cons_succ, List.set_cons_zero, List.set_cons_succ, Option.some.injEq, exists_eq_left', List.replicate, Nat.reduceAdd, Nat.reduceSub, Nat.reduceMul, D.bl.injEq, D.int.injEq, D.hs.injEq, D.lst.injEq, D.ow.injEq, D.tup.injEq, List.cons.injEq, and_true, true_and, reduceCtorEq, Bool.not_true, Bool.not_false, false_implies, true_implies, forall_const, imp_self, Bool.false_eq_true, if_true, if_false, ↓reduceIte, Bool.true_eq_false, ty_ii, ty_bi, ty_li, ty_ti, ty_ib, ty_bb, ty_lb, ty_tb, ty_ll, ty_tl, ty_dl, okd_int, okd_bl, okd_lst, okd_hs, kin_hs, wipeD, Tg.st, setAll, exists_and_left, exists_eq_left, exists_eq', and_assoc, exists_and_right]
    · try simp only [decide_true, decide_false, Bool.and_self, eq_self, W_loop0, WL_nil, true_or, or_true, or_false, W_seq, W_asg1, W_asgT, W_drop, W_ret, W_if, W_not, W_test, W_andV, W_notV, W_orV, W_andT, W_orT, W_bin, W_cons, W_nm, W_fn, W_fnK0, W_met, W_fld, W_pure, W_bind, W_isB, W_isLT, W_isH, W_add, W_sub, W_neg, W_ord, W_int, W_min, W_max, W_cat, W_part, W_sli, W_cutL, W_listL, W_listT, W_sumL, W_allL, W_itm, W_rng1, W_rng2, W_enu, W_zip', W_for, W_lc, W_app, W_sas, W_aug, W_par, W_lenL, W_lenT, W_lenS, W_iadd, W_isub, W_isBl, W_bit, Wa_newL, Wa_newT, Wa_newC, Wa_mul, Wa_div, Wa_mod, Wa_pow, Wa_ixL, Wa_ixT, Wa_ixC, Wa_lenC, Wa_mk, W_eqL, W_eqI, W_eqB, W_fail, W_cutS, W_cutC, startD, List.map_cons, List.map_nil, List.length_cons, List.length_nil, List.length_map, List.cons_append, List.nil_append, List.getElem?_cons_zero, List.getElem?_cons_succ, List.set_cons_zero, List.set_cons_succ, Option.some.injEq, exists_eq_left', List.replicate, Nat.reduceAdd, Nat.reduceSub, Nat.reduceMul, D.bl.injEq, D.int.injEq, D.hs.injEq, D.lst.injEq, D.ow.injEq, D.tup.injEq, List.cons.injEq, and_true, true_and, reduceCtorEq, Bool.not_true, Bool.not_false, false_implies, true_implies, forall_const, imp_self, Bool.false_eq_true, if_true, if_false, ↓reduceIte, Bool.true_eq_false, ty_ii, ty_bi, ty_li, ty_ti, ty_ib, ty_bb, ty_lb, ty_tb, ty_ll, ty_tl, ty_dl, okd_int, okd_bl, okd_lst, okd_hs, kin_hs, wipeD, Tg.st, setAll, exists_and_left, exists_eq_left, exists_eq', and_assoc, exists_and_right]
      refine ⟨szl (by simp; omega), ?_⟩
      exact End.plain (x' := []) (by simp) rfl (q)
  · rw [h, Bool.false_and] at q; exact End.plain (x' := []) (by simp) rfl (q)
end
end K4

/-! K4Q: houses. -/
namespace K4
open PySem PySem.Spec PyProof.Rows L2 CD
section
variable {c : Cells} {Q : D → Cells → Prop}
theorem gb.bl {b r : List Int} (h : gb b r) : b.length ≤ 1000 := Nat.le_trans h.1 (by decide)
theorem gb.rl {b r : List Int} (h : gb b r) : r.length ≤ 1000 := by have := h.1; have := h.2.1; omega
theorem fin_new {c : Cells} {Q : D → Cells → Prop} {sl : List (Option D)} (ns : List Int) (q : Q (.lst (ns.map D.int)) c) : End c (c.length + 0) Q (.rt (.ow c.length)) ⟨sl, c ++ [some (ns.map D.int)]⟩ :=
  End.plain (x' := [some (ns.map D.int)]) rfl (fz_cell (Nat.lt_irrefl _) ns (by simp)) q
theorem fw_House_bases (b r : List Int) (h : gb b r) (q : Q (.lst (b.map D.int)) c) : FW F_House_bases [.hs b r] c Q := by
  refine FW_runBx rfl ?_
  unfold b_House_bases
  try simp only [decide_true, decide_false, Bool.and_self, eq_self, W_loop0, WL_nil, true_or, or_true, or_false, W_seq, W_asg1, W_asgT, W_drop, W_ret, W_if, W_not, W_test, W_andV, W_notV, W_orV, W_andT, W_orT, W_bin, W_cons, W_nm, W_fn, W_fnK0, W_met, W_fld, W_pure, W_bind, W_isB, W_isLT, W_isH, W_add, W_sub, W_neg, W_ord, W_int, W_min, W_max, W_cat, W_part, W_sli, W_cutL, W_listL, W_listT, W_sumL, W_allL, W_itm, W_rng1, W_rng2, W_enu, W_zip', W_for, W_lc, W_app, W_sas, W_aug, W_par, W_lenL, W_lenT, W_lenS, W_iadd, W_isub, W_isBl, W_bit, Wa_newL, Wa_newT, Wa_newC, Wa_mul, Wa_div, Wa_mod, Wa_pow, Wa_ixL, Wa_ixT, Wa_ixC, Wa_lenC, Wa_mk, W_eqL, W_eqI, W_eqB, W_fail, W_cutS, W_cutC, startD, List.map_cons, List.map_nil, List.length_cons, List.length_nil, List.length_map, List.cons_append, List.nil_append, List.getElem?_cons_zero, List.getElem?_cons_succ, List.set_cons_zero, List.set_cons_succ, Option.some.injEq, exists_eq_left', List.replicate, Nat.reduceAdd, Nat.reduceSub, Nat.reduceMul, D.bl.injEq, D.int.injEq, D.hs.injEq, D.lst.injEq, D.ow.injEq, D.tup.injEq, List.cons.injEq, and_true, true_and, reduceCtorEq, Bool.not_true, Bool.not_false, false_implies, true_implies, forall_const, imp_self, Bool.false_eq_true, if_true, if_false, ↓reduceIte, Bool.true_eq_false, ty_ii, ty_bi, ty_li, ty_ti, ty_ib, ty_bb, ty_lb, ty_tb, ty_ll, ty_tl, ty_dl, okd_int, okd_bl, okd_lst, okd_hs, kin_hs, wipeD, Tg.st, setAll, exists_and_left, exists_eq_left, exists_eq', and_assoc, exists_and_right]
  exact ⟨szl h.bl, fin_new b q⟩
theorem fw_House_rooms (b r : List Int) (h : gb b r) (q : Q (.lst (r.map D.int)) c) : FW F_House_rooms [.hs b r] c Q := by
  refine FW_runBx rfl ?_
  unfold b_House_rooms
  try simp only [decide_true, decide_false, Bool.and_self, eq_self, W_loop0, WL_nil, true_or, or_true, or_false, W_seq, W_asg1, W_asgT, W_drop, W_ret, W_if, W_not, W_test, W_andV, W_notV, W_orV, W_andT, W_orT, W_bin, W_cons, W_nm, W_fn, W_fnK0, W_met, W_fld, W_pure, W_bind, W_isB, W_isLT, W_isH, W_add, W_sub, W_neg, W_ord, W_int, W_min, W_max, W_cat, W_part, W_sli, W_cutL, W_listL, W_listT, W_sumL, W_allL, W_itm, W_rng1, W_rng2, W_enu, W_zip', W_for, W_lc, W_app, W_sas, W_aug, W_par, W_lenL, W_lenT, W_lenS, W_iadd, W_isub, W_isBl, W_bit, Wa_newL, Wa_newT, Wa_newC, Wa_mul, Wa_div, Wa_mod, Wa_pow, Wa_ixL, Wa_ixT, Wa_ixC, Wa_lenC, Wa_mk, W_eqL, W_eqI, W_eqB, W_fail, W_cutS, W_cutC, startD, List.map_cons, List.map_nil, List.length_cons, List.length_nil, List.length_map, List.cons_append, List.nil_append, List.getElem?_cons_zero, List.getElem?_cons_succ, List.set_cons_zero, List.set_cons_succ, Option.some.injEq, exists_eq_left', List.replicate, Nat.reduceAdd, Nat.reduceSub, Nat.reduceMul, D.bl.injEq, D.int.injEq, D.hs.injEq, D.lst.injEq, D.ow.injEq, D.tup.injEq, List.cons.injEq, and_true, true_and, reduceCtorEq, Bool.not_true, Bool.not_false, false_implies, true_implies, forall_const, imp_self, Bool.false_eq_true, if_true, if_false, ↓reduceIte, Bool.true_eq_false, ty_ii, ty_bi, ty_li, ty_ti, ty_ib, ty_bb, ty_lb, ty_tb, ty_ll, ty_tl, ty_dl, okd_int, okd_bl, okd_lst, okd_hs, kin_hs, wipeD, Tg.st, setAll, exists_and_left, exists_eq_left, exists_eq', and_assoc, exists_and_right]
  exact ⟨szl h.rl, fin_new r q⟩
theorem fw_House_rooms_x (b r : List Int) (h : gb b r) (q : Q (.ow c.length) (c ++ [some (r.map D.int)])) : FW F_House_rooms_x [.hs b r] c Q := by
  refine FW_runBx rfl ?_
  unfold b_House_rooms
  try simp only [decide_true, decide_false, Bool.and_self, eq_self, W_loop0, WL_nil, true_or, or_true, or_false, W_seq, W_asg1, W_asgT, W_drop, W_ret, W_if, W_not, W_test, W_andV, W_notV, W_orV, W_andT, W_orT, W_bin, W_cons, W_nm, W_fn, W_fnK0, W_met, W_fld, W_pure, W_bind, W_isB, W_isLT, W_isH, W_add, W_sub, W_neg, W_ord, W_int, W_min, W_max, W_cat, W_part, W_sli, W_cutL, W_listL, W_listT, W_sumL, W_allL, W_itm, W_rng1, W_rng2, W_enu, W_zip', W_for, W_lc, W_app, W_sas, W_aug, W_par, W_lenL, W_lenT, W_lenS, W_iadd, W_isub, W_isBl, W_bit, Wa_newL, Wa_newT, Wa_newC, Wa_mul, Wa_div, Wa_mod, Wa_pow, Wa_ixL, Wa_ixT, Wa_ixC, Wa_lenC, Wa_mk, W_eqL, W_eqI, W_eqB, W_fail, W_cutS, W_cutC, startD, List.map_cons, List.map_nil, List.length_cons, List.length_nil, List.length_map, List.cons_append, List.nil_append, List.getElem?_cons_zero, List.getElem?_cons_succ, List.set_cons_zero, List.set_cons_succ, Option.some.injEq, exists_eq_left', List.replicate, Nat.reduceAdd, Nat.reduceSub, Nat.reduceMul, D.bl.injEq, D.int.injEq, D.hs.injEq, D.lst.injEq, D.ow.injEq, D.tup.injEq, List.cons.injEq, and_true, true_and, reduceCtorEq, Bool.not_true, Bool.not_false, false_implies, true_implies, forall_const, imp_self, Bool.false_eq_true, if_true, if_false, ↓reduceIte, Bool.true_eq_false, ty_ii, ty_bi, ty_li, ty_ti, ty_ib, ty_bb, ty_lb, ty_tb, ty_ll, ty_tl, ty_dl, okd_int, okd_bl, okd_lst, okd_hs, kin_hs, wipeD, Tg.st, setAll, exists_and_left, exists_eq_left, exists_eq', and_assoc, exists_and_right]
  refine ⟨szl h.rl, c ++ [some (r.map D.int)], [], .ow c.length, by simp, by simp, fun k hk => ?_, .inr ⟨_, rfl, ?_⟩, q⟩
  · by_cases hk' : k < c.length
    · exact .inl ⟨hk', by rw [List.getElem?_append_left hk']⟩
    · have e : k = c.length := by omega
      subst e
      exact .inr (.inr ⟨r.map D.int, by simp, lowL_ints _ _⟩)
  · rw [fz, if_pos (by omega)]
theorem fw_House_places (b r : List Int) (h : gb b r) (q : Q (.int r.length) c) : FW F_House_places [.hs b r] c Q := by
  refine FW_runBx rfl ?_
  unfold b_House_places
  try simp only [decide_true, decide_false, Bool.and_self, eq_self, W_loop0, WL_nil, true_or, or_true, or_false, W_seq, W_asg1, W_asgT, W_drop, W_ret, W_if, W_not, W_test, W_andV, W_notV, W_orV, W_andT, W_orT, W_bin, W_cons, W_nm, W_fn, W_fnK0, W_met, W_fld, W_pure, W_bind, W_isB, W_isLT, W_isH, W_add, W_sub, W_neg, W_ord, W_int, W_min, W_max, W_cat, W_part, W_sli, W_cutL, W_listL, W_listT, W_sumL, W_allL, W_itm, W_rng1, W_rng2, W_enu, W_zip', W_for, W_lc, W_app, W_sas, W_aug, W_par, W_lenL, W_lenT, W_lenS, W_iadd, W_isub, W_isBl, W_bit, Wa_newL, Wa_newT, Wa_newC, Wa_mul, Wa_div, Wa_mod, Wa_pow, Wa_ixL, Wa_ixT, Wa_ixC, Wa_lenC, Wa_mk, W_eqL, W_eqI, W_eqB, W_fail, W_cutS, W_cutC, startD, List.map_cons, List.map_nil, List.length_cons, List.length_nil, List.length_map, List.cons_append, List.nil_append, List.getElem?_cons_zero, List.getElem?_cons_succ, List.set_cons_zero, List.set_cons_succ, Option.some.injEq, exists_eq_left', List.replicate, Nat.reduceAdd, Nat.reduceSub, Nat.reduceMul, D.bl.injEq, D.int.injEq, D.hs.injEq, D.lst.injEq, D.ow.injEq, D.tup.injEq, List.cons.injEq, and_true, true_and, reduceCtorEq, Bool.not_true, Bool.not_false, false_implies, true_implies, forall_const, imp_self, Bool.false_eq_true, if_true, if_false, ↓reduceIte, Bool.true_eq_false, ty_ii, ty_bi, ty_li, ty_ti, ty_ib, ty_bb, ty_lb, ty_tb, ty_ll, ty_tl, ty_dl, okd_int, okd_bl, okd_lst, okd_hs, kin_hs, wipeD, Tg.st, setAll, exists_and_left, exists_eq_left, exists_eq', and_assoc, exists_and_right]
  exact End.plain (x' := []) (by simp) rfl (q)
theorem fw_check_house (b r : List Int) (q : Q .non c) : FW F_check_house [.hs b r] c Q := by
  refine FW_runBx rfl ?_
  unfold b_check_house
  try simp only [decide_true, decide_false, Bool.and_self, eq_self, W_loop0, WL_nil, true_or, or_true, or_false, W_seq, W_asg1, W_asgT, W_drop, W_ret, W_if, W_not, W_test, W_andV, W_notV, W_orV, W_andT, W_orT, W_bin, W_cons, W_nm, W_fn, W_fnK0, W_met, W_fld, W_pure, W_bind, W_isB, W_isLT, W_isH, W_add, W_sub, W_neg, W_ord, W_int, W_min, W_max, W_cat, W_part, W_sli, W_cutL, W_listL, W_listT, W_sumL, W_allL, W_itm, W_rng1, W_rng2, W_enu, W_zip', W_for, W_lc, W_app, W_sas, W_aug, W_par, W_lenL, W_lenT, W_lenS, W_iadd, W_isub, W_isBl, W_bit, Wa_newL, Wa_newT, Wa_newC, Wa_mul, Wa_div, Wa_mod, Wa_pow, Wa_ixL, Wa_ixT, Wa_ixC, Wa_lenC, Wa_mk, W_eqL, W_eqI, W_eqB, W_fail, W_cutS, W_cutC, startD, List.map_cons, List.map_nil, List.length_cons, List.length_nil, List.length_map, List.cons_append, List.nil_append, List.getElem?_cons_zero, List.getElem?_cons_succ, List.set_cons_zero, List.set_cons_succ, Option.some.injEq, exists_eq_left', List.replicate, Nat.reduceAdd, Nat.reduceSub, Nat.reduceMul, D.bl.injEq, D.int.injEq, D.hs.injEq, D.lst.injEq, D.ow.injEq, D.tup.injEq, List.cons.injEq, and_true, true_and, reduceCtorEq, Bool.not_true, Bool.not_false, false_implies, true_implies, forall_const, imp_self, Bool.false_eq_true, if_true, if_false, ↓reduceIte, Bool.true_eq_false, ty_ii, ty_bi, ty_li, ty_ti, ty_ib, ty_bb, ty_lb, ty_tb, ty_ll, ty_tl, ty_dl, okd_int, okd_bl, okd_lst, okd_hs, kin_hs, wipeD, Tg.st, setAll, exists_and_left, exists_eq_left, exists_eq', and_assoc, exists_and_right]
  exact End.none (x' := []) (by simp) q
theorem fw_check_place (b r : List Int) (h : gb b r) (p : Int) (hp : 0 ≤ p ∧ p < r.length) (q : Q .non c) : FW F_check_place [.hs b r, .int p] c Q := by
  refine FW_runBx rfl ?_
  unfold b_check_place
  try simp only [decide_true, decide_false, Bool.and_self, eq_self, W_loop0, WL_nil, true_or, or_true, or_false, W_seq, W_asg1, W_asgT, W_drop, W_ret, W_if, W_not, W_test, W_andV, W_notV, W_orV, W_andT, W_orT, W_bin, W_cons, W_nm, W_fn, W_fnK0, W_met, W_fld, W_pure, W_bind, W_isB, W_isLT, W_isH, W_add, W_sub, W_neg, W_ord, W_int, W_min, W_max, W_cat, W_part, W_sli, W_cutL, W_listL, W_listT, W_sumL, W_allL, W_itm, W_rng1, W_rng2, W_enu, W_zip', W_for, W_lc, W_app, W_sas, W_aug, W_par, W_lenL, W_lenT, W_lenS, W_iadd, W_isub, W_isBl, W_bit, Wa_newL, Wa_newT, Wa_newC, Wa_mul, Wa_div, Wa_mod, Wa_pow, Wa_ixL, Wa_ixT, Wa_ixC, Wa_lenC, Wa_mk, W_eqL, W_eqI, W_eqB, W_fail, W_cutS, W_cutC, startD, List.map_cons, List.map_nil, List.length_cons, List.length_nil, List.length_map, List.cons_append, List.nil_append, List.getElem?_cons_zero, List.getElem?_cons_succ, List.set_cons_zero, List.set_cons_succ, Option.some.injEq, exists_eq_left', List.replicate, Nat.reduceAdd, Nat.reduceSub, Nat.reduceMul, D.bl.injEq, D.int.injEq, D.hs.injEq, D.lst.injEq, D.ow.injEq, D.tup.injEq, List.cons.injEq, and_true, true_and, reduceCtorEq, Bool.not_true, Bool.not_false, false_implies, true_implies, forall_const, imp_self, Bool.false_eq_true, if_true, if_false, ↓reduceIte, Bool.true_eq_false, ty_ii, ty_bi, ty_li, ty_ti, ty_ib, ty_bb, ty_lb, ty_tb, ty_ll, ty_tl, ty_dl, okd_int, okd_bl, okd_lst, okd_hs, kin_hs, wipeD, Tg.st, setAll, exists_and_left, exists_eq_left, exists_eq', and_assoc, exists_and_right]
  refine fw_House_places b r h ?_
  try simp only [decide_true, decide_false, Bool.and_self, eq_self, W_loop0, WL_nil, true_or, or_true, or_false, W_seq, W_asg1, W_asgT, W_drop, W_ret, W_if, W_not, W_test, W_andV, W_notV, W_orV, W_andT, W_orT, W_bin, W_cons, W_nm, W_fn, W_fnK0, W_met, W_fld, W_pure, W_bind, W_isB, W_isLT, W_isH, W_add, W_sub, W_neg, W_ord, W_int, W_min, W_max, W_cat, W_part, W_sli, W_cutL, W_listL, W_listT, W_sumL, W_allL, W_itm, W_rng1, W_rng2, W_enu, W_zip', W_for, W_lc, W_app, W_sas, W_aug, W_par, W_lenL, W_lenT, W_lenS, W_iadd, W_isub, W_isBl, W_bit, Wa_newL, Wa_newT, Wa_newC, Wa_mul, Wa_div, Wa_mod, Wa_pow, Wa_ixL, Wa_ixT, Wa_ixC, Wa_lenC, Wa_mk, W_eqL, W_eqI, W_eqB, W_fail, W_cutS, W_cutC, startD, List.map_cons, List.map_nil, List.length_cons, List.length_nil, List.length_map, List.cons_append, List.nil_append, List.getElem?_cons_zero, List.getElem?_cons_succ, List.set_cons_zero, List.set_cons_succ, Option.some.injEq, exists_eq_left', List.replicate, Nat.reduceAdd, Nat.reduceSub, Nat.reduceMul, D.bl.injEq, D.int.injEq, D.hs.injEq, D.lst.injEq, D.ow.injEq, D.tup.injEq, List.cons.injEq, and_true, true_and, reduceCtorEq, Bool.not_true, Bool.not_false, false_implies, true_implies, forall_const, imp_self, Bool.false_eq_true, if_true, if_false, ↓reduceIte, Bool.true_eq_false, ty_ii, ty_bi, ty_li, ty_ti, ty_ib, ty_bb, ty_lb, ty_tb, ty_ll, ty_tl, ty_dl, okd_int, okd_bl, okd_lst, okd_hs, kin_hs, wipeD, Tg.st, setAll, exists_and_left, exists_eq_left, exists_eq', and_assoc, exists_and_right]
  refine fw_below p _ ?_
  rw [decide_eq_true hp.1, decide_eq_true hp.2]
  try simp only [decide_true, decide_false, Bool.and_self, eq_self, W_loop0, WL_nil, true_or, or_true, or_false, W_seq, W_asg1, W_asgT, W_drop, W_ret, W_if, W_not, W_test, W_andV, W_notV, W_orV, W_andT, W_orT, W_bin, W_cons, W_nm, W_fn, W_fnK0, W_met, W_fld, W_pure, W_bind, W_isB, W_isLT, W_isH, W_add, W_sub, W_neg, W_ord, W_int, W_min, W_max, W_cat, W_part, W_sli, W_cutL, W_listL, W_listT, W_sumL, W_allL, W_itm, W_rng1, W_rng2, W_enu, W_zip', W_for, W_lc, W_app, W_sas, W_aug, W_par, W_lenL, W_lenT, W_lenS, W_iadd, W_isub, W_isBl, W_bit, Wa_newL, Wa_newT, Wa_newC, Wa_mul, Wa_div, Wa_mod, Wa_pow, Wa_ixL, Wa_ixT, Wa_ixC, Wa_lenC, Wa_mk, W_eqL, W_eqI, W_eqB, W_fail, W_cutS, W_cutC, startD, List.map_cons, List.map_nil, List.length_cons, List.length_nil, List.length_map, List.cons_append, List.nil_append, List.getElem?_cons_zero, List.getElem?_cons_succ, List.set_cons_zero, List.set_cons_succ, Option.some.injEq, exists_eq_left', List.replicate, Nat.reduceAdd, Nat.reduceSub, Nat.reduceMul, D.bl.injEq, D.int.injEq, D.hs.injEq, D.lst.injEq, D.ow.injEq, D.tup.injEq, List.cons.injEq, and_true, true_and, reduceCtorEq, Bool.not_true, Bool.not_false, false_implies, true_implies, forall_const, imp_self, Bool.false_eq_true, if_true, if_false, ↓reduceIte, Bool.true_eq_false, ty_ii, ty_bi, ty_li, ty_ti, ty_ib, ty_bb, ty_lb, ty_tb, ty_ll, ty_tl, ty_dl, okd_int, okd_bl, okd_lst, okd_hs, kin_hs, wipeD, Tg.st, setAll, exists_and_left, exists_eq_left, exists_eq', and_assoc, exists_and_right]
  exact End.none (x' := []) (by simp) q
theorem fw_check_like (b r r' : List Int) (h : gb b r) (h' : gb b r') (q : Q .non c) : FW F_check_like_houses [.hs b r, .hs b r'] c Q := by
  refine FW_runBx rfl ?_
  unfold b_check_like_houses
  try simp only [decide_true, decide_false, Bool.and_self, eq_self, W_loop0, WL_nil, true_or, or_true, or_false, W_seq, W_asg1, W_asgT, W_drop, W_ret, W_if, W_not, W_test, W_andV, W_notV, W_orV, W_andT, W_orT, W_bin, W_cons, W_nm, W_fn, W_fnK0, W_met, W_fld, W_pure, W_bind, W_isB, W_isLT, W_isH, W_add, W_sub, W_neg, W_ord, W_int, W_min, W_max, W_cat, W_part, W_sli, W_cutL, W_listL, W_listT, W_sumL, W_allL, W_itm, W_rng1, W_rng2, W_enu, W_zip', W_for, W_lc, W_app, W_sas, W_aug, W_par, W_lenL, W_lenT, W_lenS, W_iadd, W_isub, W_isBl, W_bit, Wa_newL, Wa_newT, Wa_newC, Wa_mul, Wa_div, Wa_mod, Wa_pow, Wa_ixL, Wa_ixT, Wa_ixC, Wa_lenC, Wa_mk, W_eqL, W_eqI, W_eqB, W_fail, W_cutS, W_cutC, startD, List.map_cons, List.map_nil, List.length_cons, List.length_nil, List.length_map, List.cons_append, List.nil_append, List.getElem?_cons_zero, List.getElem?_cons_succ, List.set_cons_zero, List.set_cons_succ, Option.some.injEq, exists_eq_left', List.replicate, Nat.reduceAdd, Nat.reduceSub, Nat.reduceMul, D.bl.injEq, D.int.injEq, D.hs.injEq, D.lst.injEq, D.ow.injEq, D.tup.injEq, List.cons.injEq, and_true, true_and, reduceCtorEq, Bool.not_true, Bool.not_false, false_implies, true_implies, forall_const, imp_self, Bool.false_eq_true, if_true, if_false, ↓reduceIte, Bool.true_eq_false, ty_ii, ty_bi, ty_li, ty_ti, ty_ib, ty_bb, ty_lb, ty_tb, ty_ll, ty_tl, ty_dl, okd_int, okd_bl, okd_lst, okd_hs, kin_hs, wipeD, Tg.st, setAll, exists_and_left, exists_eq_left, exists_eq', and_assoc, exists_and_right]
  refine fw_check_house b r ?_
  refine fw_check_house b r' ?_
  refine fw_House_bases b r h ?_
  refine fw_House_bases b r' h' ?_
  try simp only [decide_true, decide_false, Bool.and_self, eq_self, W_loop0, WL_nil, true_or, or_true, or_false, W_seq, W_asg1, W_asgT, W_drop, W_ret, W_if, W_not, W_test, W_andV, W_notV, W_orV, W_andT, W_orT, W_bin, W_cons, W_nm, W_fn, W_fnK0, W_met, W_fld, W_pure, W_bind, W_isB, W_isLT, W_isH, W_add, W_sub, W_neg, W_ord, W_int, W_min, W_max, W_cat, W_part, W_sli, W_cutL, W_listL, W_listT, W_sumL, W_allL, W_itm, W_rng1, W_rng2, W_enu, W_zip', W_for, W_lc, W_app, W_sas, W_aug, W_par, W_lenL, W_lenT, W_lenS, W_iadd, W_isub, W_isBl, W_bit, Wa_newL, Wa_newT, Wa_newC, Wa_mul, Wa_div, Wa_mod, Wa_pow, Wa_ixL, Wa_ixT, Wa_ixC, Wa_lenC, Wa_mk, W_eqL, W_eqI, W_eqB, W_fail, W_cutS, W_cutC, startD, List.map_cons, List.map_nil, List.length_cons, List.length_nil, List.length_map, List.cons_append, List.nil_append, List.getElem?_cons_zero, List.getElem?_cons_succ, List.set_cons_zero, List.set_cons_succ, Option.some.injEq, exists_eq_left', List.replicate, Nat.reduceAdd, Nat.reduceSub, Nat.reduceMul, D.bl.injEq, D.int.injEq, D.hs.injEq, D.lst.injEq, D.ow.injEq, D.tup.injEq, List.cons.injEq, and_true, true_and, reduceCtorEq, Bool.not_true, Bool.not_false, false_implies, true_implies, forall_const, imp_self, Bool.false_eq_true, if_true, if_false, ↓reduceIte, Bool.true_eq_false, ty_ii, ty_bi, ty_li, ty_ti, ty_ib, ty_bb, ty_lb, ty_tb, ty_ll, ty_tl, ty_dl, okd_int, okd_bl, okd_lst, okd_hs, kin_hs, wipeD, Tg.st, setAll, exists_and_left, exists_eq_left, exists_eq', and_assoc, exists_and_right]
  exact End.none (x' := []) (by simp) q
theorem F_House_ok {b r : List Int} (h : gb b r) : F_House (.lst (b.map D.int)) (.lst (r.map D.int)) c = some (b, r) := by
  unfold F_House
  dsimp only
  rw [intsOf_map', intsOf_map']
  dsimp only
  rw [if_pos h]
/-- each two, min -/
def mn (i j : Int) : Int := if j < i then j else i
def mx (i j : Int) : Int := if j > i then j else i
theorem zip_gb {f : Int → Int → Int} (hf : ∀ i j, f i j = i ∨ f i j = j) {b r r' : List Int} (h : gb b r) (h' : gb b r') : gb b (List.zipWith f r r') := by
  refine ⟨h.1, by rw [List.length_zipWith, h.2.1, h'.2.1, Nat.min_self], h.2.2.1, fun x hx => ?_⟩
  obtain ⟨k, hk, rfl⟩ := List.mem_iff_getElem.mp hx
  rw [List.getElem_zipWith]
  rcases hf (r[k]'(by simp at hk; omega)) (r'[k]'(by simp at hk; omega)) with e | e <;> rw [e]
  · exact h.2.2.2 _ (List.getElem_mem _)
  · exact h'.2.2.2 _ (List.getElem_mem _)
theorem fw_lesser (b r r' : List Int) (h : gb b r) (h' : gb b r') (q : Q (.hs b (List.zipWith mn r r')) c) : FW F_lesser_house [.hs b r, .hs b r'] c Q := by
  refine FW_runBx rfl ?_
  unfold b_lesser_house
  try simp only [decide_true, decide_false, Bool.and_self, eq_self, W_loop0, WL_nil, true_or, or_true, or_false, W_seq, W_asg1, W_asgT, W_drop, W_ret, W_if, W_not, W_test, W_andV, W_notV, W_orV, W_andT, W_orT, W_bin, W_cons, W_nm, W_fn, W_fnK0, W_met, W_fld, W_pure, W_bind, W_isB, W_isLT, W_isH, W_add, W_sub, W_neg, W_ord, W_int, W_min, W_max, W_cat, W_part, W_sli, W_cutL, W_listL, W_listT, W_sumL, W_allL, W_itm, W_rng1, W_rng2, W_enu, W_zip', W_for, W_lc, W_app, W_sas, W_aug, W_par, W_lenL, W_lenT, W_lenS, W_iadd, W_isub, W_isBl, W_bit, Wa_newL, Wa_newT, Wa_newC, Wa_mul, Wa_div, Wa_mod, Wa_pow, Wa_ixL, Wa_ixT, Wa_ixC, Wa_lenC, Wa_mk, W_eqL, W_eqI, W_eqB, W_fail, W_cutS, W_cutC, startD, List.map_cons, List.map_nil, List.length_cons, List.length_nil, List.length_map, List.cons_append, List.nil_append, List.getElem?_cons_zero, List.getElem?_cons_succ, List.set_cons_zero, List.set_cons_succ, Option.some.injEq, exists_eq_left', List.replicate, Nat.reduceAdd, Nat.reduceSub, Nat.reduceMul, D.bl.injEq, D.int.injEq, D.hs.injEq, D.lst.injEq, D.ow.injEq, D.tup.injEq, List.cons.injEq, and_true, true_and, reduceCtorEq, Bool.not_true, Bool.not_false, false_implies, true_implies, forall_const, imp_self, Bool.false_eq_true, if_true, if_false, ↓reduceIte, Bool.true_eq_false, ty_ii, ty_bi, ty_li, ty_ti, ty_ib, ty_bb, ty_lb, ty_tb, ty_ll, ty_tl, ty_dl, okd_int, okd_bl, okd_lst, okd_hs, kin_hs, wipeD, Tg.st, setAll, exists_and_left, exists_eq_left, exists_eq', and_assoc, exists_and_right]
  refine fw_check_like b r r' h h' ?_
  refine fw_House_bases b r h ?_
  refine fw_House_rooms b r h ?_
  refine fw_House_rooms b r' h' ?_
  try simp only [decide_true, decide_false, Bool.and_self, eq_self, W_loop0, WL_nil, true_or, or_true, or_false, W_seq, W_asg1, W_asgT, W_drop, W_ret, W_if, W_not, W_test, W_andV, W_notV, W_orV, W_andT, W_orT, W_bin, W_cons, W_nm, W_fn, W_fnK0, W_met, W_fld, W_pure, W_bind, W_isB, W_isLT, W_isH, W_add, W_sub, W_neg, W_ord, W_int, W_min, W_max, W_cat, W_part, W_sli, W_cutL, W_listL, W_listT, W_sumL, W_allL, W_itm, W_rng1, W_rng2, W_enu, W_zip', W_for, W_lc, W_app, W_sas, W_aug, W_par, W_lenL, W_lenT, W_lenS, W_iadd, W_isub, W_isBl, W_bit, Wa_newL, Wa_newT, Wa_newC, Wa_mul, Wa_div, Wa_mod, Wa_pow, Wa_ixL, Wa_ixT, Wa_ixC, Wa_lenC, Wa_mk, W_eqL, W_eqI, W_eqB, W_fail, W_cutS, W_cutC, startD, List.map_cons, List.map_nil, List.length_cons, List.length_nil, List.length_map, List.cons_append, List.nil_append, List.getElem?_cons_zero, List.getElem?_cons_succ, List.set_cons_zero, List.set_cons_succ, Option.some.injEq, exists_eq_left', List.replicate, Nat.reduceAdd, Nat.reduceSub, Nat.reduceMul, D.bl.injEq, D.int.injEq, D.hs.injEq, D.lst.injEq, D.ow.injEq, D.tup.injEq, List.cons.injEq, and_true, true_and, reduceCtorEq, Bool.not_true, Bool.not_false, false_implies, true_implies, forall_const, imp_self, Bool.false_eq_true, if_true, if_false, ↓reduceIte, Bool.true_eq_false, ty_ii, ty_bi, ty_li, ty_ti, ty_ib, ty_bb, ty_lb, ty_tb, ty_ll, ty_tl, ty_dl, okd_int, okd_bl, okd_lst, okd_hs, kin_hs, wipeD, Tg.st, setAll, exists_and_left, exists_eq_left, exists_eq', and_assoc, exists_and_right]
  refine WL_zip mn D.int r r' (fun i j _ => ⟨_, rfl, ?_⟩) ?_
  · try simp only [decide_true, decide_false, Bool.and_self, eq_self, W_loop0, WL_nil, true_or, or_true, or_false, W_seq, W_asg1, W_asgT, W_drop, W_ret, W_if, W_not, W_test, W_andV, W_notV, W_orV, W_andT, W_orT, W_bin, W_cons, W_nm, W_fn, W_fnK0, W_met, W_fld, W_pure, W_bind, W_isB, W_isLT, W_isH, W_add, W_sub, W_neg, W_ord, W_int, W_min, W_max, W_cat, W_part, W_sli, W_cutL, W_listL, W_listT, W_sumL, W_allL, W_itm, W_rng1, W_rng2, W_enu, W_zip', W_for, W_lc, W_app, W_sas, W_aug, W_par, W_lenL, W_lenT, W_lenS, W_iadd, W_isub, W_isBl, W_bit, Wa_newL, Wa_newT, Wa_newC, Wa_mul, Wa_div, Wa_mod, Wa_pow, Wa_ixL, Wa_ixT, Wa_ixC, Wa_lenC, Wa_mk, W_eqL, W_eqI, W_eqB, W_fail, W_cutS, W_cutC, startD, List.map_cons, List.map_nil, List.length_cons, List.length_nil, List.length_map, List.cons_append, List.nil_append, List.getElem?_cons_zero, List.getElem?_cons_succ, List.set_cons_zero, List.set_cons_succ, Option.some.injEq, exists_eq_left', List.replicate, Nat.reduceAdd, Nat.reduceSub, Nat.reduceMul, D.bl.injEq, D.int.injEq, D.hs.injEq, D.lst.injEq, D.ow.injEq, D.tup.injEq, List.cons.injEq, and_true, true_and, reduceCtorEq, Bool.not_true, Bool.not_false, false_implies, true_implies, forall_const, imp_self, Bool.false_eq_true, if_true, if_false, ↓reduceIte, Bool.true_eq_false, ty_ii, ty_bi, ty_li, ty_ti, ty_ib, ty_bb, ty_lb, ty_tb, ty_ll, ty_tl, ty_dl, okd_int, okd_bl, okd_lst, okd_hs, kin_hs, wipeD, Tg.st, setAll, exists_and_left, exists_eq_left, exists_eq', and_assoc, exists_and_right]
    simp only [mn]
  · try simp only [decide_true, decide_false, Bool.and_self, eq_self, W_loop0, WL_nil, true_or, or_true, or_false, W_seq, W_asg1, W_asgT, W_drop, W_ret, W_if, W_not, W_test, W_andV, W_notV, W_orV, W_andT, W_orT, W_bin, W_cons, W_nm, W_fn, W_fnK0, W_met, W_fld, W_pure, W_bind, W_isB, W_isLT, W_isH, W_add, W_sub, W_neg, W_ord, W_int, W_min, W_max, W_cat, W_part, W_sli, W_cutL, W_listL, W_listT, W_sumL, W_allL, W_itm, W_rng1, W_rng2, W_enu, W_zip', W_for, W_lc, W_app, W_sas, W_aug, W_par, W_lenL, W_lenT, W_lenS, W_iadd, W_isub, W_isBl, W_bit, Wa_newL, Wa_newT, Wa_newC, Wa_mul, Wa_div, Wa_mod, Wa_pow, Wa_ixL, Wa_ixT, Wa_ixC, Wa_lenC, Wa_mk, W_eqL, W_eqI, W_eqB, W_fail, W_cutS, W_cutC, startD, List.map_cons, List.map_nil, List.length_cons, List.length_nil, List.length_map, List.cons_append, List.nil_append, List.getElem?_cons_zero, List.getElem?_cons_succ, List.set_cons_zero, List.set_cons_succ, Option.some.injEq, exists_eq_left', List.replicate, Nat.reduceAdd, Nat.reduceSub, Nat.reduceMul, D.bl.injEq, D.int.injEq, D.hs.injEq, D.lst.injEq, D.ow.injEq, D.tup.injEq, List.cons.injEq, and_true, true_and, reduceCtorEq, Bool.not_true, Bool.not_false, false_implies, true_implies, forall_const, imp_self, Bool.false_eq_true, if_true, if_false, ↓reduceIte, Bool.true_eq_false, ty_ii, ty_bi, ty_li, ty_ti, ty_ib, ty_bb, ty_lb, ty_tb, ty_ll, ty_tl, ty_dl, okd_int, okd_bl, okd_lst, okd_hs, kin_hs, wipeD, Tg.st, setAll, exists_and_left, exists_eq_left, exists_eq', and_assoc, exists_and_right]
    refine ⟨szl (by have := h.rl; have := h'.rl; simp; omega), b, _, F_House_ok (zip_gb (fun i j => by unfold mn; split <;> simp) h h'), ?_⟩
    exact End.plain (x' := []) (by simp) rfl (q)
theorem fw_greater (b r r' : List Int) (h : gb b r) (h' : gb b r') (q : Q (.hs b (List.zipWith mx r r')) c) : FW F_greater_house [.hs b r, .hs b r'] c Q := by
  refine FW_runBx rfl ?_
  unfold b_greater_house
  try simp only [decide_true, decide_false, Bool.and_self, eq_self, W_loop0, WL_nil, true_or, or_true, or_false, W_seq, W_asg1, W_asgT, W_drop, W_ret, W_if, W_not, W_test, W_andV, W_notV, W_orV, W_andT, W_orT, W_bin, W_cons, W_nm, W_fn, W_fnK0, W_met, W_fld, W_pure, W_bind, W_isB, W_isLT, W_isH, W_add, W_sub, W_neg, W_ord, W_int, W_min, W_max, W_cat, W_part, W_sli, W_cutL, W_listL, W_listT, W_sumL, W_allL, W_itm, W_rng1, W_rng2, W_enu, W_zip', W_for, W_lc, W_app, W_sas, W_aug, W_par, W_lenL, W_lenT, W_lenS, W_iadd, W_isub, W_isBl, W_bit, Wa_newL, Wa_newT, Wa_newC, Wa_mul, Wa_div, Wa_mod, Wa_pow, Wa_ixL, Wa_ixT, Wa_ixC, Wa_lenC, Wa_mk, W_eqL, W_eqI, W_eqB, W_fail, W_cutS, W_cutC, startD, List.map_cons, List.map_nil, List.length_cons, List.length_nil, List.length_map, List.cons_append, List.nil_append, List.getElem?_cons_zero, List.getElem?_cons_succ, List.set_cons_zero, List.set_cons_succ, Option.some.injEq, exists_eq_left', List.replicate, Nat.reduceAdd, Nat.reduceSub, Nat.reduceMul, D.bl.injEq, D.int.injEq, D.hs.injEq, D.lst.injEq, D.ow.injEq, D.tup.injEq, List.cons.injEq, and_true, true_and, reduceCtorEq, Bool.not_true, Bool.not_false, false_implies, true_implies, forall_const, imp_self, Bool.false_eq_true, if_true, if_false, ↓reduceIte, Bool.true_eq_false, ty_ii, ty_bi, ty_li, ty_ti, ty_ib, ty_bb, ty_lb, ty_tb, ty_ll, ty_tl, ty_dl, okd_int, okd_bl, okd_lst, okd_hs, kin_hs, wipeD, Tg.st, setAll, exists_and_left, exists_eq_left, exists_eq', and_assoc, exists_and_right]
  refine fw_check_like b r r' h h' ?_
  refine fw_House_bases b r h ?_
  refine fw_House_rooms b r h ?_
  refine fw_House_rooms b r' h' ?_
  try simp only [decide_true, decide_false, Bool.and_self, eq_self, W_loop0, WL_nil, true_or, or_true, or_false, W_seq, W_asg1, W_asgT, W_drop, W_ret, W_if, W_not, W_test, W_andV, W_notV, W_orV, W_andT, W_orT, W_bin, W_cons, W_nm, W_fn, W_fnK0, W_met, W_fld, W_pure, W_bind, W_isB, W_isLT, W_isH, W_add, W_sub, W_neg, W_ord, W_int, W_min, W_max, W_cat, W_part, W_sli, W_cutL, W_listL, W_listT, W_sumL, W_allL, W_itm, W_rng1, W_rng2, W_enu, W_zip', W_for, W_lc, W_app, W_sas, W_aug, W_par, W_lenL, W_lenT, W_lenS, W_iadd, W_isub, W_isBl, W_bit, Wa_newL, Wa_newT, Wa_newC, Wa_mul, Wa_div, Wa_mod, Wa_pow, Wa_ixL, Wa_ixT, Wa_ixC, Wa_lenC, Wa_mk, W_eqL, W_eqI, W_eqB, W_fail, W_cutS, W_cutC, startD, List.map_cons, List.map_nil, List.length_cons, List.length_nil, List.length_map, List.cons_append, List.nil_append, List.getElem?_cons_zero, List.getElem?_cons_succ, List.set_cons_zero, List.set_cons_succ, Option.some.injEq, exists_eq_left', List.replicate, Nat.reduceAdd, Nat.reduceSub, Nat.reduceMul, D.bl.injEq, D.int.injEq, D.hs.injEq, D.lst.injEq, D.ow.injEq, D.tup.injEq, List.cons.injEq, and_true, true_and, reduceCtorEq, Bool.not_true, Bool.not_false, false_implies, true_implies, forall_const, imp_self, Bool.false_eq_true, if_true, if_false, ↓reduceIte, Bool.true_eq_false, ty_ii, ty_bi, ty_li, ty_ti, ty_ib, ty_bb, ty_lb, ty_tb, ty_ll, ty_tl, ty_dl, okd_int, okd_bl, okd_lst, okd_hs, kin_hs, wipeD, Tg.st, setAll, exists_and_left, exists_eq_left, exists_eq', and_assoc, exists_and_right]
  refine WL_zip mx D.int r r' (fun i j _ => ⟨_, rfl, ?_⟩) ?_
  · try simp only [decide_true, decide_false, Bool.and_self, eq_self, W_loop0, WL_nil, true_or, or_true, or_false, W_seq, W_asg1, W_asgT, W_drop, W_ret, W_if, W_not, W_test, W_andV, W_notV, W_orV, W_andT, W_orT, W_bin, W_cons, W_nm, W_fn, W_fnK0, W_met, W_fld, W_pure, W_bind, W_isB, W_isLT, W_isH, W_add, W_sub, W_neg, W_ord, W_int, W_min, W_max, W_cat, W_part, W_sli, W_cutL, W_listL, W_listT, W_sumL, W_allL, W_itm, W_rng1, W_rng2, W_enu, W_zip', W_for, W_lc, W_app, W_sas, W_aug, W_par, W_lenL, W_lenT, W_lenS, W_iadd, W_isub, W_isBl, W_bit, Wa_newL, Wa_newT, Wa_newC, Wa_mul, Wa_div, Wa_mod, Wa_pow, Wa_ixL, Wa_ixT, Wa_ixC, Wa_lenC, Wa_mk, W_eqL, W_eqI, W_eqB, W_fail, W_cutS, W_cutC, startD, List.map_cons, List.map_nil, List.length_cons, List.length_nil, List.length_map, List.cons_append, List.nil_append, List.getElem?_cons_zero, List.getElem?_cons_succ, List.set_cons_zero, List.set_cons_succ, Option.some.injEq, exists_eq_left', List.replicate, Nat.reduceAdd, Nat.reduceSub, Nat.reduceMul, D.bl.injEq, D.int.injEq, D.hs.injEq, D.lst.injEq, D.ow.injEq, D.tup.injEq, List.cons.injEq, and_true, true_and, reduceCtorEq, Bool.not_true, Bool.not_false, false_implies, true_implies, forall_const, imp_self, Bool.false_eq_true, if_true, if_false, ↓reduceIte, Bool.true_eq_false, ty_ii, ty_bi, ty_li, ty_ti, ty_ib, ty_bb, ty_lb, ty_tb, ty_ll, ty_tl, ty_dl, okd_int, okd_bl, okd_lst, okd_hs, kin_hs, wipeD, Tg.st, setAll, exists_and_left, exists_eq_left, exists_eq', and_assoc, exists_and_right]
    simp only [mx]
  · try simp only [decide_true, decide_false, Bool.and_self, eq_self, W_loop0, WL_nil, true_or, or_true, or_false, W_seq, W_asg1, W_asgT, W_drop, W_ret, W_if, W_not, W_test, W_andV, W_notV, W_orV, W_andT, W_orT, W_bin, W_cons, W_nm, W_fn, W_fnK0, W_met, W_fld, W_pure, W_bind, W_isB, W_isLT, W_isH, W_add, W_sub, W_neg, W_ord, W_int, W_min, W_max, W_cat, W_part, W_sli, W_cutL, W_listL, W_listT, W_sumL, W_allL, W_itm, W_rng1, W_rng2, W_enu, W_zip', W_for, W_lc, W_app, W_sas, W_aug, W_par, W_lenL, W_lenT, W_lenS, W_iadd, W_isub, W_isBl, W_bit, Wa_newL, Wa_newT, Wa_newC, Wa_mul, Wa_div, Wa_mod, Wa_pow, Wa_ixL, Wa_ixT, Wa_ixC, Wa_lenC, Wa_mk, W_eqL, W_eqI, W_eqB, W_fail, W_cutS, W_cutC, startD, List.map_cons, List.map_nil, List.length_cons, List.length_nil, List.length_map, List.cons_append, List.nil_append, List.getElem?_cons_zero, List.getElem?_cons_succ, List.set_cons_zero, List.set_cons_succ, Option.some.injEq, exists_eq_left', List.replicate, Nat.reduceAdd, Nat.reduceSub, Nat.reduceMul, D.bl.injEq, D.int.injEq, D.hs.injEq, D.lst.injEq, D.ow.injEq, D.tup.injEq, List.cons.injEq, and_true, true_and, reduceCtorEq, Bool.not_true, Bool.not_false, false_implies, true_implies, forall_const, imp_self, Bool.false_eq_true, if_true, if_false, ↓reduceIte, Bool.true_eq_false, ty_ii, ty_bi, ty_li, ty_ti, ty_ib, ty_bb, ty_lb, ty_tb, ty_ll, ty_tl, ty_dl, okd_int, okd_bl, okd_lst, okd_hs, kin_hs, wipeD, Tg.st, setAll, exists_and_left, exists_eq_left, exists_eq', and_assoc, exists_and_right]
    refine ⟨szl (by have := h.rl; have := h'.rl; simp; omega), b, _, F_House_ok (zip_gb (fun i j => by unfold mx; split <;> simp) h h'), ?_⟩
    exact End.plain (x' := []) (by simp) rfl (q)
theorem fw_is_within (b r b' r' : List Int) (h : gb b r) (h' : gb b' r') (q : Q (.bl (decide (b = b') && leAll r r')) c) : FW F_is_within [.hs b r, .hs b' r'] c Q := by
  refine FW_runBx rfl ?_
  unfold b_is_within
  try simp only [decide_true, decide_false, Bool.and_self, eq_self, W_loop0, WL_nil, true_or, or_true, or_false, W_seq, W_asg1, W_asgT, W_drop, W_ret, W_if, W_not, W_test, W_andV, W_notV, W_orV, W_andT, W_orT, W_bin, W_cons, W_nm, W_fn, W_fnK0, W_met, W_fld, W_pure, W_bind, W_isB, W_isLT, W_isH, W_add, W_sub, W_neg, W_ord, W_int, W_min, W_max, W_cat, W_part, W_sli, W_cutL, W_listL, W_listT, W_sumL, W_allL, W_itm, W_rng1, W_rng2, W_enu, W_zip', W_for, W_lc, W_app, W_sas, W_aug, W_par, W_lenL, W_lenT, W_lenS, W_iadd, W_isub, W_isBl, W_bit, Wa_newL, Wa_newT, Wa_newC, Wa_mul, Wa_div, Wa_mod, Wa_pow, Wa_ixL, Wa_ixT, Wa_ixC, Wa_lenC, Wa_mk, W_eqL, W_eqI, W_eqB, W_fail, W_cutS, W_cutC, startD, List.map_cons, List.map_nil, List.length_cons, List.length_nil, List.length_map, List.cons_append, List.nil_append, List.getElem?_cons_zero, List.getElem?_cons_succ, List.set_cons_zero, List.set_cons_succ, Option.some.injEq, exists_eq_left', List.replicate, Nat.reduceAdd, Nat.reduceSub, Nat.reduceMul, D.bl.injEq, D.int.injEq, D.hs.injEq, D.lst.injEq, D.ow.injEq, D.tup.injEq, List.cons.injEq, and_true, true_and, reduceCtorEq, Bool.not_true, Bool.not_false, false_implies, true_implies, forall_const, imp_self, Bool.false_eq_true, if_true, if_false, ↓reduceIte, Bool.true_eq_false, ty_ii, ty_bi, ty_li, ty_ti, ty_ib, ty_bb, ty_lb, ty_tb, ty_ll, ty_tl, ty_dl, okd_int, okd_bl, okd_lst, okd_hs, kin_hs, wipeD, Tg.st, setAll, exists_and_left, exists_eq_left, exists_eq', and_assoc, exists_and_right]
  refine fw_check_house b r ?_
  refine fw_check_house b' r' ?_
  refine fw_House_bases b r h ?_
  refine fw_House_bases b' r' h' ?_
  try simp only [decide_true, decide_false, Bool.and_self, eq_self, W_loop0, WL_nil, true_or, or_true, or_false, W_seq, W_asg1, W_asgT, W_drop, W_ret, W_if, W_not, W_test, W_andV, W_notV, W_orV, W_andT, W_orT, W_bin, W_cons, W_nm, W_fn, W_fnK0, W_met, W_fld, W_pure, W_bind, W_isB, W_isLT, W_isH, W_add, W_sub, W_neg, W_ord, W_int, W_min, W_max, W_cat, W_part, W_sli, W_cutL, W_listL, W_listT, W_sumL, W_allL, W_itm, W_rng1, W_rng2, W_enu, W_zip', W_for, W_lc, W_app, W_sas, W_aug, W_par, W_lenL, W_lenT, W_lenS, W_iadd, W_isub, W_isBl, W_bit, Wa_newL, Wa_newT, Wa_newC, Wa_mul, Wa_div, Wa_mod, Wa_pow, Wa_ixL, Wa_ixT, Wa_ixC, Wa_lenC, Wa_mk, W_eqL, W_eqI, W_eqB, W_fail, W_cutS, W_cutC, startD, List.map_cons, List.map_nil, List.length_cons, List.length_nil, List.length_map, List.cons_append, List.nil_append, List.getElem?_cons_zero, List.getElem?_cons_succ, List.set_cons_zero, List.set_cons_succ, Option.some.injEq, exists_eq_left', List.replicate, Nat.reduceAdd, Nat.reduceSub, Nat.reduceMul, D.bl.injEq, D.int.injEq, D.hs.injEq, D.lst.injEq, D.ow.injEq, D.tup.injEq, List.cons.injEq, and_true, true_and, reduceCtorEq, Bool.not_true, Bool.not_false, false_implies, true_implies, forall_const, imp_self, Bool.false_eq_true, if_true, if_false, ↓reduceIte, Bool.true_eq_false, ty_ii, ty_bi, ty_li, ty_ti, ty_ib, ty_bb, ty_lb, ty_tb, ty_ll, ty_tl, ty_dl, okd_int, okd_bl, okd_lst, okd_hs, kin_hs, wipeD, Tg.st, setAll, exists_and_left, exists_eq_left, exists_eq', and_assoc, exists_and_right]
  refine ⟨fun e => ?_, fun e => ?_⟩
  · refine fw_House_rooms b r h ?_
    refine fw_House_rooms b' r' h' ?_
    refine fw_within r r' h.rl h'.rl ?_
    have e' := of_decide_eq_true e
    subst e'
    have hl : (decide ((r.length : Int) = r'.length) && r.all fun i => decide (0 ≤ i)) = true := by
      rw [Bool.and_eq_true]
      exact ⟨decide_eq_true (by rw [h.2.1, h'.2.1]), List.all_eq_true.mpr fun i hi => decide_eq_true (h.2.2.2 i hi).1⟩
    rw [hl, Bool.true_and]
    rw [decide_eq_true rfl, Bool.true_and] at q
    exact End.plain (x' := []) (by simp) rfl (q)
  · rw [e, Bool.false_and] at q; exact End.plain (x' := []) (by simp) rfl (q)
end
end K4

/-! K4R: weights, what is held, how many rows. -/
namespace K4
open PySem PySem.Spec PyProof.Rows L2 CD
section
variable {c : Cells} {Q : D → Cells → Prop}
def wts (w : Int) : List Int → List Int
  | [] => [w]
  | b :: bs => w :: wts (w * b) bs
def hld (h : Int) : List Int → List Int → List Int
  | r :: rs, w :: ws => (h + r * w) :: hld (h + r * w) rs ws
  | _, _ => []
def mny (m : Int) : List Int → Int
  | [] => m
  | r :: rs => mny (m * (r + 1)) rs
theorem lg {x : Int} {k : Nat} (h0 : 0 ≤ x) (h : x < 2 ^ k) : x.natAbs.log2 ≤ k := by
  by_cases e : x.natAbs = 0
  · rw [e]; simp
  · have h' : x.natAbs < 2 ^ k := by
      have : ((x.natAbs : Int)) < ((2 ^ k : Nat) : Int) := by rw [Int.natAbs_of_nonneg h0]; simpa using h
      exact_mod_cast this
    exact Nat.le_of_lt ((Nat.log2_lt e).mpr h')
theorem atI_last (pre : List Int) (w : Int) : atI ((pre ++ [w]).map D.int) (-1) = some (.int w) := by
  unfold atI ixN
  simp
  have e : ((-1 : Int) + (pre.length + 1)).toNat = pre.length := by omega
  rw [if_pos (by omega), e]
  simp
theorem atI_nat {α : Type} {xs : List α} {k : Nat} {x : α} (h : xs[k]? = some x) : atI xs (k : Int) = some x := by
  have hk := (List.getElem?_eq_some_iff.mp h).1
  unfold atI ixN
  rw [if_pos (by omega), if_pos (by omega)]
  simpa using h
theorem set_last {α : Type} (c : List α) (x y : α) : (c ++ [x]).set c.length y = c ++ [y] := by simp
theorem get_last {α : Type} (c : List α) (x : α) : (c ++ [x])[c.length]? = some x := by simp
theorem pw (k : Nat) (h : k ≤ 30) : (101 : Int) ^ k ≤ 2 ^ 210 := by
  calc (101 : Int) ^ k ≤ 101 ^ 30 := by exact_mod_cast Nat.pow_le_pow_right (n := 101) (by decide) h
    _ ≤ 2 ^ 210 := by decide
def IW (b r : List Int) (c : Cells) (ds : List D) (e : En) : Prop := ∃ (pre ns : List Int) (w : Int) (x : Option D), ds = ns.map D.int ∧ e = ⟨[some (.hs b r), some (.ow c.length), x], c ++ [some ((pre ++ [w]).map D.int)]⟩ ∧ pre ++ wts w ns = wts 1 b ∧ 0 ≤ w ∧ w ≤ 101 ^ pre.length ∧ pre.length + ns.length = b.length ∧ ∀ y ∈ ns, 2 ≤ y ∧ y ≤ 100
theorem fw_weights (b r : List Int) (h : gb b r) (q : Q (.lst ((wts 1 b).map D.int)) c) : FW F_weights [.hs b r] c Q := by
  refine FW_runBx rfl ?_
  unfold b_weights
  try simp only [decide_true, decide_false, Bool.and_self, eq_self, W_loop0, WL_nil, true_or, or_true, or_false, W_seq, W_asg1, W_asgT, W_drop, W_ret, W_if, W_not, W_test, W_andV, W_notV, W_orV, W_andT, W_orT, W_bin, W_cons, W_nm, W_fn, W_fnK0, W_met, W_fld, W_pure, W_bind, W_isB, W_isLT, W_isH, W_add, W_sub, W_neg, W_ord, W_int, W_min, W_max, W_cat, W_part, W_sli, W_cutL, W_listL, W_listT, W_sumL, W_allL, W_itm, W_rng1, W_rng2, W_enu, W_zip', W_for, W_lc, W_app, W_sas, W_aug, W_par, W_lenL, W_lenT, W_lenS, W_iadd, W_isub, W_isBl, W_bit, Wa_newL, Wa_newT, Wa_newC, Wa_mul, Wa_div, Wa_mod, Wa_pow, Wa_ixL, Wa_ixT, Wa_ixC, Wa_lenC, Wa_mk, W_eqL, W_eqI, W_eqB, W_fail, W_cutS, W_cutC, startD, List.map_cons, List.map_nil, List.length_cons, List.length_nil, List.length_map, List.cons_append, List.nil_append, List.getElem?_cons_zero, List.getElem?_cons_succ, List.set_cons_zero, List.set_cons_succ, Option.some.injEq, exists_eq_left', List.replicate, Nat.reduceAdd, Nat.reduceSub, Nat.reduceMul, D.bl.injEq, D.int.injEq, D.hs.injEq, D.lst.injEq, D.ow.injEq, D.tup.injEq, List.cons.injEq, and_true, true_and, reduceCtorEq, Bool.not_true, Bool.not_false, false_implies, true_implies, forall_const, imp_self, Bool.false_eq_true, if_true, if_false, ↓reduceIte, Bool.true_eq_false, ty_ii, ty_bi, ty_li, ty_ti, ty_ib, ty_bb, ty_lb, ty_tb, ty_ll, ty_tl, ty_dl, okd_int, okd_bl, okd_lst, okd_hs, kin_hs, wipeD, Tg.st, setAll, exists_and_left, exists_eq_left, exists_eq', and_assoc, exists_and_right]
  refine fw_check_house b r ?_
  try simp only [decide_true, decide_false, Bool.and_self, eq_self, W_loop0, WL_nil, true_or, or_true, or_false, W_seq, W_asg1, W_asgT, W_drop, W_ret, W_if, W_not, W_test, W_andV, W_notV, W_orV, W_andT, W_orT, W_bin, W_cons, W_nm, W_fn, W_fnK0, W_met, W_fld, W_pure, W_bind, W_isB, W_isLT, W_isH, W_add, W_sub, W_neg, W_ord, W_int, W_min, W_max, W_cat, W_part, W_sli, W_cutL, W_listL, W_listT, W_sumL, W_allL, W_itm, W_rng1, W_rng2, W_enu, W_zip', W_for, W_lc, W_app, W_sas, W_aug, W_par, W_lenL, W_lenT, W_lenS, W_iadd, W_isub, W_isBl, W_bit, Wa_newL, Wa_newT, Wa_newC, Wa_mul, Wa_div, Wa_mod, Wa_pow, Wa_ixL, Wa_ixT, Wa_ixC, Wa_lenC, Wa_mk, W_eqL, W_eqI, W_eqB, W_fail, W_cutS, W_cutC, startD, List.map_cons, List.map_nil, List.length_cons, List.length_nil, List.length_map, List.cons_append, List.nil_append, List.getElem?_cons_zero, List.getElem?_cons_succ, List.set_cons_zero, List.set_cons_succ, Option.some.injEq, exists_eq_left', List.replicate, Nat.reduceAdd, Nat.reduceSub, Nat.reduceMul, D.bl.injEq, D.int.injEq, D.hs.injEq, D.lst.injEq, D.ow.injEq, D.tup.injEq, List.cons.injEq, and_true, true_and, reduceCtorEq, Bool.not_true, Bool.not_false, false_implies, true_implies, forall_const, imp_self, Bool.false_eq_true, if_true, if_false, ↓reduceIte, Bool.true_eq_false, ty_ii, ty_bi, ty_li, ty_ti, ty_ib, ty_bb, ty_lb, ty_tb, ty_ll, ty_tl, ty_dl, okd_int, okd_bl, okd_lst, okd_hs, kin_hs, wipeD, Tg.st, setAll, exists_and_left, exists_eq_left, exists_eq', and_assoc, exists_and_right]
  refine ⟨szl (by decide), ?_⟩
  refine fw_House_bases b r h ?_
  try simp only [decide_true, decide_false, Bool.and_self, eq_self, W_loop0, WL_nil, true_or, or_true, or_false, W_seq, W_asg1, W_asgT, W_drop, W_ret, W_if, W_not, W_test, W_andV, W_notV, W_orV, W_andT, W_orT, W_bin, W_cons, W_nm, W_fn, W_fnK0, W_met, W_fld, W_pure, W_bind, W_isB, W_isLT, W_isH, W_add, W_sub, W_neg, W_ord, W_int, W_min, W_max, W_cat, W_part, W_sli, W_cutL, W_listL, W_listT, W_sumL, W_allL, W_itm, W_rng1, W_rng2, W_enu, W_zip', W_for, W_lc, W_app, W_sas, W_aug, W_par, W_lenL, W_lenT, W_lenS, W_iadd, W_isub, W_isBl, W_bit, Wa_newL, Wa_newT, Wa_newC, Wa_mul, Wa_div, Wa_mod, Wa_pow, Wa_ixL, Wa_ixT, Wa_ixC, Wa_lenC, Wa_mk, W_eqL, W_eqI, W_eqB, W_fail, W_cutS, W_cutC, startD, List.map_cons, List.map_nil, List.length_cons, List.length_nil, List.length_map, List.cons_append, List.nil_append, List.getElem?_cons_zero, List.getElem?_cons_succ, List.set_cons_zero, List.set_cons_succ, Option.some.injEq, exists_eq_left', List.replicate, Nat.reduceAdd, Nat.reduceSub, Nat.reduceMul, D.bl.injEq, D.int.injEq, D.hs.injEq, D.lst.injEq, D.ow.injEq, D.tup.injEq, List.cons.injEq, and_true, true_and, reduceCtorEq, Bool.not_true, Bool.not_false, false_implies, true_implies, forall_const, imp_self, Bool.false_eq_true, if_true, if_false, ↓reduceIte, Bool.true_eq_false, ty_ii, ty_bi, ty_li, ty_ti, ty_ib, ty_bb, ty_lb, ty_tb, ty_ll, ty_tl, ty_dl, okd_int, okd_bl, okd_lst, okd_hs, kin_hs, wipeD, Tg.st, setAll, exists_and_left, exists_eq_left, exists_eq', and_assoc, exists_and_right]
  refine W_loop (IW b r c) _ _ (fun d ds e hI => ?_) ?_ (fun e hI => ?_)
  · obtain ⟨pre, ns, w, x, h1, rfl, h3, h4, h5, h6, h7⟩ := hI
    cases ns with
    | nil => cases h1
    | cons n ns =>
      rw [List.map_cons] at h1
      cases h1
      refine ⟨_, rfl, ?_⟩
      obtain ⟨hn1, hn2⟩ := h7 n (List.mem_cons_self ..)
      have hl := h.1
      simp only [List.length_cons] at h6
      have hw : w < 2 ^ 211 := by
        have := pw pre.length (by omega)
        calc w ≤ 101 ^ pre.length := h5
          _ ≤ 2 ^ 210 := this
          _ < 2 ^ 211 := by decide
      try simp only [decide_true, decide_false, Bool.and_self, eq_self, W_loop0, WL_nil, true_or, or_true, or_false, W_seq, W_asg1, W_asgT, W_drop, W_ret, W_if, W_not, W_test, W_andV, W_notV, W_orV, W_andT, W_orT, W_bin, W_cons, W_nm, W_fn, W_fnK0, W_met, W_fld, W_pure, W_bind, W_isB, W_isLT, W_isH, W_add, W_sub, W_neg, W_ord, W_int, W_min, W_max, W_cat, W_part, W_sli, W_cutL, W_listL, W_listT, W_sumL, W_allL, W_itm, W_rng1, W_rng2, W_enu, W_zip', W_for, W_lc, W_app, W_sas, W_aug, W_par, W_lenL, W_lenT, W_lenS, W_iadd, W_isub, W_isBl, W_bit, Wa_newL, Wa_newT, Wa_newC, Wa_mul, Wa_div, Wa_mod, Wa_pow, Wa_ixL, Wa_ixT, Wa_ixC, Wa_lenC, Wa_mk, W_eqL, W_eqI, W_eqB, W_fail, W_cutS, W_cutC, startD, List.map_cons, List.map_nil, List.length_cons, List.length_nil, List.length_map, List.cons_append, List.nil_append, List.getElem?_cons_zero, List.getElem?_cons_succ, List.set_cons_zero, List.set_cons_succ, Option.some.injEq, exists_eq_left', List.replicate, Nat.reduceAdd, Nat.reduceSub, Nat.reduceMul, D.bl.injEq, D.int.injEq, D.hs.injEq, D.lst.injEq, D.ow.injEq, D.tup.injEq, List.cons.injEq, and_true, true_and, reduceCtorEq, Bool.not_true, Bool.not_false, false_implies, true_implies, forall_const, imp_self, Bool.false_eq_true, if_true, if_false, ↓reduceIte, Bool.true_eq_false, ty_ii, ty_bi, ty_li, ty_ti, ty_ib, ty_bb, ty_lb, ty_tb, ty_ll, ty_tl, ty_dl, okd_int, okd_bl, okd_lst, okd_hs, kin_hs, wipeD, Tg.st, setAll, exists_and_left, exists_eq_left, exists_eq', and_assoc, exists_and_right]
      simp only [get_last, Option.some.injEq, exists_eq_left', atI_last]
      try simp only [decide_true, decide_false, Bool.and_self, eq_self, W_loop0, WL_nil, true_or, or_true, or_false, W_seq, W_asg1, W_asgT, W_drop, W_ret, W_if, W_not, W_test, W_andV, W_notV, W_orV, W_andT, W_orT, W_bin, W_cons, W_nm, W_fn, W_fnK0, W_met, W_fld, W_pure, W_bind, W_isB, W_isLT, W_isH, W_add, W_sub, W_neg, W_ord, W_int, W_min, W_max, W_cat, W_part, W_sli, W_cutL, W_listL, W_listT, W_sumL, W_allL, W_itm, W_rng1, W_rng2, W_enu, W_zip', W_for, W_lc, W_app, W_sas, W_aug, W_par, W_lenL, W_lenT, W_lenS, W_iadd, W_isub, W_isBl, W_bit, Wa_newL, Wa_newT, Wa_newC, Wa_mul, Wa_div, Wa_mod, Wa_pow, Wa_ixL, Wa_ixT, Wa_ixC, Wa_lenC, Wa_mk, W_eqL, W_eqI, W_eqB, W_fail, W_cutS, W_cutC, startD, List.map_cons, List.map_nil, List.length_cons, List.length_nil, List.length_map, List.cons_append, List.nil_append, List.getElem?_cons_zero, List.getElem?_cons_succ, List.set_cons_zero, List.set_cons_succ, Option.some.injEq, exists_eq_left', List.replicate, Nat.reduceAdd, Nat.reduceSub, Nat.reduceMul, D.bl.injEq, D.int.injEq, D.hs.injEq, D.lst.injEq, D.ow.injEq, D.tup.injEq, List.cons.injEq, and_true, true_and, reduceCtorEq, Bool.not_true, Bool.not_false, false_implies, true_implies, forall_const, imp_self, Bool.false_eq_true, if_true, if_false, ↓reduceIte, Bool.true_eq_false, ty_ii, ty_bi, ty_li, ty_ti, ty_ib, ty_bb, ty_lb, ty_tb, ty_ll, ty_tl, ty_dl, okd_int, okd_bl, okd_lst, okd_hs, kin_hs, wipeD, Tg.st, setAll, exists_and_left, exists_eq_left, exists_eq', and_assoc, exists_and_right]
      simp only [set_last, get_last, Option.some.injEq, exists_eq_left', atI_last]
      try simp only [decide_true, decide_false, Bool.and_self, eq_self, W_loop0, WL_nil, true_or, or_true, or_false, W_seq, W_asg1, W_asgT, W_drop, W_ret, W_if, W_not, W_test, W_andV, W_notV, W_orV, W_andT, W_orT, W_bin, W_cons, W_nm, W_fn, W_fnK0, W_met, W_fld, W_pure, W_bind, W_isB, W_isLT, W_isH, W_add, W_sub, W_neg, W_ord, W_int, W_min, W_max, W_cat, W_part, W_sli, W_cutL, W_listL, W_listT, W_sumL, W_allL, W_itm, W_rng1, W_rng2, W_enu, W_zip', W_for, W_lc, W_app, W_sas, W_aug, W_par, W_lenL, W_lenT, W_lenS, W_iadd, W_isub, W_isBl, W_bit, Wa_newL, Wa_newT, Wa_newC, Wa_mul, Wa_div, Wa_mod, Wa_pow, Wa_ixL, Wa_ixT, Wa_ixC, Wa_lenC, Wa_mk, W_eqL, W_eqI, W_eqB, W_fail, W_cutS, W_cutC, startD, List.map_cons, List.map_nil, List.length_cons, List.length_nil, List.length_map, List.cons_append, List.nil_append, List.getElem?_cons_zero, List.getElem?_cons_succ, List.set_cons_zero, List.set_cons_succ, Option.some.injEq, exists_eq_left', List.replicate, Nat.reduceAdd, Nat.reduceSub, Nat.reduceMul, D.bl.injEq, D.int.injEq, D.hs.injEq, D.lst.injEq, D.ow.injEq, D.tup.injEq, List.cons.injEq, and_true, true_and, reduceCtorEq, Bool.not_true, Bool.not_false, false_implies, true_implies, forall_const, imp_self, Bool.false_eq_true, if_true, if_false, ↓reduceIte, Bool.true_eq_false, ty_ii, ty_bi, ty_li, ty_ti, ty_ib, ty_bb, ty_lb, ty_tb, ty_ll, ty_tl, ty_dl, okd_int, okd_bl, okd_lst, okd_hs, kin_hs, wipeD, Tg.st, setAll, exists_and_left, exists_eq_left, exists_eq', and_assoc, exists_and_right]
      have e1 := lg h4 hw
      have e2 := lg (k := 7) (x := n) (by omega) (by omega)
      refine ⟨by omega, szl (by simp; omega), pre ++ [w], ns, w * n, some (.int n), rfl, by simp, by simp [← h3, wts], Int.mul_nonneg h4 (by omega), ?_, by simp; omega, fun y hy => h7 y (List.mem_cons_of_mem _ hy)⟩
      rw [List.length_append, List.length_singleton, Int.pow_succ]
      exact Int.mul_le_mul h5 (by omega) (by omega) (Int.pow_nonneg (by decide))
  · exact ⟨[], b, 1, _, rfl, rfl, rfl, by decide, by decide, by simp, h.2.2.1⟩
  · obtain ⟨pre, ns, w, x, h1, rfl, h3, h4, h5, h6, h7⟩ := hI
    have e : ns = [] := by cases ns with | nil => rfl | cons => cases h1
    subst e
    try simp only [decide_true, decide_false, Bool.and_self, eq_self, W_loop0, WL_nil, true_or, or_true, or_false, W_seq, W_asg1, W_asgT, W_drop, W_ret, W_if, W_not, W_test, W_andV, W_notV, W_orV, W_andT, W_orT, W_bin, W_cons, W_nm, W_fn, W_fnK0, W_met, W_fld, W_pure, W_bind, W_isB, W_isLT, W_isH, W_add, W_sub, W_neg, W_ord, W_int, W_min, W_max, W_cat, W_part, W_sli, W_cutL, W_listL, W_listT, W_sumL, W_allL, W_itm, W_rng1, W_rng2, W_enu, W_zip', W_for, W_lc, W_app, W_sas, W_aug, W_par, W_lenL, W_lenT, W_lenS, W_iadd, W_isub, W_isBl, W_bit, Wa_newL, Wa_newT, Wa_newC, Wa_mul, Wa_div, Wa_mod, Wa_pow, Wa_ixL, Wa_ixT, Wa_ixC, Wa_lenC, Wa_mk, W_eqL, W_eqI, W_eqB, W_fail, W_cutS, W_cutC, startD, List.map_cons, List.map_nil, List.length_cons, List.length_nil, List.length_map, List.cons_append, List.nil_append, List.getElem?_cons_zero, List.getElem?_cons_succ, List.set_cons_zero, List.set_cons_succ, Option.some.injEq, exists_eq_left', List.replicate, Nat.reduceAdd, Nat.reduceSub, Nat.reduceMul, D.bl.injEq, D.int.injEq, D.hs.injEq, D.lst.injEq, D.ow.injEq, D.tup.injEq, List.cons.injEq, and_true, true_and, reduceCtorEq, Bool.not_true, Bool.not_false, false_implies, true_implies, forall_const, imp_self, Bool.false_eq_true, if_true, if_false, ↓reduceIte, Bool.true_eq_false, ty_ii, ty_bi, ty_li, ty_ti, ty_ib, ty_bb, ty_lb, ty_tb, ty_ll, ty_tl, ty_dl, okd_int, okd_bl, okd_lst, okd_hs, kin_hs, wipeD, Tg.st, setAll, exists_and_left, exists_eq_left, exists_eq', and_assoc, exists_and_right]
    simp only [wts] at h3
    rw [← h3] at q
    exact fin_new _ q

theorem wts_len (w : Int) (b : List Int) : (wts w b).length = b.length + 1 := by
  induction b generalizing w with
  | nil => rfl
  | cons x b ih => simp [wts, ih]
theorem wts_le (b : List Int) : ∀ (w : Int) (k : Nat), 0 ≤ w → w ≤ 101 ^ k → (∀ x ∈ b, 2 ≤ x ∧ x ≤ 100) → k + b.length ≤ 30 → ∀ y ∈ wts w b, 0 ≤ y ∧ y < 2 ^ 211 := by
  induction b with
  | nil =>
    intro w k h0 h1 _ hk y hy
    simp [wts] at hy
    subst hy
    simp at hk
    exact ⟨h0, Int.lt_of_le_of_lt (Int.le_trans h1 (pw k hk)) (by decide)⟩
  | cons x b ih =>
    intro w k h0 h1 h2 hk y hy
    simp only [wts, List.mem_cons] at hy
    simp only [List.length_cons] at hk
    obtain ⟨q1, q2⟩ := h2 x (List.mem_cons_self ..)
    rcases hy with rfl | hy
    · exact ⟨h0, Int.lt_of_le_of_lt (Int.le_trans h1 (pw k (by omega))) (by decide)⟩
    · refine ih (w * x) (k + 1) (Int.mul_nonneg h0 (by omega)) ?_ (fun x hx => h2 x (List.mem_cons_of_mem _ hx)) (by omega) y hy
      rw [Int.pow_succ]
      exact Int.mul_le_mul h1 (by omega) (by omega) (Int.pow_nonneg (by decide))
theorem gb.wle {b r : List Int} (h : gb b r) : ∀ y ∈ wts 1 b, 0 ≤ y ∧ y < 2 ^ 211 := wts_le b 1 0 (by decide) (by decide) h.2.2.1 (by have := h.1; omega)
def IH (b r : List Int) (c : Cells) (ds : List D) (e : En) : Prop := ∃ (done rs ws : List Int) (t : Int) (x y : Option D), ds = zipD (rs.map D.int) (ws.map D.int) ∧ e = ⟨[some (.hs b r), some (.int t), some (.ow c.length), x, y], c ++ [some (done.map D.int)]⟩ ∧ done ++ hld t rs ws = hld 0 r (wts 1 b) ∧ done.length + rs.length ≤ 30 ∧
  rs.length = ws.length ∧ (∀ y ∈ rs, 0 ≤ y ∧ y ≤ 100) ∧ (∀ y ∈ ws, 0 ≤ y ∧ y < 2 ^ 211)
theorem fw_held (b r : List Int) (h : gb b r) (q : Q (.lst ((hld 0 r (wts 1 b)).map D.int)) c) : FW F_held_up_to [.hs b r] c Q := by
  refine FW_runBx rfl ?_
  unfold b_held_up_to
  try simp only [decide_true, decide_false, Bool.and_self, eq_self, W_loop0, WL_nil, true_or, or_true, or_false, W_seq, W_asg1, W_asgT, W_drop, W_ret, W_if, W_not, W_test, W_andV, W_notV, W_orV, W_andT, W_orT, W_bin, W_cons, W_nm, W_fn, W_fnK0, W_met, W_fld, W_pure, W_bind, W_isB, W_isLT, W_isH, W_add, W_sub, W_neg, W_ord, W_int, W_min, W_max, W_cat, W_part, W_sli, W_cutL, W_listL, W_listT, W_sumL, W_allL, W_itm, W_rng1, W_rng2, W_enu, W_zip', W_for, W_lc, W_app, W_sas, W_aug, W_par, W_lenL, W_lenT, W_lenS, W_iadd, W_isub, W_isBl, W_bit, Wa_newL, Wa_newT, Wa_newC, Wa_mul, Wa_div, Wa_mod, Wa_pow, Wa_ixL, Wa_ixT, Wa_ixC, Wa_lenC, Wa_mk, W_eqL, W_eqI, W_eqB, W_fail, W_cutS, W_cutC, startD, List.map_cons, List.map_nil, List.length_cons, List.length_nil, List.length_map, List.cons_append, List.nil_append, List.getElem?_cons_zero, List.getElem?_cons_succ, List.set_cons_zero, List.set_cons_succ, Option.some.injEq, exists_eq_left', List.replicate, Nat.reduceAdd, Nat.reduceSub, Nat.reduceMul, D.bl.injEq, D.int.injEq, D.hs.injEq, D.lst.injEq, D.ow.injEq, D.tup.injEq, List.cons.injEq, and_true, true_and, reduceCtorEq, Bool.not_true, Bool.not_false, false_implies, true_implies, forall_const, imp_self, Bool.false_eq_true, if_true, if_false, ↓reduceIte, Bool.true_eq_false, ty_ii, ty_bi, ty_li, ty_ti, ty_ib, ty_bb, ty_lb, ty_tb, ty_ll, ty_tl, ty_dl, okd_int, okd_bl, okd_lst, okd_hs, kin_hs, wipeD, Tg.st, setAll, exists_and_left, exists_eq_left, exists_eq', and_assoc, exists_and_right]
  refine fw_check_house b r ?_
  try simp only [decide_true, decide_false, Bool.and_self, eq_self, W_loop0, WL_nil, true_or, or_true, or_false, W_seq, W_asg1, W_asgT, W_drop, W_ret, W_if, W_not, W_test, W_andV, W_notV, W_orV, W_andT, W_orT, W_bin, W_cons, W_nm, W_fn, W_fnK0, W_met, W_fld, W_pure, W_bind, W_isB, W_isLT, W_isH, W_add, W_sub, W_neg, W_ord, W_int, W_min, W_max, W_cat, W_part, W_sli, W_cutL, W_listL, W_listT, W_sumL, W_allL, W_itm, W_rng1, W_rng2, W_enu, W_zip', W_for, W_lc, W_app, W_sas, W_aug, W_par, W_lenL, W_lenT, W_lenS, W_iadd, W_isub, W_isBl, W_bit, Wa_newL, Wa_newT, Wa_newC, Wa_mul, Wa_div, Wa_mod, Wa_pow, Wa_ixL, Wa_ixT, Wa_ixC, Wa_lenC, Wa_mk, W_eqL, W_eqI, W_eqB, W_fail, W_cutS, W_cutC, startD, List.map_cons, List.map_nil, List.length_cons, List.length_nil, List.length_map, List.cons_append, List.nil_append, List.getElem?_cons_zero, List.getElem?_cons_succ, List.set_cons_zero, List.set_cons_succ, Option.some.injEq, exists_eq_left', List.replicate, Nat.reduceAdd, Nat.reduceSub, Nat.reduceMul, D.bl.injEq, D.int.injEq, D.hs.injEq, D.lst.injEq, D.ow.injEq, D.tup.injEq, List.cons.injEq, and_true, true_and, reduceCtorEq, Bool.not_true, Bool.not_false, false_implies, true_implies, forall_const, imp_self, Bool.false_eq_true, if_true, if_false, ↓reduceIte, Bool.true_eq_false, ty_ii, ty_bi, ty_li, ty_ti, ty_ib, ty_bb, ty_lb, ty_tb, ty_ll, ty_tl, ty_dl, okd_int, okd_bl, okd_lst, okd_hs, kin_hs, wipeD, Tg.st, setAll, exists_and_left, exists_eq_left, exists_eq', and_assoc, exists_and_right]
  refine ⟨szl (by decide), ?_⟩
  refine fw_House_rooms b r h ?_
  refine fw_weights b r h ?_
  try simp only [decide_true, decide_false, Bool.and_self, eq_self, W_loop0, WL_nil, true_or, or_true, or_false, W_seq, W_asg1, W_asgT, W_drop, W_ret, W_if, W_not, W_test, W_andV, W_notV, W_orV, W_andT, W_orT, W_bin, W_cons, W_nm, W_fn, W_fnK0, W_met, W_fld, W_pure, W_bind, W_isB, W_isLT, W_isH, W_add, W_sub, W_neg, W_ord, W_int, W_min, W_max, W_cat, W_part, W_sli, W_cutL, W_listL, W_listT, W_sumL, W_allL, W_itm, W_rng1, W_rng2, W_enu, W_zip', W_for, W_lc, W_app, W_sas, W_aug, W_par, W_lenL, W_lenT, W_lenS, W_iadd, W_isub, W_isBl, W_bit, Wa_newL, Wa_newT, Wa_newC, Wa_mul, Wa_div, Wa_mod, Wa_pow, Wa_ixL, Wa_ixT, Wa_ixC, Wa_lenC, Wa_mk, W_eqL, W_eqI, W_eqB, W_fail, W_cutS, W_cutC, startD, List.map_cons, List.map_nil, List.length_cons, List.length_nil, List.length_map, List.cons_append, List.nil_append, List.getElem?_cons_zero, List.getElem?_cons_succ, List.set_cons_zero, List.set_cons_succ, Option.some.injEq, exists_eq_left', List.replicate, Nat.reduceAdd, Nat.reduceSub, Nat.reduceMul, D.bl.injEq, D.int.injEq, D.hs.injEq, D.lst.injEq, D.ow.injEq, D.tup.injEq, List.cons.injEq, and_true, true_and, reduceCtorEq, Bool.not_true, Bool.not_false, false_implies, true_implies, forall_const, imp_self, Bool.false_eq_true, if_true, if_false, ↓reduceIte, Bool.true_eq_false, ty_ii, ty_bi, ty_li, ty_ti, ty_ib, ty_bb, ty_lb, ty_tb, ty_ll, ty_tl, ty_dl, okd_int, okd_bl, okd_lst, okd_hs, kin_hs, wipeD, Tg.st, setAll, exists_and_left, exists_eq_left, exists_eq', and_assoc, exists_and_right]
  refine W_loop (IH b r c) _ _ (fun d ds e hI => ?_) ?_ (fun e hI => ?_)
  · obtain ⟨done, rs, ws, t, x, y, h1, rfl, h3, h4, h5, h6, h7⟩ := hI
    cases rs with
    | nil => cases h1
    | cons a rs =>
      cases ws with
      | nil => cases h5
      | cons v ws =>
        rw [List.map_cons, List.map_cons, zipD] at h1
        cases h1
        refine ⟨_, rfl, ?_⟩
        obtain ⟨a1, a2⟩ := h6 a (List.mem_cons_self ..)
        obtain ⟨v1, v2⟩ := h7 v (List.mem_cons_self ..)
        simp only [List.length_cons] at h4 h5
        have e1 := lg v1 v2
        have e2 := lg (k := 7) (x := a) (by omega) (by omega)
        try simp only [decide_true, decide_false, Bool.and_self, eq_self, W_loop0, WL_nil, true_or, or_true, or_false, W_seq, W_asg1, W_asgT, W_drop, W_ret, W_if, W_not, W_test, W_andV, W_notV, W_orV, W_andT, W_orT, W_bin, W_cons, W_nm, W_fn, W_fnK0, W_met, W_fld, W_pure, W_bind, W_isB, W_isLT, W_isH, W_add, W_sub, W_neg, W_ord, W_int, W_min, W_max, W_cat, W_part, W_sli, W_cutL, W_listL, W_listT, W_sumL, W_allL, W_itm, W_rng1, W_rng2, W_enu, W_zip', W_for, W_lc, W_app, W_sas, W_aug, W_par, W_lenL, W_lenT, W_lenS, W_iadd, W_isub, W_isBl, W_bit, Wa_newL, Wa_newT, Wa_newC, Wa_mul, Wa_div, Wa_mod, Wa_pow, Wa_ixL, Wa_ixT, Wa_ixC, Wa_lenC, Wa_mk, W_eqL, W_eqI, W_eqB, W_fail, W_cutS, W_cutC, startD, List.map_cons, List.map_nil, List.length_cons, List.length_nil, List.length_map, List.cons_append, List.nil_append, List.getElem?_cons_zero, List.getElem?_cons_succ, List.set_cons_zero, List.set_cons_succ, Option.some.injEq, exists_eq_left', List.replicate, Nat.reduceAdd, Nat.reduceSub, Nat.reduceMul, D.bl.injEq, D.int.injEq, D.hs.injEq, D.lst.injEq, D.ow.injEq, D.tup.injEq, List.cons.injEq, and_true, true_and, reduceCtorEq, Bool.not_true, Bool.not_false, false_implies, true_implies, forall_const, imp_self, Bool.false_eq_true, if_true, if_false, ↓reduceIte, Bool.true_eq_false, ty_ii, ty_bi, ty_li, ty_ti, ty_ib, ty_bb, ty_lb, ty_tb, ty_ll, ty_tl, ty_dl, okd_int, okd_bl, okd_lst, okd_hs, kin_hs, wipeD, Tg.st, setAll, exists_and_left, exists_eq_left, exists_eq', and_assoc, exists_and_right]
        simp only [get_last, Option.some.injEq, exists_eq_left']
        try simp only [decide_true, decide_false, Bool.and_self, eq_self, W_loop0, WL_nil, true_or, or_true, or_false, W_seq, W_asg1, W_asgT, W_drop, W_ret, W_if, W_not, W_test, W_andV, W_notV, W_orV, W_andT, W_orT, W_bin, W_cons, W_nm, W_fn, W_fnK0, W_met, W_fld, W_pure, W_bind, W_isB, W_isLT, W_isH, W_add, W_sub, W_neg, W_ord, W_int, W_min, W_max, W_cat, W_part, W_sli, W_cutL, W_listL, W_listT, W_sumL, W_allL, W_itm, W_rng1, W_rng2, W_enu, W_zip', W_for, W_lc, W_app, W_sas, W_aug, W_par, W_lenL, W_lenT, W_lenS, W_iadd, W_isub, W_isBl, W_bit, Wa_newL, Wa_newT, Wa_newC, Wa_mul, Wa_div, Wa_mod, Wa_pow, Wa_ixL, Wa_ixT, Wa_ixC, Wa_lenC, Wa_mk, W_eqL, W_eqI, W_eqB, W_fail, W_cutS, W_cutC, startD, List.map_cons, List.map_nil, List.length_cons, List.length_nil, List.length_map, List.cons_append, List.nil_append, List.getElem?_cons_zero, List.getElem?_cons_succ, List.set_cons_zero, List.set_cons_succ, Option.some.injEq, exists_eq_left', List.replicate, Nat.reduceAdd, Nat.reduceSub, Nat.reduceMul, D.bl.injEq, D.int.injEq, D.hs.injEq, D.lst.injEq, D.ow.injEq, D.tup.injEq, List.cons.injEq, and_true, true_and, reduceCtorEq, Bool.not_true, Bool.not_false, false_implies, true_implies, forall_const, imp_self, Bool.false_eq_true, if_true, if_false, ↓reduceIte, Bool.true_eq_false, ty_ii, ty_bi, ty_li, ty_ti, ty_ib, ty_bb, ty_lb, ty_tb, ty_ll, ty_tl, ty_dl, okd_int, okd_bl, okd_lst, okd_hs, kin_hs, wipeD, Tg.st, setAll, exists_and_left, exists_eq_left, exists_eq', and_assoc, exists_and_right]
        simp only [set_last, get_last, Option.some.injEq, exists_eq_left']
        try simp only [decide_true, decide_false, Bool.and_self, eq_self, W_loop0, WL_nil, true_or, or_true, or_false, W_seq, W_asg1, W_asgT, W_drop, W_ret, W_if, W_not, W_test, W_andV, W_notV, W_orV, W_andT, W_orT, W_bin, W_cons, W_nm, W_fn, W_fnK0, W_met, W_fld, W_pure, W_bind, W_isB, W_isLT, W_isH, W_add, W_sub, W_neg, W_ord, W_int, W_min, W_max, W_cat, W_part, W_sli, W_cutL, W_listL, W_listT, W_sumL, W_allL, W_itm, W_rng1, W_rng2, W_enu, W_zip', W_for, W_lc, W_app, W_sas, W_aug, W_par, W_lenL, W_lenT, W_lenS, W_iadd, W_isub, W_isBl, W_bit, Wa_newL, Wa_newT, Wa_newC, Wa_mul, Wa_div, Wa_mod, Wa_pow, Wa_ixL, Wa_ixT, Wa_ixC, Wa_lenC, Wa_mk, W_eqL, W_eqI, W_eqB, W_fail, W_cutS, W_cutC, startD, List.map_cons, List.map_nil, List.length_cons, List.length_nil, List.length_map, List.cons_append, List.nil_append, List.getElem?_cons_zero, List.getElem?_cons_succ, List.set_cons_zero, List.set_cons_succ, Option.some.injEq, exists_eq_left', List.replicate, Nat.reduceAdd, Nat.reduceSub, Nat.reduceMul, D.bl.injEq, D.int.injEq, D.hs.injEq, D.lst.injEq, D.ow.injEq, D.tup.injEq, List.cons.injEq, and_true, true_and, reduceCtorEq, Bool.not_true, Bool.not_false, false_implies, true_implies, forall_const, imp_self, Bool.false_eq_true, if_true, if_false, ↓reduceIte, Bool.true_eq_false, ty_ii, ty_bi, ty_li, ty_ti, ty_ib, ty_bb, ty_lb, ty_tb, ty_ll, ty_tl, ty_dl, okd_int, okd_bl, okd_lst, okd_hs, kin_hs, wipeD, Tg.st, setAll, exists_and_left, exists_eq_left, exists_eq', and_assoc, exists_and_right]
        refine ⟨by omega, szl (by simp; omega), done ++ [t + a * v], rs, ws, t + a * v, some (.int a), some (.int v), rfl, by simp, by simp [← h3, hld], by simp; omega, by omega, fun y hy => h6 y (List.mem_cons_of_mem _ hy), fun y hy => h7 y (List.mem_cons_of_mem _ hy)⟩
  · exact ⟨[], r, wts 1 b, 0, _, _, rfl, rfl, rfl, by have := h.1; have := h.2.1; simp; omega, by rw [wts_len, h.2.1], h.2.2.2, h.wle⟩
  · obtain ⟨done, rs, ws, t, x, y, h1, rfl, h3, h4, h5, h6, h7⟩ := hI
    have e : hld t rs ws = [] := by
      cases rs with
      | nil => rfl
      | cons a rs =>
        cases ws with
        | nil => rfl
        | cons v ws => cases h1
    try simp only [decide_true, decide_false, Bool.and_self, eq_self, W_loop0, WL_nil, true_or, or_true, or_false, W_seq, W_asg1, W_asgT, W_drop, W_ret, W_if, W_not, W_test, W_andV, W_notV, W_orV, W_andT, W_orT, W_bin, W_cons, W_nm, W_fn, W_fnK0, W_met, W_fld, W_pure, W_bind, W_isB, W_isLT, W_isH, W_add, W_sub, W_neg, W_ord, W_int, W_min, W_max, W_cat, W_part, W_sli, W_cutL, W_listL, W_listT, W_sumL, W_allL, W_itm, W_rng1, W_rng2, W_enu, W_zip', W_for, W_lc, W_app, W_sas, W_aug, W_par, W_lenL, W_lenT, W_lenS, W_iadd, W_isub, W_isBl, W_bit, Wa_newL, Wa_newT, Wa_newC, Wa_mul, Wa_div, Wa_mod, Wa_pow, Wa_ixL, Wa_ixT, Wa_ixC, Wa_lenC, Wa_mk, W_eqL, W_eqI, W_eqB, W_fail, W_cutS, W_cutC, startD, List.map_cons, List.map_nil, List.length_cons, List.length_nil, List.length_map, List.cons_append, List.nil_append, List.getElem?_cons_zero, List.getElem?_cons_succ, List.set_cons_zero, List.set_cons_succ, Option.some.injEq, exists_eq_left', List.replicate, Nat.reduceAdd, Nat.reduceSub, Nat.reduceMul, D.bl.injEq, D.int.injEq, D.hs.injEq, D.lst.injEq, D.ow.injEq, D.tup.injEq, List.cons.injEq, and_true, true_and, reduceCtorEq, Bool.not_true, Bool.not_false, false_implies, true_implies, forall_const, imp_self, Bool.false_eq_true, if_true, if_false, ↓reduceIte, Bool.true_eq_false, ty_ii, ty_bi, ty_li, ty_ti, ty_ib, ty_bb, ty_lb, ty_tb, ty_ll, ty_tl, ty_dl, okd_int, okd_bl, okd_lst, okd_hs, kin_hs, wipeD, Tg.st, setAll, exists_and_left, exists_eq_left, exists_eq', and_assoc, exists_and_right]
    rw [e, List.append_nil] at h3
    rw [← h3] at q
    exact fin_new _ q
def IM (b r : List Int) (c : Cells) (ds : List D) (e : En) : Prop := ∃ (rs : List Int) (m : Int) (k : Nat) (x : Option D), ds = rs.map D.int ∧ e = ⟨[some (.hs b r), some (.int m), x], c⟩ ∧ mny m rs = mny 1 r ∧ 0 ≤ m ∧ m ≤ 101 ^ k ∧ k + rs.length ≤ 30 ∧ (∀ y ∈ rs, 0 ≤ y ∧ y ≤ 100)
theorem fw_many (b r : List Int) (h : gb b r) (q : Q (.int (mny 1 r)) c) : FW F_many_rows [.hs b r] c Q := by
  refine FW_runBx rfl ?_
  unfold b_many_rows
  try simp only [decide_true, decide_false, Bool.and_self, eq_self, W_loop0, WL_nil, true_or, or_true, or_false, W_seq, W_asg1, W_asgT, W_drop, W_ret, W_if, W_not, W_test, W_andV, W_notV, W_orV, W_andT, W_orT, W_bin, W_cons, W_nm, W_fn, W_fnK0, W_met, W_fld, W_pure, W_bind, W_isB, W_isLT, W_isH, W_add, W_sub, W_neg, W_ord, W_int, W_min, W_max, W_cat, W_part, W_sli, W_cutL, W_listL, W_listT, W_sumL, W_allL, W_itm, W_rng1, W_rng2, W_enu, W_zip', W_for, W_lc, W_app, W_sas, W_aug, W_par, W_lenL, W_lenT, W_lenS, W_iadd, W_isub, W_isBl, W_bit, Wa_newL, Wa_newT, Wa_newC, Wa_mul, Wa_div, Wa_mod, Wa_pow, Wa_ixL, Wa_ixT, Wa_ixC, Wa_lenC, Wa_mk, W_eqL, W_eqI, W_eqB, W_fail, W_cutS, W_cutC, startD, List.map_cons, List.map_nil, List.length_cons, List.length_nil, List.length_map, List.cons_append, List.nil_append, List.getElem?_cons_zero, List.getElem?_cons_succ, List.set_cons_zero, List.set_cons_succ, Option.some.injEq, exists_eq_left', List.replicate, Nat.reduceAdd, Nat.reduceSub, Nat.reduceMul, D.bl.injEq, D.int.injEq, D.hs.injEq, D.lst.injEq, D.ow.injEq, D.tup.injEq, List.cons.injEq, and_true, true_and, reduceCtorEq, Bool.not_true, Bool.not_false, false_implies, true_implies, forall_const, imp_self, Bool.false_eq_true, if_true, if_false, ↓reduceIte, Bool.true_eq_false, ty_ii, ty_bi, ty_li, ty_ti, ty_ib, ty_bb, ty_lb, ty_tb, ty_ll, ty_tl, ty_dl, okd_int, okd_bl, okd_lst, okd_hs, kin_hs, wipeD, Tg.st, setAll, exists_and_left, exists_eq_left, exists_eq', and_assoc, exists_and_right]
  refine fw_check_house b r ?_
  try simp only [decide_true, decide_false, Bool.and_self, eq_self, W_loop0, WL_nil, true_or, or_true, or_false, W_seq, W_asg1, W_asgT, W_drop, W_ret, W_if, W_not, W_test, W_andV, W_notV, W_orV, W_andT, W_orT, W_bin, W_cons, W_nm, W_fn, W_fnK0, W_met, W_fld, W_pure, W_bind, W_isB, W_isLT, W_isH, W_add, W_sub, W_neg, W_ord, W_int, W_min, W_max, W_cat, W_part, W_sli, W_cutL, W_listL, W_listT, W_sumL, W_allL, W_itm, W_rng1, W_rng2, W_enu, W_zip', W_for, W_lc, W_app, W_sas, W_aug, W_par, W_lenL, W_lenT, W_lenS, W_iadd, W_isub, W_isBl, W_bit, Wa_newL, Wa_newT, Wa_newC, Wa_mul, Wa_div, Wa_mod, Wa_pow, Wa_ixL, Wa_ixT, Wa_ixC, Wa_lenC, Wa_mk, W_eqL, W_eqI, W_eqB, W_fail, W_cutS, W_cutC, startD, List.map_cons, List.map_nil, List.length_cons, List.length_nil, List.length_map, List.cons_append, List.nil_append, List.getElem?_cons_zero, List.getElem?_cons_succ, List.set_cons_zero, List.set_cons_succ, Option.some.injEq, exists_eq_left', List.replicate, Nat.reduceAdd, Nat.reduceSub, Nat.reduceMul, D.bl.injEq, D.int.injEq, D.hs.injEq, D.lst.injEq, D.ow.injEq, D.tup.injEq, List.cons.injEq, and_true, true_and, reduceCtorEq, Bool.not_true, Bool.not_false, false_implies, true_implies, forall_const, imp_self, Bool.false_eq_true, if_true, if_false, ↓reduceIte, Bool.true_eq_false, ty_ii, ty_bi, ty_li, ty_ti, ty_ib, ty_bb, ty_lb, ty_tb, ty_ll, ty_tl, ty_dl, okd_int, okd_bl, okd_lst, okd_hs, kin_hs, wipeD, Tg.st, setAll, exists_and_left, exists_eq_left, exists_eq', and_assoc, exists_and_right]
  refine fw_House_rooms b r h ?_
  try simp only [decide_true, decide_false, Bool.and_self, eq_self, W_loop0, WL_nil, true_or, or_true, or_false, W_seq, W_asg1, W_asgT, W_drop, W_ret, W_if, W_not, W_test, W_andV, W_notV, W_orV, W_andT, W_orT, W_bin, W_cons, W_nm, W_fn, W_fnK0, W_met, W_fld, W_pure, W_bind, W_isB, W_isLT, W_isH, W_add, W_sub, W_neg, W_ord, W_int, W_min, W_max, W_cat, W_part, W_sli, W_cutL, W_listL, W_listT, W_sumL, W_allL, W_itm, W_rng1, W_rng2, W_enu, W_zip', W_for, W_lc, W_app, W_sas, W_aug, W_par, W_lenL, W_lenT, W_lenS, W_iadd, W_isub, W_isBl, W_bit, Wa_newL, Wa_newT, Wa_newC, Wa_mul, Wa_div, Wa_mod, Wa_pow, Wa_ixL, Wa_ixT, Wa_ixC, Wa_lenC, Wa_mk, W_eqL, W_eqI, W_eqB, W_fail, W_cutS, W_cutC, startD, List.map_cons, List.map_nil, List.length_cons, List.length_nil, List.length_map, List.cons_append, List.nil_append, List.getElem?_cons_zero, List.getElem?_cons_succ, List.set_cons_zero, List.set_cons_succ, Option.some.injEq, exists_eq_left', List.replicate, Nat.reduceAdd, Nat.reduceSub, Nat.reduceMul, D.bl.injEq, D.int.injEq, D.hs.injEq, D.lst.injEq, D.ow.injEq, D.tup.injEq, List.cons.injEq, and_true, true_and, reduceCtorEq, Bool.not_true, Bool.not_false, false_implies, true_implies, forall_const, imp_self, Bool.false_eq_true, if_true, if_false, ↓reduceIte, Bool.true_eq_false, ty_ii, ty_bi, ty_li, ty_ti, ty_ib, ty_bb, ty_lb, ty_tb, ty_ll, ty_tl, ty_dl, okd_int, okd_bl, okd_lst, okd_hs, kin_hs, wipeD, Tg.st, setAll, exists_and_left, exists_eq_left, exists_eq', and_assoc, exists_and_right]
  refine W_loop (IM b r c) _ _ (fun d ds e hI => ?_) ?_ (fun e hI => ?_)
  · obtain ⟨rs, m, k, x, h1, rfl, h3, h4, h5, h6, h7⟩ := hI
    cases rs with
    | nil => cases h1
    | cons a rs =>
      rw [List.map_cons] at h1
      cases h1
      refine ⟨_, rfl, ?_⟩
      obtain ⟨a1, a2⟩ := h7 a (List.mem_cons_self ..)
      simp only [List.length_cons] at h6
      have e1 := lg (k := 211) h4 (Int.lt_of_le_of_lt (Int.le_trans h5 (pw k (by omega))) (by decide))
      have e2 := lg (k := 7) (x := a + 1) (by omega) (by omega)
      try simp only [decide_true, decide_false, Bool.and_self, eq_self, W_loop0, WL_nil, true_or, or_true, or_false, W_seq, W_asg1, W_asgT, W_drop, W_ret, W_if, W_not, W_test, W_andV, W_notV, W_orV, W_andT, W_orT, W_bin, W_cons, W_nm, W_fn, W_fnK0, W_met, W_fld, W_pure, W_bind, W_isB, W_isLT, W_isH, W_add, W_sub, W_neg, W_ord, W_int, W_min, W_max, W_cat, W_part, W_sli, W_cutL, W_listL, W_listT, W_sumL, W_allL, W_itm, W_rng1, W_rng2, W_enu, W_zip', W_for, W_lc, W_app, W_sas, W_aug, W_par, W_lenL, W_lenT, W_lenS, W_iadd, W_isub, W_isBl, W_bit, Wa_newL, Wa_newT, Wa_newC, Wa_mul, Wa_div, Wa_mod, Wa_pow, Wa_ixL, Wa_ixT, Wa_ixC, Wa_lenC, Wa_mk, W_eqL, W_eqI, W_eqB, W_fail, W_cutS, W_cutC, startD, List.map_cons, List.map_nil, List.length_cons, List.length_nil, List.length_map, List.cons_append, List.nil_append, List.getElem?_cons_zero, List.getElem?_cons_succ, List.set_cons_zero, List.set_cons_succ, Option.some.injEq, exists_eq_left', List.replicate, Nat.reduceAdd, Nat.reduceSub, Nat.reduceMul, D.bl.injEq, D.int.injEq, D.hs.injEq, D.lst.injEq, D.ow.injEq, D.tup.injEq, List.cons.injEq, and_true, true_and, reduceCtorEq, Bool.not_true, Bool.not_false, false_implies, true_implies, forall_const, imp_self, Bool.false_eq_true, if_true, if_false, ↓reduceIte, Bool.true_eq_false, ty_ii, ty_bi, ty_li, ty_ti, ty_ib, ty_bb, ty_lb, ty_tb, ty_ll, ty_tl, ty_dl, okd_int, okd_bl, okd_lst, okd_hs, kin_hs, wipeD, Tg.st, setAll, exists_and_left, exists_eq_left, exists_eq', and_assoc, exists_and_right]
      refine ⟨by omega, rs, m * (a + 1), k + 1, some (.int a), rfl, rfl, h3, Int.mul_nonneg h4 (by omega), ?_, by omega, fun y hy => h7 y (List.mem_cons_of_mem _ hy)⟩
      rw [Int.pow_succ]
      exact Int.mul_le_mul h5 (by omega) (by omega) (Int.pow_nonneg (by decide))
  · exact ⟨r, 1, 0, _, rfl, rfl, rfl, by decide, by decide, by have := h.1; have := h.2.1; omega, h.2.2.2⟩
  · obtain ⟨rs, m, k, x, h1, rfl, h3, h4, h5, h6, h7⟩ := hI
    have e : rs = [] := by cases rs with | nil => rfl | cons => cases h1
    subst e
    try simp only [decide_true, decide_false, Bool.and_self, eq_self, W_loop0, WL_nil, true_or, or_true, or_false, W_seq, W_asg1, W_asgT, W_drop, W_ret, W_if, W_not, W_test, W_andV, W_notV, W_orV, W_andT, W_orT, W_bin, W_cons, W_nm, W_fn, W_fnK0, W_met, W_fld, W_pure, W_bind, W_isB, W_isLT, W_isH, W_add, W_sub, W_neg, W_ord, W_int, W_min, W_max, W_cat, W_part, W_sli, W_cutL, W_listL, W_listT, W_sumL, W_allL, W_itm, W_rng1, W_rng2, W_enu, W_zip', W_for, W_lc, W_app, W_sas, W_aug, W_par, W_lenL, W_lenT, W_lenS, W_iadd, W_isub, W_isBl, W_bit, Wa_newL, Wa_newT, Wa_newC, Wa_mul, Wa_div, Wa_mod, Wa_pow, Wa_ixL, Wa_ixT, Wa_ixC, Wa_lenC, Wa_mk, W_eqL, W_eqI, W_eqB, W_fail, W_cutS, W_cutC, startD, List.map_cons, List.map_nil, List.length_cons, List.length_nil, List.length_map, List.cons_append, List.nil_append, List.getElem?_cons_zero, List.getElem?_cons_succ, List.set_cons_zero, List.set_cons_succ, Option.some.injEq, exists_eq_left', List.replicate, Nat.reduceAdd, Nat.reduceSub, Nat.reduceMul, D.bl.injEq, D.int.injEq, D.hs.injEq, D.lst.injEq, D.ow.injEq, D.tup.injEq, List.cons.injEq, and_true, true_and, reduceCtorEq, Bool.not_true, Bool.not_false, false_implies, true_implies, forall_const, imp_self, Bool.false_eq_true, if_true, if_false, ↓reduceIte, Bool.true_eq_false, ty_ii, ty_bi, ty_li, ty_ti, ty_ib, ty_bb, ty_lb, ty_tb, ty_ll, ty_tl, ty_dl, okd_int, okd_bl, okd_lst, okd_hs, kin_hs, wipeD, Tg.st, setAll, exists_and_left, exists_eq_left, exists_eq', and_assoc, exists_and_right]
    rw [← h3] at q
    exact End.plain (x' := []) (by simp) rfl (q)
end
end K4

/-! K4S: houses made of houses. -/
namespace K4
open PySem PySem.Spec PyProof.Rows L2 CD
section
variable {c : Cells} {Q : D → Cells → Prop}
def cut (xs : List Int) (f l : Nat) : List Int := (xs.drop f).take (l - f)
theorem cutD_map {xs : List Int} {f l : Nat} (h1 : f ≤ xs.length) (h2 : l ≤ xs.length) : CD.cutD (xs.map D.int) (some (f : Int)) (some (l : Int)) = (cut xs f l).map D.int := by
  unfold CD.cutD cut
  rw [HT.sIx_nat, HT.sIx_nat, List.length_map, Nat.min_eq_left h1, Nat.min_eq_left h2, List.map_take, List.map_drop]
theorem cutD_to {xs : List Int} {l : Nat} (h2 : l ≤ xs.length) : CD.cutD (xs.map D.int) none (some (l : Int)) = (xs.take l).map D.int := by
  unfold CD.cutD
  rw [HT.sIx_nat, HT.sIx_none, List.length_map, Nat.min_eq_left h2, List.map_take]
  simp
theorem cutD_from {xs : List Int} {f : Nat} (h2 : f ≤ xs.length) : CD.cutD (xs.map D.int) (some (f : Int)) none = (xs.drop f).map D.int := by
  unfold CD.cutD
  rw [HT.sIx_nat, HT.sIx_none, List.length_map, Nat.min_eq_left h2, List.map_drop]
  rw [List.take_of_length_le (by simp)]
theorem ixN_nat {n k : Nat} (h : k < n) : ixN n (k : Int) = some k := by
  unfold ixN
  rw [if_pos (by omega), if_pos (by omega)]
  simp
theorem set_ints (r : List Int) (p : Nat) (x : Int) : (r.map D.int).set p (.int x) = (r.set p x).map D.int := by rw [List.map_set]
theorem set_gb {b r : List Int} (h : gb b r) {p : Nat} {x : Int} (hx : 0 ≤ x ∧ x ≤ 100) : gb b (r.set p x) := by
  refine ⟨h.1, by simp [h.2.1], h.2.2.1, fun y hy => ?_⟩
  rcases List.mem_or_eq_of_mem_set hy with hy | rfl
  · exact h.2.2.2 y hy
  · exact hx
theorem fw_with_room (b r : List Int) (h : gb b r) (p : Nat) (hp : p < r.length) (x : Int) (hx : 0 ≤ x ∧ x ≤ 100) (q : Q (.hs b (r.set p x)) c) : FW F_with_room [.hs b r, .int p, .int x] c Q := by
  refine FW_runBx rfl ?_
  unfold b_with_room
  try simp only [decide_true, decide_false, Bool.and_self, eq_self, W_loop0, WL_nil, true_or, or_true, or_false, W_seq, W_asg1, W_asgT, W_drop, W_ret, W_if, W_not, W_test, W_andV, W_notV, W_orV, W_andT, W_orT, W_bin, W_cons, W_nm, W_fn, W_fnK0, W_met, W_fld, W_pure, W_bind, W_isB, W_isLT, W_isH, W_add, W_sub, W_neg, W_ord, W_int, W_min, W_max, W_cat, W_part, W_sli, W_cutL, W_listL, W_listT, W_sumL, W_allL, W_itm, W_rng1, W_rng2, W_enu, W_zip', W_for, W_lc, W_app, W_sas, W_aug, W_par, W_lenL, W_lenT, W_lenS, W_iadd, W_isub, W_isBl, W_bit, Wa_newL, Wa_newT, Wa_newC, Wa_mul, Wa_div, Wa_mod, Wa_pow, Wa_ixL, Wa_ixT, Wa_ixC, Wa_lenC, Wa_mk, W_eqL, W_eqI, W_eqB, W_fail, W_cutS, W_cutC, startD, List.map_cons, List.map_nil, List.length_cons, List.length_nil, List.length_map, List.cons_append, List.nil_append, List.getElem?_cons_zero, List.getElem?_cons_succ, List.set_cons_zero, List.set_cons_succ, Option.some.injEq, exists_eq_left', List.replicate, Nat.reduceAdd, Nat.reduceSub, Nat.reduceMul, D.bl.injEq, D.int.injEq, D.hs.injEq, D.lst.injEq, D.ow.injEq, D.tup.injEq, List.cons.injEq, and_true, true_and, reduceCtorEq, Bool.not_true, Bool.not_false, false_implies, true_implies, forall_const, imp_self, Bool.false_eq_true, if_true, if_false, ↓reduceIte, Bool.true_eq_false, ty_ii, ty_bi, ty_li, ty_ti, ty_ib, ty_bb, ty_lb, ty_tb, ty_ll, ty_tl, ty_dl, okd_int, okd_bl, okd_lst, okd_hs, kin_hs, wipeD, Tg.st, setAll, exists_and_left, exists_eq_left, exists_eq', and_assoc, exists_and_right]
  refine fw_check_house b r ?_
  refine fw_check_place b r h p (by omega) ?_
  refine fw_count x ?_
  rw [decide_eq_true hx.1]
  try simp only [decide_true, decide_false, Bool.and_self, eq_self, W_loop0, WL_nil, true_or, or_true, or_false, W_seq, W_asg1, W_asgT, W_drop, W_ret, W_if, W_not, W_test, W_andV, W_notV, W_orV, W_andT, W_orT, W_bin, W_cons, W_nm, W_fn, W_fnK0, W_met, W_fld, W_pure, W_bind, W_isB, W_isLT, W_isH, W_add, W_sub, W_neg, W_ord, W_int, W_min, W_max, W_cat, W_part, W_sli, W_cutL, W_listL, W_listT, W_sumL, W_allL, W_itm, W_rng1, W_rng2, W_enu, W_zip', W_for, W_lc, W_app, W_sas, W_aug, W_par, W_lenL, W_lenT, W_lenS, W_iadd, W_isub, W_isBl, W_bit, Wa_newL, Wa_newT, Wa_newC, Wa_mul, Wa_div, Wa_mod, Wa_pow, Wa_ixL, Wa_ixT, Wa_ixC, Wa_lenC, Wa_mk, W_eqL, W_eqI, W_eqB, W_fail, W_cutS, W_cutC, startD, List.map_cons, List.map_nil, List.length_cons, List.length_nil, List.length_map, List.cons_append, List.nil_append, List.getElem?_cons_zero, List.getElem?_cons_succ, List.set_cons_zero, List.set_cons_succ, Option.some.injEq, exists_eq_left', List.replicate, Nat.reduceAdd, Nat.reduceSub, Nat.reduceMul, D.bl.injEq, D.int.injEq, D.hs.injEq, D.lst.injEq, D.ow.injEq, D.tup.injEq, List.cons.injEq, and_true, true_and, reduceCtorEq, Bool.not_true, Bool.not_false, false_implies, true_implies, forall_const, imp_self, Bool.false_eq_true, if_true, if_false, ↓reduceIte, Bool.true_eq_false, ty_ii, ty_bi, ty_li, ty_ti, ty_ib, ty_bb, ty_lb, ty_tb, ty_ll, ty_tl, ty_dl, okd_int, okd_bl, okd_lst, okd_hs, kin_hs, wipeD, Tg.st, setAll, exists_and_left, exists_eq_left, exists_eq', and_assoc, exists_and_right]
  refine fw_House_rooms_x b r h ?_
  try simp only [decide_true, decide_false, Bool.and_self, eq_self, W_loop0, WL_nil, true_or, or_true, or_false, W_seq, W_asg1, W_asgT, W_drop, W_ret, W_if, W_not, W_test, W_andV, W_notV, W_orV, W_andT, W_orT, W_bin, W_cons, W_nm, W_fn, W_fnK0, W_met, W_fld, W_pure, W_bind, W_isB, W_isLT, W_isH, W_add, W_sub, W_neg, W_ord, W_int, W_min, W_max, W_cat, W_part, W_sli, W_cutL, W_listL, W_listT, W_sumL, W_allL, W_itm, W_rng1, W_rng2, W_enu, W_zip', W_for, W_lc, W_app, W_sas, W_aug, W_par, W_lenL, W_lenT, W_lenS, W_iadd, W_isub, W_isBl, W_bit, Wa_newL, Wa_newT, Wa_newC, Wa_mul, Wa_div, Wa_mod, Wa_pow, Wa_ixL, Wa_ixT, Wa_ixC, Wa_lenC, Wa_mk, W_eqL, W_eqI, W_eqB, W_fail, W_cutS, W_cutC, startD, List.map_cons, List.map_nil, List.length_cons, List.length_nil, List.length_map, List.cons_append, List.nil_append, List.getElem?_cons_zero, List.getElem?_cons_succ, List.set_cons_zero, List.set_cons_succ, Option.some.injEq, exists_eq_left', List.replicate, Nat.reduceAdd, Nat.reduceSub, Nat.reduceMul, D.bl.injEq, D.int.injEq, D.hs.injEq, D.lst.injEq, D.ow.injEq, D.tup.injEq, List.cons.injEq, and_true, true_and, reduceCtorEq, Bool.not_true, Bool.not_false, false_implies, true_implies, forall_const, imp_self, Bool.false_eq_true, if_true, if_false, ↓reduceIte, Bool.true_eq_false, ty_ii, ty_bi, ty_li, ty_ti, ty_ib, ty_bb, ty_lb, ty_tb, ty_ll, ty_tl, ty_dl, okd_int, okd_bl, okd_lst, okd_hs, kin_hs, wipeD, Tg.st, setAll, exists_and_left, exists_eq_left, exists_eq', and_assoc, exists_and_right]
  simp only [get_last, Option.some.injEq, exists_eq_left']
  try simp only [decide_true, decide_false, Bool.and_self, eq_self, W_loop0, WL_nil, true_or, or_true, or_false, W_seq, W_asg1, W_asgT, W_drop, W_ret, W_if, W_not, W_test, W_andV, W_notV, W_orV, W_andT, W_orT, W_bin, W_cons, W_nm, W_fn, W_fnK0, W_met, W_fld, W_pure, W_bind, W_isB, W_isLT, W_isH, W_add, W_sub, W_neg, W_ord, W_int, W_min, W_max, W_cat, W_part, W_sli, W_cutL, W_listL, W_listT, W_sumL, W_allL, W_itm, W_rng1, W_rng2, W_enu, W_zip', W_for, W_lc, W_app, W_sas, W_aug, W_par, W_lenL, W_lenT, W_lenS, W_iadd, W_isub, W_isBl, W_bit, Wa_newL, Wa_newT, Wa_newC, Wa_mul, Wa_div, Wa_mod, Wa_pow, Wa_ixL, Wa_ixT, Wa_ixC, Wa_lenC, Wa_mk, W_eqL, W_eqI, W_eqB, W_fail, W_cutS, W_cutC, startD, List.map_cons, List.map_nil, List.length_cons, List.length_nil, List.length_map, List.cons_append, List.nil_append, List.getElem?_cons_zero, List.getElem?_cons_succ, List.set_cons_zero, List.set_cons_succ, Option.some.injEq, exists_eq_left', List.replicate, Nat.reduceAdd, Nat.reduceSub, Nat.reduceMul, D.bl.injEq, D.int.injEq, D.hs.injEq, D.lst.injEq, D.ow.injEq, D.tup.injEq, List.cons.injEq, and_true, true_and, reduceCtorEq, Bool.not_true, Bool.not_false, false_implies, true_implies, forall_const, imp_self, Bool.false_eq_true, if_true, if_false, ↓reduceIte, Bool.true_eq_false, ty_ii, ty_bi, ty_li, ty_ti, ty_ib, ty_bb, ty_lb, ty_tb, ty_ll, ty_tl, ty_dl, okd_int, okd_bl, okd_lst, okd_hs, kin_hs, wipeD, Tg.st, setAll, exists_and_left, exists_eq_left, exists_eq', and_assoc, exists_and_right]
  simp only [ixN_nat hp, Option.some.injEq, exists_eq_left', set_last, set_ints]
  try simp only [decide_true, decide_false, Bool.and_self, eq_self, W_loop0, WL_nil, true_or, or_true, or_false, W_seq, W_asg1, W_asgT, W_drop, W_ret, W_if, W_not, W_test, W_andV, W_notV, W_orV, W_andT, W_orT, W_bin, W_cons, W_nm, W_fn, W_fnK0, W_met, W_fld, W_pure, W_bind, W_isB, W_isLT, W_isH, W_add, W_sub, W_neg, W_ord, W_int, W_min, W_max, W_cat, W_part, W_sli, W_cutL, W_listL, W_listT, W_sumL, W_allL, W_itm, W_rng1, W_rng2, W_enu, W_zip', W_for, W_lc, W_app, W_sas, W_aug, W_par, W_lenL, W_lenT, W_lenS, W_iadd, W_isub, W_isBl, W_bit, Wa_newL, Wa_newT, Wa_newC, Wa_mul, Wa_div, Wa_mod, Wa_pow, Wa_ixL, Wa_ixT, Wa_ixC, Wa_lenC, Wa_mk, W_eqL, W_eqI, W_eqB, W_fail, W_cutS, W_cutC, startD, List.map_cons, List.map_nil, List.length_cons, List.length_nil, List.length_map, List.cons_append, List.nil_append, List.getElem?_cons_zero, List.getElem?_cons_succ, List.set_cons_zero, List.set_cons_succ, Option.some.injEq, exists_eq_left', List.replicate, Nat.reduceAdd, Nat.reduceSub, Nat.reduceMul, D.bl.injEq, D.int.injEq, D.hs.injEq, D.lst.injEq, D.ow.injEq, D.tup.injEq, List.cons.injEq, and_true, true_and, reduceCtorEq, Bool.not_true, Bool.not_false, false_implies, true_implies, forall_const, imp_self, Bool.false_eq_true, if_true, if_false, ↓reduceIte, Bool.true_eq_false, ty_ii, ty_bi, ty_li, ty_ti, ty_ib, ty_bb, ty_lb, ty_tb, ty_ll, ty_tl, ty_dl, okd_int, okd_bl, okd_lst, okd_hs, kin_hs, wipeD, Tg.st, setAll, exists_and_left, exists_eq_left, exists_eq', and_assoc, exists_and_right]
  refine fw_House_bases b r h ?_
  rw [W_frnC (k := c.length) (ds := (r.set p x).map D.int) rfl (get_last _ _) (lowL_ints _ _)]
  try simp only [decide_true, decide_false, Bool.and_self, eq_self, W_loop0, WL_nil, true_or, or_true, or_false, W_seq, W_asg1, W_asgT, W_drop, W_ret, W_if, W_not, W_test, W_andV, W_notV, W_orV, W_andT, W_orT, W_bin, W_cons, W_nm, W_fn, W_fnK0, W_met, W_fld, W_pure, W_bind, W_isB, W_isLT, W_isH, W_add, W_sub, W_neg, W_ord, W_int, W_min, W_max, W_cat, W_part, W_sli, W_cutL, W_listL, W_listT, W_sumL, W_allL, W_itm, W_rng1, W_rng2, W_enu, W_zip', W_for, W_lc, W_app, W_sas, W_aug, W_par, W_lenL, W_lenT, W_lenS, W_iadd, W_isub, W_isBl, W_bit, Wa_newL, Wa_newT, Wa_newC, Wa_mul, Wa_div, Wa_mod, Wa_pow, Wa_ixL, Wa_ixT, Wa_ixC, Wa_lenC, Wa_mk, W_eqL, W_eqI, W_eqB, W_fail, W_cutS, W_cutC, startD, List.map_cons, List.map_nil, List.length_cons, List.length_nil, List.length_map, List.cons_append, List.nil_append, List.getElem?_cons_zero, List.getElem?_cons_succ, List.set_cons_zero, List.set_cons_succ, Option.some.injEq, exists_eq_left', List.replicate, Nat.reduceAdd, Nat.reduceSub, Nat.reduceMul, D.bl.injEq, D.int.injEq, D.hs.injEq, D.lst.injEq, D.ow.injEq, D.tup.injEq, List.cons.injEq, and_true, true_and, reduceCtorEq, Bool.not_true, Bool.not_false, false_implies, true_implies, forall_const, imp_self, Bool.false_eq_true, if_true, if_false, ↓reduceIte, Bool.true_eq_false, ty_ii, ty_bi, ty_li, ty_ti, ty_ib, ty_bb, ty_lb, ty_tb, ty_ll, ty_tl, ty_dl, okd_int, okd_bl, okd_lst, okd_hs, kin_hs, wipeD, Tg.st, setAll, exists_and_left, exists_eq_left, exists_eq', and_assoc, exists_and_right]
  refine ⟨b, r.set p x, F_House_ok (set_gb h hx), ?_⟩
  exact End.plain (x' := [none]) (by simp) rfl q
theorem cut_gb {b r : List Int} (h : gb b r) {f l : Nat} (h1 : f ≤ l) (h2 : l < r.length) : gb (cut b f l) (cut r f (l + 1)) := by
  have := h.1
  have := h.2.1
  refine ⟨by simp [cut]; omega, by simp [cut]; omega, fun x hx => h.2.2.1 x (List.mem_of_mem_drop (List.mem_of_mem_take hx)), fun x hx => h.2.2.2 x (List.mem_of_mem_drop (List.mem_of_mem_take hx))⟩
theorem fw_stretch (b r : List Int) (h : gb b r) (f l : Nat) (h1 : f ≤ l) (h2 : l < r.length) (q : Q (.hs (cut b f l) (cut r f (l + 1))) c) : FW F_stretch [.hs b r, .int f, .int l] c Q := by
  refine FW_runBx rfl ?_
  unfold b_stretch
  try simp only [decide_true, decide_false, Bool.and_self, eq_self, W_loop0, WL_nil, true_or, or_true, or_false, W_seq, W_asg1, W_asgT, W_drop, W_ret, W_if, W_not, W_test, W_andV, W_notV, W_orV, W_andT, W_orT, W_bin, W_cons, W_nm, W_fn, W_fnK0, W_met, W_fld, W_pure, W_bind, W_isB, W_isLT, W_isH, W_add, W_sub, W_neg, W_ord, W_int, W_min, W_max, W_cat, W_part, W_sli, W_cutL, W_listL, W_listT, W_sumL, W_allL, W_itm, W_rng1, W_rng2, W_enu, W_zip', W_for, W_lc, W_app, W_sas, W_aug, W_par, W_lenL, W_lenT, W_lenS, W_iadd, W_isub, W_isBl, W_bit, Wa_newL, Wa_newT, Wa_newC, Wa_mul, Wa_div, Wa_mod, Wa_pow, Wa_ixL, Wa_ixT, Wa_ixC, Wa_lenC, Wa_mk, W_eqL, W_eqI, W_eqB, W_fail, W_cutS, W_cutC, startD, List.map_cons, List.map_nil, List.length_cons, List.length_nil, List.length_map, List.cons_append, List.nil_append, List.getElem?_cons_zero, List.getElem?_cons_succ, List.set_cons_zero, List.set_cons_succ, Option.some.injEq, exists_eq_left', List.replicate, Nat.reduceAdd, Nat.reduceSub, Nat.reduceMul, D.bl.injEq, D.int.injEq, D.hs.injEq, D.lst.injEq, D.ow.injEq, D.tup.injEq, List.cons.injEq, and_true, true_and, reduceCtorEq, Bool.not_true, Bool.not_false, false_implies, true_implies, forall_const, imp_self, Bool.false_eq_true, if_true, if_false, ↓reduceIte, Bool.true_eq_false, ty_ii, ty_bi, ty_li, ty_ti, ty_ib, ty_bb, ty_lb, ty_tb, ty_ll, ty_tl, ty_dl, okd_int, okd_bl, okd_lst, okd_hs, kin_hs, wipeD, Tg.st, setAll, exists_and_left, exists_eq_left, exists_eq', and_assoc, exists_and_right]
  refine fw_check_house b r ?_
  refine fw_check_place b r h f (by omega) ?_
  refine fw_check_place b r h l (by omega) ?_
  try simp only [decide_true, decide_false, Bool.and_self, eq_self, W_loop0, WL_nil, true_or, or_true, or_false, W_seq, W_asg1, W_asgT, W_drop, W_ret, W_if, W_not, W_test, W_andV, W_notV, W_orV, W_andT, W_orT, W_bin, W_cons, W_nm, W_fn, W_fnK0, W_met, W_fld, W_pure, W_bind, W_isB, W_isLT, W_isH, W_add, W_sub, W_neg, W_ord, W_int, W_min, W_max, W_cat, W_part, W_sli, W_cutL, W_listL, W_listT, W_sumL, W_allL, W_itm, W_rng1, W_rng2, W_enu, W_zip', W_for, W_lc, W_app, W_sas, W_aug, W_par, W_lenL, W_lenT, W_lenS, W_iadd, W_isub, W_isBl, W_bit, Wa_newL, Wa_newT, Wa_newC, Wa_mul, Wa_div, Wa_mod, Wa_pow, Wa_ixL, Wa_ixT, Wa_ixC, Wa_lenC, Wa_mk, W_eqL, W_eqI, W_eqB, W_fail, W_cutS, W_cutC, startD, List.map_cons, List.map_nil, List.length_cons, List.length_nil, List.length_map, List.cons_append, List.nil_append, List.getElem?_cons_zero, List.getElem?_cons_succ, List.set_cons_zero, List.set_cons_succ, Option.some.injEq, exists_eq_left', List.replicate, Nat.reduceAdd, Nat.reduceSub, Nat.reduceMul, D.bl.injEq, D.int.injEq, D.hs.injEq, D.lst.injEq, D.ow.injEq, D.tup.injEq, List.cons.injEq, and_true, true_and, reduceCtorEq, Bool.not_true, Bool.not_false, false_implies, true_implies, forall_const, imp_self, Bool.false_eq_true, if_true, if_false, ↓reduceIte, Bool.true_eq_false, ty_ii, ty_bi, ty_li, ty_ti, ty_ib, ty_bb, ty_lb, ty_tb, ty_ll, ty_tl, ty_dl, okd_int, okd_bl, okd_lst, okd_hs, kin_hs, wipeD, Tg.st, setAll, exists_and_left, exists_eq_left, exists_eq', and_assoc, exists_and_right]
  rw [decide_eq_false (show ¬ (l : Int) < f by omega)]
  try simp only [decide_true, decide_false, Bool.and_self, eq_self, W_loop0, WL_nil, true_or, or_true, or_false, W_seq, W_asg1, W_asgT, W_drop, W_ret, W_if, W_not, W_test, W_andV, W_notV, W_orV, W_andT, W_orT, W_bin, W_cons, W_nm, W_fn, W_fnK0, W_met, W_fld, W_pure, W_bind, W_isB, W_isLT, W_isH, W_add, W_sub, W_neg, W_ord, W_int, W_min, W_max, W_cat, W_part, W_sli, W_cutL, W_listL, W_listT, W_sumL, W_allL, W_itm, W_rng1, W_rng2, W_enu, W_zip', W_for, W_lc, W_app, W_sas, W_aug, W_par, W_lenL, W_lenT, W_lenS, W_iadd, W_isub, W_isBl, W_bit, Wa_newL, Wa_newT, Wa_newC, Wa_mul, Wa_div, Wa_mod, Wa_pow, Wa_ixL, Wa_ixT, Wa_ixC, Wa_lenC, Wa_mk, W_eqL, W_eqI, W_eqB, W_fail, W_cutS, W_cutC, startD, List.map_cons, List.map_nil, List.length_cons, List.length_nil, List.length_map, List.cons_append, List.nil_append, List.getElem?_cons_zero, List.getElem?_cons_succ, List.set_cons_zero, List.set_cons_succ, Option.some.injEq, exists_eq_left', List.replicate, Nat.reduceAdd, Nat.reduceSub, Nat.reduceMul, D.bl.injEq, D.int.injEq, D.hs.injEq, D.lst.injEq, D.ow.injEq, D.tup.injEq, List.cons.injEq, and_true, true_and, reduceCtorEq, Bool.not_true, Bool.not_false, false_implies, true_implies, forall_const, imp_self, Bool.false_eq_true, if_true, if_false, ↓reduceIte, Bool.true_eq_false, ty_ii, ty_bi, ty_li, ty_ti, ty_ib, ty_bb, ty_lb, ty_tb, ty_ll, ty_tl, ty_dl, okd_int, okd_bl, okd_lst, okd_hs, kin_hs, wipeD, Tg.st, setAll, exists_and_left, exists_eq_left, exists_eq', and_assoc, exists_and_right]
  refine fw_House_bases b r h ?_
  try simp only [decide_true, decide_false, Bool.and_self, eq_self, W_loop0, WL_nil, true_or, or_true, or_false, W_seq, W_asg1, W_asgT, W_drop, W_ret, W_if, W_not, W_test, W_andV, W_notV, W_orV, W_andT, W_orT, W_bin, W_cons, W_nm, W_fn, W_fnK0, W_met, W_fld, W_pure, W_bind, W_isB, W_isLT, W_isH, W_add, W_sub, W_neg, W_ord, W_int, W_min, W_max, W_cat, W_part, W_sli, W_cutL, W_listL, W_listT, W_sumL, W_allL, W_itm, W_rng1, W_rng2, W_enu, W_zip', W_for, W_lc, W_app, W_sas, W_aug, W_par, W_lenL, W_lenT, W_lenS, W_iadd, W_isub, W_isBl, W_bit, Wa_newL, Wa_newT, Wa_newC, Wa_mul, Wa_div, Wa_mod, Wa_pow, Wa_ixL, Wa_ixT, Wa_ixC, Wa_lenC, Wa_mk, W_eqL, W_eqI, W_eqB, W_fail, W_cutS, W_cutC, startD, List.map_cons, List.map_nil, List.length_cons, List.length_nil, List.length_map, List.cons_append, List.nil_append, List.getElem?_cons_zero, List.getElem?_cons_succ, List.set_cons_zero, List.set_cons_succ, Option.some.injEq, exists_eq_left', List.replicate, Nat.reduceAdd, Nat.reduceSub, Nat.reduceMul, D.bl.injEq, D.int.injEq, D.hs.injEq, D.lst.injEq, D.ow.injEq, D.tup.injEq, List.cons.injEq, and_true, true_and, reduceCtorEq, Bool.not_true, Bool.not_false, false_implies, true_implies, forall_const, imp_self, Bool.false_eq_true, if_true, if_false, ↓reduceIte, Bool.true_eq_false, ty_ii, ty_bi, ty_li, ty_ti, ty_ib, ty_bb, ty_lb, ty_tb, ty_ll, ty_tl, ty_dl, okd_int, okd_bl, okd_lst, okd_hs, kin_hs, wipeD, Tg.st, setAll, exists_and_left, exists_eq_left, exists_eq', and_assoc, exists_and_right]
  have hb : l ≤ b.length := by have := h.2.1; omega
  rw [cutD_map (Nat.le_trans h1 hb) hb]
  refine ⟨szl (by have := (cut_gb h h1 h2).bl; simpa using this), ?_⟩
  refine fw_House_rooms b r h ?_
  try simp only [decide_true, decide_false, Bool.and_self, eq_self, W_loop0, WL_nil, true_or, or_true, or_false, W_seq, W_asg1, W_asgT, W_drop, W_ret, W_if, W_not, W_test, W_andV, W_notV, W_orV, W_andT, W_orT, W_bin, W_cons, W_nm, W_fn, W_fnK0, W_met, W_fld, W_pure, W_bind, W_isB, W_isLT, W_isH, W_add, W_sub, W_neg, W_ord, W_int, W_min, W_max, W_cat, W_part, W_sli, W_cutL, W_listL, W_listT, W_sumL, W_allL, W_itm, W_rng1, W_rng2, W_enu, W_zip', W_for, W_lc, W_app, W_sas, W_aug, W_par, W_lenL, W_lenT, W_lenS, W_iadd, W_isub, W_isBl, W_bit, Wa_newL, Wa_newT, Wa_newC, Wa_mul, Wa_div, Wa_mod, Wa_pow, Wa_ixL, Wa_ixT, Wa_ixC, Wa_lenC, Wa_mk, W_eqL, W_eqI, W_eqB, W_fail, W_cutS, W_cutC, startD, List.map_cons, List.map_nil, List.length_cons, List.length_nil, List.length_map, List.cons_append, List.nil_append, List.getElem?_cons_zero, List.getElem?_cons_succ, List.set_cons_zero, List.set_cons_succ, Option.some.injEq, exists_eq_left', List.replicate, Nat.reduceAdd, Nat.reduceSub, Nat.reduceMul, D.bl.injEq, D.int.injEq, D.hs.injEq, D.lst.injEq, D.ow.injEq, D.tup.injEq, List.cons.injEq, and_true, true_and, reduceCtorEq, Bool.not_true, Bool.not_false, false_implies, true_implies, forall_const, imp_self, Bool.false_eq_true, if_true, if_false, ↓reduceIte, Bool.true_eq_false, ty_ii, ty_bi, ty_li, ty_ti, ty_ib, ty_bb, ty_lb, ty_tb, ty_ll, ty_tl, ty_dl, okd_int, okd_bl, okd_lst, okd_hs, kin_hs, wipeD, Tg.st, setAll, exists_and_left, exists_eq_left, exists_eq', and_assoc, exists_and_right]
  rw [show (l : Int) + 1 = ((l + 1 : Nat) : Int) by omega, cutD_map (by omega) (by omega)]
  refine ⟨szl (by have := (cut_gb h h1 h2).rl; simpa using this), ?_⟩
  refine ⟨_, _, F_House_ok (cut_gb h h1 h2), ?_⟩
  exact End.plain (x' := []) (by simp) rfl (q)
theorem beh_gb {b r b' r' : List Int} {x : Int} (h : gb b r) (h' : gb b' r') (hx : 2 ≤ x ∧ x ≤ 100) (hl : b.length + b'.length < 20) : gb (b ++ [x] ++ b') (r ++ r') := by
  refine ⟨by simp; omega, by have := h.2.1; have := h'.2.1; simp; omega, fun y hy => ?_, fun y hy => ?_⟩
  · simp only [List.mem_append, List.mem_singleton] at hy
    rcases hy with (hy | rfl) | hy
    · exact h.2.2.1 y hy
    · exact hx
    · exact h'.2.2.1 y hy
  · rcases List.mem_append.mp hy with hy | hy
    · exact h.2.2.2 y hy
    · exact h'.2.2.2 y hy
theorem fw_set_behind (b r b' r' : List Int) (x : Int) (h : gb b r) (h' : gb b' r') (hx : 2 ≤ x ∧ x ≤ 100) (hl : b.length + b'.length < 20) (q : Q (.hs (b ++ [x] ++ b') (r ++ r')) c) : FW F_set_behind [.hs b r, .int x, .hs b' r'] c Q := by
  refine FW_runBx rfl ?_
  unfold b_set_behind
  try simp only [decide_true, decide_false, Bool.and_self, eq_self, W_loop0, WL_nil, true_or, or_true, or_false, W_seq, W_asg1, W_asgT, W_drop, W_ret, W_if, W_not, W_test, W_andV, W_notV, W_orV, W_andT, W_orT, W_bin, W_cons, W_nm, W_fn, W_fnK0, W_met, W_fld, W_pure, W_bind, W_isB, W_isLT, W_isH, W_add, W_sub, W_neg, W_ord, W_int, W_min, W_max, W_cat, W_part, W_sli, W_cutL, W_listL, W_listT, W_sumL, W_allL, W_itm, W_rng1, W_rng2, W_enu, W_zip', W_for, W_lc, W_app, W_sas, W_aug, W_par, W_lenL, W_lenT, W_lenS, W_iadd, W_isub, W_isBl, W_bit, Wa_newL, Wa_newT, Wa_newC, Wa_mul, Wa_div, Wa_mod, Wa_pow, Wa_ixL, Wa_ixT, Wa_ixC, Wa_lenC, Wa_mk, W_eqL, W_eqI, W_eqB, W_fail, W_cutS, W_cutC, startD, List.map_cons, List.map_nil, List.length_cons, List.length_nil, List.length_map, List.cons_append, List.nil_append, List.getElem?_cons_zero, List.getElem?_cons_succ, List.set_cons_zero, List.set_cons_succ, Option.some.injEq, exists_eq_left', List.replicate, Nat.reduceAdd, Nat.reduceSub, Nat.reduceMul, D.bl.injEq, D.int.injEq, D.hs.injEq, D.lst.injEq, D.ow.injEq, D.tup.injEq, List.cons.injEq, and_true, true_and, reduceCtorEq, Bool.not_true, Bool.not_false, false_implies, true_implies, forall_const, imp_self, Bool.false_eq_true, if_true, if_false, ↓reduceIte, Bool.true_eq_false, ty_ii, ty_bi, ty_li, ty_ti, ty_ib, ty_bb, ty_lb, ty_tb, ty_ll, ty_tl, ty_dl, okd_int, okd_bl, okd_lst, okd_hs, kin_hs, wipeD, Tg.st, setAll, exists_and_left, exists_eq_left, exists_eq', and_assoc, exists_and_right]
  refine fw_check_house b r ?_
  refine fw_base x ?_
  rw [decide_eq_true hx.1]
  try simp only [decide_true, decide_false, Bool.and_self, eq_self, W_loop0, WL_nil, true_or, or_true, or_false, W_seq, W_asg1, W_asgT, W_drop, W_ret, W_if, W_not, W_test, W_andV, W_notV, W_orV, W_andT, W_orT, W_bin, W_cons, W_nm, W_fn, W_fnK0, W_met, W_fld, W_pure, W_bind, W_isB, W_isLT, W_isH, W_add, W_sub, W_neg, W_ord, W_int, W_min, W_max, W_cat, W_part, W_sli, W_cutL, W_listL, W_listT, W_sumL, W_allL, W_itm, W_rng1, W_rng2, W_enu, W_zip', W_for, W_lc, W_app, W_sas, W_aug, W_par, W_lenL, W_lenT, W_lenS, W_iadd, W_isub, W_isBl, W_bit, Wa_newL, Wa_newT, Wa_newC, Wa_mul, Wa_div, Wa_mod, Wa_pow, Wa_ixL, Wa_ixT, Wa_ixC, Wa_lenC, Wa_mk, W_eqL, W_eqI, W_eqB, W_fail, W_cutS, W_cutC, startD, List.map_cons, List.map_nil, List.length_cons, List.length_nil, List.length_map, List.cons_append, List.nil_append, List.getElem?_cons_zero, List.getElem?_cons_succ, List.set_cons_zero, List.set_cons_succ, Option.some.injEq, exists_eq_left', List.replicate, Nat.reduceAdd, Nat.reduceSub, Nat.reduceMul, D.bl.injEq, D.int.injEq, D.hs.injEq, D.lst.injEq, D.ow.injEq, D.tup.injEq, List.cons.injEq, and_true, true_and, reduceCtorEq, Bool.not_true, Bool.not_false, false_implies, true_implies, forall_const, imp_self, Bool.false_eq_true, if_true, if_false, ↓reduceIte, Bool.true_eq_false, ty_ii, ty_bi, ty_li, ty_ti, ty_ib, ty_bb, ty_lb, ty_tb, ty_ll, ty_tl, ty_dl, okd_int, okd_bl, okd_lst, okd_hs, kin_hs, wipeD, Tg.st, setAll, exists_and_left, exists_eq_left, exists_eq', and_assoc, exists_and_right]
  refine fw_check_house b' r' ?_
  refine fw_House_bases b r h ?_
  try simp only [decide_true, decide_false, Bool.and_self, eq_self, W_loop0, WL_nil, true_or, or_true, or_false, W_seq, W_asg1, W_asgT, W_drop, W_ret, W_if, W_not, W_test, W_andV, W_notV, W_orV, W_andT, W_orT, W_bin, W_cons, W_nm, W_fn, W_fnK0, W_met, W_fld, W_pure, W_bind, W_isB, W_isLT, W_isH, W_add, W_sub, W_neg, W_ord, W_int, W_min, W_max, W_cat, W_part, W_sli, W_cutL, W_listL, W_listT, W_sumL, W_allL, W_itm, W_rng1, W_rng2, W_enu, W_zip', W_for, W_lc, W_app, W_sas, W_aug, W_par, W_lenL, W_lenT, W_lenS, W_iadd, W_isub, W_isBl, W_bit, Wa_newL, Wa_newT, Wa_newC, Wa_mul, Wa_div, Wa_mod, Wa_pow, Wa_ixL, Wa_ixT, Wa_ixC, Wa_lenC, Wa_mk, W_eqL, W_eqI, W_eqB, W_fail, W_cutS, W_cutC, startD, List.map_cons, List.map_nil, List.length_cons, List.length_nil, List.length_map, List.cons_append, List.nil_append, List.getElem?_cons_zero, List.getElem?_cons_succ, List.set_cons_zero, List.set_cons_succ, Option.some.injEq, exists_eq_left', List.replicate, Nat.reduceAdd, Nat.reduceSub, Nat.reduceMul, D.bl.injEq, D.int.injEq, D.hs.injEq, D.lst.injEq, D.ow.injEq, D.tup.injEq, List.cons.injEq, and_true, true_and, reduceCtorEq, Bool.not_true, Bool.not_false, false_implies, true_implies, forall_const, imp_self, Bool.false_eq_true, if_true, if_false, ↓reduceIte, Bool.true_eq_false, ty_ii, ty_bi, ty_li, ty_ti, ty_ib, ty_bb, ty_lb, ty_tb, ty_ll, ty_tl, ty_dl, okd_int, okd_bl, okd_lst, okd_hs, kin_hs, wipeD, Tg.st, setAll, exists_and_left, exists_eq_left, exists_eq', and_assoc, exists_and_right]
  refine ⟨szl (by decide), szl (by simp; omega), ?_⟩
  refine fw_House_bases b' r' h' ?_
  try simp only [decide_true, decide_false, Bool.and_self, eq_self, W_loop0, WL_nil, true_or, or_true, or_false, W_seq, W_asg1, W_asgT, W_drop, W_ret, W_if, W_not, W_test, W_andV, W_notV, W_orV, W_andT, W_orT, W_bin, W_cons, W_nm, W_fn, W_fnK0, W_met, W_fld, W_pure, W_bind, W_isB, W_isLT, W_isH, W_add, W_sub, W_neg, W_ord, W_int, W_min, W_max, W_cat, W_part, W_sli, W_cutL, W_listL, W_listT, W_sumL, W_allL, W_itm, W_rng1, W_rng2, W_enu, W_zip', W_for, W_lc, W_app, W_sas, W_aug, W_par, W_lenL, W_lenT, W_lenS, W_iadd, W_isub, W_isBl, W_bit, Wa_newL, Wa_newT, Wa_newC, Wa_mul, Wa_div, Wa_mod, Wa_pow, Wa_ixL, Wa_ixT, Wa_ixC, Wa_lenC, Wa_mk, W_eqL, W_eqI, W_eqB, W_fail, W_cutS, W_cutC, startD, List.map_cons, List.map_nil, List.length_cons, List.length_nil, List.length_map, List.cons_append, List.nil_append, List.getElem?_cons_zero, List.getElem?_cons_succ, List.set_cons_zero, List.set_cons_succ, Option.some.injEq, exists_eq_left', List.replicate, Nat.reduceAdd, Nat.reduceSub, Nat.reduceMul, D.bl.injEq, D.int.injEq, D.hs.injEq, D.lst.injEq, D.ow.injEq, D.tup.injEq, List.cons.injEq, and_true, true_and, reduceCtorEq, Bool.not_true, Bool.not_false, false_implies, true_implies, forall_const, imp_self, Bool.false_eq_true, if_true, if_false, ↓reduceIte, Bool.true_eq_false, ty_ii, ty_bi, ty_li, ty_ti, ty_ib, ty_bb, ty_lb, ty_tb, ty_ll, ty_tl, ty_dl, okd_int, okd_bl, okd_lst, okd_hs, kin_hs, wipeD, Tg.st, setAll, exists_and_left, exists_eq_left, exists_eq', and_assoc, exists_and_right]
  refine ⟨szl (by simp; omega), ?_⟩
  refine fw_House_rooms b r h ?_
  refine fw_House_rooms b' r' h' ?_
  try simp only [decide_true, decide_false, Bool.and_self, eq_self, W_loop0, WL_nil, true_or, or_true, or_false, W_seq, W_asg1, W_asgT, W_drop, W_ret, W_if, W_not, W_test, W_andV, W_notV, W_orV, W_andT, W_orT, W_bin, W_cons, W_nm, W_fn, W_fnK0, W_met, W_fld, W_pure, W_bind, W_isB, W_isLT, W_isH, W_add, W_sub, W_neg, W_ord, W_int, W_min, W_max, W_cat, W_part, W_sli, W_cutL, W_listL, W_listT, W_sumL, W_allL, W_itm, W_rng1, W_rng2, W_enu, W_zip', W_for, W_lc, W_app, W_sas, W_aug, W_par, W_lenL, W_lenT, W_lenS, W_iadd, W_isub, W_isBl, W_bit, Wa_newL, Wa_newT, Wa_newC, Wa_mul, Wa_div, Wa_mod, Wa_pow, Wa_ixL, Wa_ixT, Wa_ixC, Wa_lenC, Wa_mk, W_eqL, W_eqI, W_eqB, W_fail, W_cutS, W_cutC, startD, List.map_cons, List.map_nil, List.length_cons, List.length_nil, List.length_map, List.cons_append, List.nil_append, List.getElem?_cons_zero, List.getElem?_cons_succ, List.set_cons_zero, List.set_cons_succ, Option.some.injEq, exists_eq_left', List.replicate, Nat.reduceAdd, Nat.reduceSub, Nat.reduceMul, D.bl.injEq, D.int.injEq, D.hs.injEq, D.lst.injEq, D.ow.injEq, D.tup.injEq, List.cons.injEq, and_true, true_and, reduceCtorEq, Bool.not_true, Bool.not_false, false_implies, true_implies, forall_const, imp_self, Bool.false_eq_true, if_true, if_false, ↓reduceIte, Bool.true_eq_false, ty_ii, ty_bi, ty_li, ty_ti, ty_ib, ty_bb, ty_lb, ty_tb, ty_ll, ty_tl, ty_dl, okd_int, okd_bl, okd_lst, okd_hs, kin_hs, wipeD, Tg.st, setAll, exists_and_left, exists_eq_left, exists_eq', and_assoc, exists_and_right]
  have hr := h.2.1
  have hr' := h'.2.1
  refine ⟨szl (by simp; omega), b ++ [x] ++ b', r ++ r', ?_, ?_⟩
  · rw [← F_House_ok (c := c) (beh_gb h h' hx hl)]
    simp
  · exact End.plain (x' := []) (by simp) rfl (q)
theorem fw_tightened (b r : List Int) (h : gb b r) (p : Nat) (hp : p < b.length) (x y : Int) (hx : r[p]? = some x) (hy : b[p]? = some y) (q : Q (.hs b (r.set p (mn x (y - 1)))) c) : FW F_tightened [.hs b r, .int p] c Q := by
  refine FW_runBx rfl ?_
  unfold b_tightened
  try simp only [decide_true, decide_false, Bool.and_self, eq_self, W_loop0, WL_nil, true_or, or_true, or_false, W_seq, W_asg1, W_asgT, W_drop, W_ret, W_if, W_not, W_test, W_andV, W_notV, W_orV, W_andT, W_orT, W_bin, W_cons, W_nm, W_fn, W_fnK0, W_met, W_fld, W_pure, W_bind, W_isB, W_isLT, W_isH, W_add, W_sub, W_neg, W_ord, W_int, W_min, W_max, W_cat, W_part, W_sli, W_cutL, W_listL, W_listT, W_sumL, W_allL, W_itm, W_rng1, W_rng2, W_enu, W_zip', W_for, W_lc, W_app, W_sas, W_aug, W_par, W_lenL, W_lenT, W_lenS, W_iadd, W_isub, W_isBl, W_bit, Wa_newL, Wa_newT, Wa_newC, Wa_mul, Wa_div, Wa_mod, Wa_pow, Wa_ixL, Wa_ixT, Wa_ixC, Wa_lenC, Wa_mk, W_eqL, W_eqI, W_eqB, W_fail, W_cutS, W_cutC, startD, List.map_cons, List.map_nil, List.length_cons, List.length_nil, List.length_map, List.cons_append, List.nil_append, List.getElem?_cons_zero, List.getElem?_cons_succ, List.set_cons_zero, List.set_cons_succ, Option.some.injEq, exists_eq_left', List.replicate, Nat.reduceAdd, Nat.reduceSub, Nat.reduceMul, D.bl.injEq, D.int.injEq, D.hs.injEq, D.lst.injEq, D.ow.injEq, D.tup.injEq, List.cons.injEq, and_true, true_and, reduceCtorEq, Bool.not_true, Bool.not_false, false_implies, true_implies, forall_const, imp_self, Bool.false_eq_true, if_true, if_false, ↓reduceIte, Bool.true_eq_false, ty_ii, ty_bi, ty_li, ty_ti, ty_ib, ty_bb, ty_lb, ty_tb, ty_ll, ty_tl, ty_dl, okd_int, okd_bl, okd_lst, okd_hs, kin_hs, wipeD, Tg.st, setAll, exists_and_left, exists_eq_left, exists_eq', and_assoc, exists_and_right]
  refine fw_check_house b r ?_
  refine fw_House_places b r h ?_
  try simp only [decide_true, decide_false, Bool.and_self, eq_self, W_loop0, WL_nil, true_or, or_true, or_false, W_seq, W_asg1, W_asgT, W_drop, W_ret, W_if, W_not, W_test, W_andV, W_notV, W_orV, W_andT, W_orT, W_bin, W_cons, W_nm, W_fn, W_fnK0, W_met, W_fld, W_pure, W_bind, W_isB, W_isLT, W_isH, W_add, W_sub, W_neg, W_ord, W_int, W_min, W_max, W_cat, W_part, W_sli, W_cutL, W_listL, W_listT, W_sumL, W_allL, W_itm, W_rng1, W_rng2, W_enu, W_zip', W_for, W_lc, W_app, W_sas, W_aug, W_par, W_lenL, W_lenT, W_lenS, W_iadd, W_isub, W_isBl, W_bit, Wa_newL, Wa_newT, Wa_newC, Wa_mul, Wa_div, Wa_mod, Wa_pow, Wa_ixL, Wa_ixT, Wa_ixC, Wa_lenC, Wa_mk, W_eqL, W_eqI, W_eqB, W_fail, W_cutS, W_cutC, startD, List.map_cons, List.map_nil, List.length_cons, List.length_nil, List.length_map, List.cons_append, List.nil_append, List.getElem?_cons_zero, List.getElem?_cons_succ, List.set_cons_zero, List.set_cons_succ, Option.some.injEq, exists_eq_left', List.replicate, Nat.reduceAdd, Nat.reduceSub, Nat.reduceMul, D.bl.injEq, D.int.injEq, D.hs.injEq, D.lst.injEq, D.ow.injEq, D.tup.injEq, List.cons.injEq, and_true, true_and, reduceCtorEq, Bool.not_true, Bool.not_false, false_implies, true_implies, forall_const, imp_self, Bool.false_eq_true, if_true, if_false, ↓reduceIte, Bool.true_eq_false, ty_ii, ty_bi, ty_li, ty_ti, ty_ib, ty_bb, ty_lb, ty_tb, ty_ll, ty_tl, ty_dl, okd_int, okd_bl, okd_lst, okd_hs, kin_hs, wipeD, Tg.st, setAll, exists_and_left, exists_eq_left, exists_eq', and_assoc, exists_and_right]
  refine fw_below p _ ?_
  have hr := h.2.1
  rw [decide_eq_true (show (0 : Int) ≤ p by omega), decide_eq_true (show (p : Int) < (r.length : Int) - 1 by omega)]
  try simp only [decide_true, decide_false, Bool.and_self, eq_self, W_loop0, WL_nil, true_or, or_true, or_false, W_seq, W_asg1, W_asgT, W_drop, W_ret, W_if, W_not, W_test, W_andV, W_notV, W_orV, W_andT, W_orT, W_bin, W_cons, W_nm, W_fn, W_fnK0, W_met, W_fld, W_pure, W_bind, W_isB, W_isLT, W_isH, W_add, W_sub, W_neg, W_ord, W_int, W_min, W_max, W_cat, W_part, W_sli, W_cutL, W_listL, W_listT, W_sumL, W_allL, W_itm, W_rng1, W_rng2, W_enu, W_zip', W_for, W_lc, W_app, W_sas, W_aug, W_par, W_lenL, W_lenT, W_lenS, W_iadd, W_isub, W_isBl, W_bit, Wa_newL, Wa_newT, Wa_newC, Wa_mul, Wa_div, Wa_mod, Wa_pow, Wa_ixL, Wa_ixT, Wa_ixC, Wa_lenC, Wa_mk, W_eqL, W_eqI, W_eqB, W_fail, W_cutS, W_cutC, startD, List.map_cons, List.map_nil, List.length_cons, List.length_nil, List.length_map, List.cons_append, List.nil_append, List.getElem?_cons_zero, List.getElem?_cons_succ, List.set_cons_zero, List.set_cons_succ, Option.some.injEq, exists_eq_left', List.replicate, Nat.reduceAdd, Nat.reduceSub, Nat.reduceMul, D.bl.injEq, D.int.injEq, D.hs.injEq, D.lst.injEq, D.ow.injEq, D.tup.injEq, List.cons.injEq, and_true, true_and, reduceCtorEq, Bool.not_true, Bool.not_false, false_implies, true_implies, forall_const, imp_self, Bool.false_eq_true, if_true, if_false, ↓reduceIte, Bool.true_eq_false, ty_ii, ty_bi, ty_li, ty_ti, ty_ib, ty_bb, ty_lb, ty_tb, ty_ll, ty_tl, ty_dl, okd_int, okd_bl, okd_lst, okd_hs, kin_hs, wipeD, Tg.st, setAll, exists_and_left, exists_eq_left, exists_eq', and_assoc, exists_and_right]
  refine fw_House_rooms b r h ?_
  try simp only [decide_true, decide_false, Bool.and_self, eq_self, W_loop0, WL_nil, true_or, or_true, or_false, W_seq, W_asg1, W_asgT, W_drop, W_ret, W_if, W_not, W_test, W_andV, W_notV, W_orV, W_andT, W_orT, W_bin, W_cons, W_nm, W_fn, W_fnK0, W_met, W_fld, W_pure, W_bind, W_isB, W_isLT, W_isH, W_add, W_sub, W_neg, W_ord, W_int, W_min, W_max, W_cat, W_part, W_sli, W_cutL, W_listL, W_listT, W_sumL, W_allL, W_itm, W_rng1, W_rng2, W_enu, W_zip', W_for, W_lc, W_app, W_sas, W_aug, W_par, W_lenL, W_lenT, W_lenS, W_iadd, W_isub, W_isBl, W_bit, Wa_newL, Wa_newT, Wa_newC, Wa_mul, Wa_div, Wa_mod, Wa_pow, Wa_ixL, Wa_ixT, Wa_ixC, Wa_lenC, Wa_mk, W_eqL, W_eqI, W_eqB, W_fail, W_cutS, W_cutC, startD, List.map_cons, List.map_nil, List.length_cons, List.length_nil, List.length_map, List.cons_append, List.nil_append, List.getElem?_cons_zero, List.getElem?_cons_succ, List.set_cons_zero, List.set_cons_succ, Option.some.injEq, exists_eq_left', List.replicate, Nat.reduceAdd, Nat.reduceSub, Nat.reduceMul, D.bl.injEq, D.int.injEq, D.hs.injEq, D.lst.injEq, D.ow.injEq, D.tup.injEq, List.cons.injEq, and_true, true_and, reduceCtorEq, Bool.not_true, Bool.not_false, false_implies, true_implies, forall_const, imp_self, Bool.false_eq_true, if_true, if_false, ↓reduceIte, Bool.true_eq_false, ty_ii, ty_bi, ty_li, ty_ti, ty_ib, ty_bb, ty_lb, ty_tb, ty_ll, ty_tl, ty_dl, okd_int, okd_bl, okd_lst, okd_hs, kin_hs, wipeD, Tg.st, setAll, exists_and_left, exists_eq_left, exists_eq', and_assoc, exists_and_right]
  refine ⟨.int x, atI_nat (by simp [hx]), ?_⟩
  refine fw_House_bases b r h ?_
  try simp only [decide_true, decide_false, Bool.and_self, eq_self, W_loop0, WL_nil, true_or, or_true, or_false, W_seq, W_asg1, W_asgT, W_drop, W_ret, W_if, W_not, W_test, W_andV, W_notV, W_orV, W_andT, W_orT, W_bin, W_cons, W_nm, W_fn, W_fnK0, W_met, W_fld, W_pure, W_bind, W_isB, W_isLT, W_isH, W_add, W_sub, W_neg, W_ord, W_int, W_min, W_max, W_cat, W_part, W_sli, W_cutL, W_listL, W_listT, W_sumL, W_allL, W_itm, W_rng1, W_rng2, W_enu, W_zip', W_for, W_lc, W_app, W_sas, W_aug, W_par, W_lenL, W_lenT, W_lenS, W_iadd, W_isub, W_isBl, W_bit, Wa_newL, Wa_newT, Wa_newC, Wa_mul, Wa_div, Wa_mod, Wa_pow, Wa_ixL, Wa_ixT, Wa_ixC, Wa_lenC, Wa_mk, W_eqL, W_eqI, W_eqB, W_fail, W_cutS, W_cutC, startD, List.map_cons, List.map_nil, List.length_cons, List.length_nil, List.length_map, List.cons_append, List.nil_append, List.getElem?_cons_zero, List.getElem?_cons_succ, List.set_cons_zero, List.set_cons_succ, Option.some.injEq, exists_eq_left', List.replicate, Nat.reduceAdd, Nat.reduceSub, Nat.reduceMul, D.bl.injEq, D.int.injEq, D.hs.injEq, D.lst.injEq, D.ow.injEq, D.tup.injEq, List.cons.injEq, and_true, true_and, reduceCtorEq, Bool.not_true, Bool.not_false, false_implies, true_implies, forall_const, imp_self, Bool.false_eq_true, if_true, if_false, ↓reduceIte, Bool.true_eq_false, ty_ii, ty_bi, ty_li, ty_ti, ty_ib, ty_bb, ty_lb, ty_tb, ty_ll, ty_tl, ty_dl, okd_int, okd_bl, okd_lst, okd_hs, kin_hs, wipeD, Tg.st, setAll, exists_and_left, exists_eq_left, exists_eq', and_assoc, exists_and_right]
  refine ⟨.int y, atI_nat (by simp [hy]), ?_⟩
  try simp only [decide_true, decide_false, Bool.and_self, eq_self, W_loop0, WL_nil, true_or, or_true, or_false, W_seq, W_asg1, W_asgT, W_drop, W_ret, W_if, W_not, W_test, W_andV, W_notV, W_orV, W_andT, W_orT, W_bin, W_cons, W_nm, W_fn, W_fnK0, W_met, W_fld, W_pure, W_bind, W_isB, W_isLT, W_isH, W_add, W_sub, W_neg, W_ord, W_int, W_min, W_max, W_cat, W_part, W_sli, W_cutL, W_listL, W_listT, W_sumL, W_allL, W_itm, W_rng1, W_rng2, W_enu, W_zip', W_for, W_lc, W_app, W_sas, W_aug, W_par, W_lenL, W_lenT, W_lenS, W_iadd, W_isub, W_isBl, W_bit, Wa_newL, Wa_newT, Wa_newC, Wa_mul, Wa_div, Wa_mod, Wa_pow, Wa_ixL, Wa_ixT, Wa_ixC, Wa_lenC, Wa_mk, W_eqL, W_eqI, W_eqB, W_fail, W_cutS, W_cutC, startD, List.map_cons, List.map_nil, List.length_cons, List.length_nil, List.length_map, List.cons_append, List.nil_append, List.getElem?_cons_zero, List.getElem?_cons_succ, List.set_cons_zero, List.set_cons_succ, Option.some.injEq, exists_eq_left', List.replicate, Nat.reduceAdd, Nat.reduceSub, Nat.reduceMul, D.bl.injEq, D.int.injEq, D.hs.injEq, D.lst.injEq, D.ow.injEq, D.tup.injEq, List.cons.injEq, and_true, true_and, reduceCtorEq, Bool.not_true, Bool.not_false, false_implies, true_implies, forall_const, imp_self, Bool.false_eq_true, if_true, if_false, ↓reduceIte, Bool.true_eq_false, ty_ii, ty_bi, ty_li, ty_ti, ty_ib, ty_bb, ty_lb, ty_tb, ty_ll, ty_tl, ty_dl, okd_int, okd_bl, okd_lst, okd_hs, kin_hs, wipeD, Tg.st, setAll, exists_and_left, exists_eq_left, exists_eq', and_assoc, exists_and_right]
  have h1 := h.2.2.2 x (List.mem_of_getElem? hx)
  have h2 := h.2.2.1 y (List.mem_of_getElem? hy)
  refine fw_with_room b r h p (by omega) _ ?_ ?_
  · split <;> omega
  · exact End.plain (x' := []) (by simp) rfl (q)
end
end K4

/-! K4T: the law's own draws. -/
namespace K4
open PySem PySem.Spec PyProof.Rows L2 CD
section
variable {c : Cells} {Q : D → Cells → Prop}
/-- a purse: its counter at most t -/
def Pl (l : List Int) (t : Nat) : Prop := ∃ a s n p : Int, l = [a, s, n, p] ∧ 0 ≤ s ∧ s < 2 ^ 40 ∧ 0 ≤ n ∧ n ≤ t ∧ 0 ≤ p ∧ p < 2 ^ 20
def pz (l : List Int) : Option (List D) := some (l.map D.int)
theorem fw_purse_x (ns : List Int) (p : Nat) (hp : p < 2 ^ 20) (q : ∀ l, Pl l 0 → Q (.ow c.length) (c ++ [pz l])) : FW F__law_purse_x [.scr ns, .int p] c Q := by
  refine FW_runBx rfl ?_
  unfold b__law_purse
  try simp only [decide_true, decide_false, Bool.and_self, eq_self, W_loop0, WL_nil, true_or, or_true, or_false, W_seq, W_asg1, W_asgT, W_drop, W_ret, W_if, W_not, W_test, W_andV, W_notV, W_orV, W_andT, W_orT, W_bin, W_cons, W_nm, W_fn, W_fnK0, W_met, W_fld, W_pure, W_bind, W_isB, W_isLT, W_isH, W_add, W_sub, W_neg, W_ord, W_int, W_min, W_max, W_cat, W_part, W_sli, W_cutL, W_listL, W_listT, W_sumL, W_allL, W_itm, W_rng1, W_rng2, W_enu, W_zip', W_for, W_lc, W_app, W_sas, W_aug, W_par, W_lenL, W_lenT, W_lenS, W_iadd, W_isub, W_isBl, W_bit, Wa_newL, Wa_newT, Wa_newC, Wa_mul, Wa_div, Wa_mod, Wa_pow, Wa_ixL, Wa_ixT, Wa_ixC, Wa_lenC, Wa_mk, W_eqL, W_eqI, W_eqB, W_fail, W_cutS, W_cutC, startD, List.map_cons, List.map_nil, List.length_cons, List.length_nil, List.length_map, List.cons_append, List.nil_append, List.getElem?_cons_zero, List.getElem?_cons_succ, List.set_cons_zero, List.set_cons_succ, Option.some.injEq, exists_eq_left', List.replicate, Nat.reduceAdd, Nat.reduceSub, Nat.reduceMul, D.bl.injEq, D.int.injEq, D.hs.injEq, D.lst.injEq, D.ow.injEq, D.tup.injEq, List.cons.injEq, and_true, true_and, reduceCtorEq, Bool.not_true, Bool.not_false, false_implies, true_implies, forall_const, imp_self, Bool.false_eq_true, if_true, if_false, ↓reduceIte, Bool.true_eq_false, ty_ii, ty_bi, ty_li, ty_ti, ty_ib, ty_bb, ty_lb, ty_tb, ty_ll, ty_tl, ty_dl, okd_int, okd_bl, okd_lst, okd_hs, kin_hs, wipeD, Tg.st, setAll, exists_and_left, exists_eq_left, exists_eq', and_assoc, exists_and_right]
  have hc : ∃ xs : List Int, CD.cutD (ns.map D.int) (some (p : Int)) (some ((p : Int) + 1)) = xs.map D.int ∧ xs.length ≤ 1 := by
    refine ⟨(ns.drop (HT.sIx ns.length 0 (some (p : Int)))).take (HT.sIx ns.length ns.length (some ((p : Int) + 1)) - HT.sIx ns.length 0 (some (p : Int))), ?_, ?_⟩
    · unfold CD.cutD
      rw [List.length_map, List.map_take, List.map_drop]
    · rw [show (p : Int) + 1 = ((p + 1 : Nat) : Int) by omega, HT.sIx_nat, HT.sIx_nat]
      simp
      omega
  obtain ⟨xs, h1, h2⟩ := hc
  rw [h1]
  refine ⟨szl (by simp; omega), ?_⟩
  try simp only [decide_true, decide_false, Bool.and_self, eq_self, W_loop0, WL_nil, true_or, or_true, or_false, W_seq, W_asg1, W_asgT, W_drop, W_ret, W_if, W_not, W_test, W_andV, W_notV, W_orV, W_andT, W_orT, W_bin, W_cons, W_nm, W_fn, W_fnK0, W_met, W_fld, W_pure, W_bind, W_isB, W_isLT, W_isH, W_add, W_sub, W_neg, W_ord, W_int, W_min, W_max, W_cat, W_part, W_sli, W_cutL, W_listL, W_listT, W_sumL, W_allL, W_itm, W_rng1, W_rng2, W_enu, W_zip', W_for, W_lc, W_app, W_sas, W_aug, W_par, W_lenL, W_lenT, W_lenS, W_iadd, W_isub, W_isBl, W_bit, Wa_newL, Wa_newT, Wa_newC, Wa_mul, Wa_div, Wa_mod, Wa_pow, Wa_ixL, Wa_ixT, Wa_ixC, Wa_lenC, Wa_mk, W_eqL, W_eqI, W_eqB, W_fail, W_cutS, W_cutC, startD, List.map_cons, List.map_nil, List.length_cons, List.length_nil, List.length_map, List.cons_append, List.nil_append, List.getElem?_cons_zero, List.getElem?_cons_succ, List.set_cons_zero, List.set_cons_succ, Option.some.injEq, exists_eq_left', List.replicate, Nat.reduceAdd, Nat.reduceSub, Nat.reduceMul, D.bl.injEq, D.int.injEq, D.hs.injEq, D.lst.injEq, D.ow.injEq, D.tup.injEq, List.cons.injEq, and_true, true_and, reduceCtorEq, Bool.not_true, Bool.not_false, false_implies, true_implies, forall_const, imp_self, Bool.false_eq_true, if_true, if_false, ↓reduceIte, Bool.true_eq_false, ty_ii, ty_bi, ty_li, ty_ti, ty_ib, ty_bb, ty_lb, ty_tb, ty_ll, ty_tl, ty_dl, okd_int, okd_bl, okd_lst, okd_hs, kin_hs, wipeD, Tg.st, setAll, exists_and_left, exists_eq_left, exists_eq', and_assoc, exists_and_right]
  refine ⟨by decide, by decide +kernel, by decide, by decide +kernel, by decide, by decide +kernel, by decide +kernel, by decide, szl (by decide), ?_⟩
  have hq := fun a : Int => q [a, xs.sum % 2147483629, 0, (p : Int)] ⟨a, xs.sum % 2147483629, 0, p, rfl, Int.emod_nonneg _ (by decide), Int.lt_trans (Int.emod_lt_of_pos _ (by decide)) (by decide), by decide, by decide, by omega, by omega⟩
  refine ⟨_, [], .ow c.length, (List.append_nil _).symm, by simp, fun k hk => ?_, .inr ⟨_, rfl, ?_⟩, hq _⟩
  · by_cases hk' : k < c.length
    · exact .inl ⟨hk', by rw [List.getElem?_append_left hk']⟩
    · have e : k = c.length := by omega
      subst e
      exact .inr (.inr ⟨_, get_last _ _, rfl⟩)
  · rw [fz, if_pos (by omega)]
theorem fw_mixed (s n p : Int) (hs : 0 ≤ s) (hs' : s < 2 ^ 40) (hn : 0 ≤ n) (hn' : n < 2 ^ 20) (hp : 0 ≤ p) (hp' : p < 2 ^ 20) (q : ∀ i : Int, Q (.int i) c) : FW F__law_mixed [.int s, .int n, .int p] c Q := by
  refine FW_runBx rfl ?_
  unfold b__law_mixed
  try simp only [decide_true, decide_false, Bool.and_self, eq_self, W_loop0, WL_nil, true_or, or_true, or_false, W_seq, W_asg1, W_asgT, W_drop, W_ret, W_if, W_not, W_test, W_andV, W_notV, W_orV, W_andT, W_orT, W_bin, W_cons, W_nm, W_fn, W_fnK0, W_met, W_fld, W_pure, W_bind, W_isB, W_isLT, W_isH, W_add, W_sub, W_neg, W_ord, W_int, W_min, W_max, W_cat, W_part, W_sli, W_cutL, W_listL, W_listT, W_sumL, W_allL, W_itm, W_rng1, W_rng2, W_enu, W_zip', W_for, W_lc, W_app, W_sas, W_aug, W_par, W_lenL, W_lenT, W_lenS, W_iadd, W_isub, W_isBl, W_bit, Wa_newL, Wa_newT, Wa_newC, Wa_mul, Wa_div, Wa_mod, Wa_pow, Wa_ixL, Wa_ixT, Wa_ixC, Wa_lenC, Wa_mk, W_eqL, W_eqI, W_eqB, W_fail, W_cutS, W_cutC, startD, List.map_cons, List.map_nil, List.length_cons, List.length_nil, List.length_map, List.cons_append, List.nil_append, List.getElem?_cons_zero, List.getElem?_cons_succ, List.set_cons_zero, List.set_cons_succ, Option.some.injEq, exists_eq_left', List.replicate, Nat.reduceAdd, Nat.reduceSub, Nat.reduceMul, D.bl.injEq, D.int.injEq, D.hs.injEq, D.lst.injEq, D.ow.injEq, D.tup.injEq, List.cons.injEq, and_true, true_and, reduceCtorEq, Bool.not_true, Bool.not_false, false_implies, true_implies, forall_const, imp_self, Bool.false_eq_true, if_true, if_false, ↓reduceIte, Bool.true_eq_false, ty_ii, ty_bi, ty_li, ty_ti, ty_ib, ty_bb, ty_lb, ty_tb, ty_ll, ty_tl, ty_dl, okd_int, okd_bl, okd_lst, okd_hs, kin_hs, wipeD, Tg.st, setAll, exists_and_left, exists_eq_left, exists_eq', and_assoc, exists_and_right]
  have e1 := lg hs hs'
  have e2 := lg hn hn'
  have e3 := lg hp hp'
  have e4 := lg (k := 40) (x := 104729 * n) (by omega) (by omega)
  have k1 : (Int.natAbs 69069).log2 ≤ 20 := by decide +kernel
  have k2 : (Int.natAbs 104729).log2 ≤ 20 := by decide +kernel
  have k3 : (Int.natAbs 7919).log2 ≤ 20 := by decide +kernel
  have k4 : (Int.natAbs 48271).log2 ≤ 20 := by decide +kernel
  refine ⟨by omega, by omega, by omega, by omega, by decide, ?_⟩
  have m1 := fun x : Int => lg (k := 32) (Int.emod_nonneg x (b := 2147483647) (by decide)) (Int.lt_trans (Int.emod_lt_of_pos _ (by decide)) (by decide))
  have m2 := fun x : Int => lg (k := 32) (Int.emod_nonneg x (b := 2147483629) (by decide)) (Int.lt_trans (Int.emod_lt_of_pos _ (by decide)) (by decide))
  refine ⟨?_, by decide, ?_, by decide, ?_⟩
  · have := m1 (s * 69069 + 104729 * n * n + 7919 * p + n); omega
  · have := m2 ((s * 69069 + 104729 * n * n + 7919 * p + n) % 2147483647 * ((s * 69069 + 104729 * n * n + 7919 * p + n) % 2147483647) + 40503); omega
  · exact End.plain (x' := []) (by simp) rfl ((q _))

theorem get_set {c : Cells} {k : Nat} {x : Option (List D)} (h : k < c.length) : (c.set k x)[k]? = some x := by simp [h]
theorem keep_set {c : Cells} {k : Nat} (l : List Int) : Keep c.length c (c.set k (pz l)) := fun j hj => by
  by_cases h : k = j
  · subst h
    exact .inr (.inr ⟨_, get_set hj, lowL_ints _ _⟩)
  · exact .inl ⟨hj, by rw [List.getElem?_set_ne h]⟩
/-- the end of a function that changed the purse k alone -/
theorem end_set {c : Cells} {Q : D → Cells → Prop} {k : Nat} {l : List Int} {v d : D} {sl : List (Option D)} (x' : Cells) (h2 : fz c.length (c.set k (pz l) ++ x') 9 v = some d) (q : Q d (c.set k (pz l))) : End c (c.length + 0) Q (.rt v) ⟨sl, c.set k (pz l) ++ x'⟩ := ⟨c.set k (pz l), x', d, rfl, by simp, keep_set l, .inr ⟨v, rfl, h2⟩, q⟩
theorem end_set0 {c : Cells} {Q : D → Cells → Prop} {k : Nat} {l : List Int} {v d : D} {sl : List (Option D)} (h2 : fz c.length (c.set k (pz l)) 9 v = some d) (q : Q d (c.set k (pz l))) : End c (c.length + 0) Q (.rt v) ⟨sl, c.set k (pz l)⟩ := ⟨c.set k (pz l), [], d, by simp, by simp, keep_set l, .inr ⟨v, rfl, h2⟩, q⟩
theorem atI4 (a b e f : Int) : atI [D.int a, D.int b, D.int e, D.int f] 0 = some (.int a) ∧ atI [D.int a, D.int b, D.int e, D.int f] 1 = some (.int b) ∧ atI [D.int a, D.int b, D.int e, D.int f] 2 = some (.int e) ∧ atI [D.int a, D.int b, D.int e, D.int f] 3 = some (.int f) := ⟨rfl, rfl, rfl, rfl⟩
theorem bits_lt {m : Int} (h0 : 0 < m) (h : m ≤ 1000) : (Builtin.Int.intBits m : Int) / 28 = 0 := by
  have : Builtin.Int.intBits m ≤ 11 := by
    unfold Builtin.Int.intBits
    split
    · omega
    · have := lg (k := 10) (x := m) (by omega) (by omega); omega
  omega
theorem fw_draw (k : Nat) (l : List Int) (t : Nat) (hc : c[k]? = some (pz l)) (hl : Pl l t) (ht : t < 2 ^ 19) (m : Int) (h0 : 0 < m) (h1 : m ≤ 1000) (q : ∀ (i : Int) l', 0 ≤ i → i < m → Pl l' (t + 1) → Q (.int i) (c.set k (pz l'))) : FW F__law_draw [.ow k, .int m] c Q := by
  obtain ⟨a, s, n, p, rfl, hs, hs', hn, hn', hp, hp'⟩ := hl
  have hk : k < c.length := (List.getElem?_eq_some_iff.mp hc).1
  unfold pz at hc
  simp only [List.map_cons, List.map_nil] at hc
  refine FW_runBx rfl ?_
  unfold b__law_draw
  have x0 : ixN 4 0 = some 0 := rfl
  have x2 : ixN 4 2 = some 2 := rfl
  try simp only [hc, atI4, x0, x2, decide_true, decide_false, Bool.and_self, eq_self, W_loop0, WL_nil, true_or, or_true, or_false, W_seq, W_asg1, W_asgT, W_drop, W_ret, W_if, W_not, W_test, W_andV, W_notV, W_orV, W_andT, W_orT, W_bin, W_cons, W_nm, W_fn, W_fnK0, W_met, W_fld, W_pure, W_bind, W_isB, W_isLT, W_isH, W_add, W_sub, W_neg, W_ord, W_int, W_min, W_max, W_cat, W_part, W_sli, W_cutL, W_listL, W_listT, W_sumL, W_allL, W_itm, W_rng1, W_rng2, W_enu, W_zip', W_for, W_lc, W_app, W_sas, W_aug, W_par, W_lenL, W_lenT, W_lenS, W_iadd, W_isub, W_isBl, W_bit, Wa_newL, Wa_newT, Wa_newC, Wa_mul, Wa_div, Wa_mod, Wa_pow, Wa_ixL, Wa_ixT, Wa_ixC, Wa_lenC, Wa_mk, W_eqL, W_eqI, W_eqB, W_fail, W_cutS, W_cutC, startD, List.map_cons, List.map_nil, List.length_cons, List.length_nil, List.length_map, List.cons_append, List.nil_append, List.getElem?_cons_zero, List.getElem?_cons_succ, List.set_cons_zero, List.set_cons_succ, Option.some.injEq, exists_eq_left', List.replicate, Nat.reduceAdd, Nat.reduceSub, Nat.reduceMul, D.bl.injEq, D.int.injEq, D.hs.injEq, D.lst.injEq, D.ow.injEq, D.tup.injEq, List.cons.injEq, and_true, true_and, reduceCtorEq, Bool.not_true, Bool.not_false, false_implies, true_implies, forall_const, imp_self, Bool.false_eq_true, if_true, if_false, ↓reduceIte, Bool.true_eq_false, ty_ii, ty_bi, ty_li, ty_ti, ty_ib, ty_bb, ty_lb, ty_tb, ty_ll, ty_tl, ty_dl, okd_int, okd_bl, okd_lst, okd_hs, kin_hs, wipeD, Tg.st, setAll, exists_and_left, exists_eq_left, exists_eq', and_assoc, exists_and_right]
  refine ⟨fun ha => ?_, fun ha => ?_⟩
  · refine ⟨h0, ⟨h0, Nat.lt_of_le_of_lt (lg (k := 10) (x := m) (by omega) (by omega)) (by decide), ?_⟩⟩
    exact end_set0 (l := [a / m, s, n, p]) rfl (q (a % m) _ (Int.emod_nonneg _ (by omega)) (Int.emod_lt_of_pos _ h0) ⟨_, _, _, _, rfl, hs, hs', hn, by omega, hp, hp'⟩)
  · refine ⟨by decide, by decide +kernel, ?_⟩
    rw [bits_lt h0 h1]
    refine ⟨by decide, by decide, ?_⟩
    refine W_loop1 rfl ?_
    try simp only [hc, atI4, x0, x2, get_set hk, decide_true, decide_false, Bool.and_self, eq_self, W_loop0, WL_nil, true_or, or_true, or_false, W_seq, W_asg1, W_asgT, W_drop, W_ret, W_if, W_not, W_test, W_andV, W_notV, W_orV, W_andT, W_orT, W_bin, W_cons, W_nm, W_fn, W_fnK0, W_met, W_fld, W_pure, W_bind, W_isB, W_isLT, W_isH, W_add, W_sub, W_neg, W_ord, W_int, W_min, W_max, W_cat, W_part, W_sli, W_cutL, W_listL, W_listT, W_sumL, W_allL, W_itm, W_rng1, W_rng2, W_enu, W_zip', W_for, W_lc, W_app, W_sas, W_aug, W_par, W_lenL, W_lenT, W_lenS, W_iadd, W_isub, W_isBl, W_bit, Wa_newL, Wa_newT, Wa_newC, Wa_mul, Wa_div, Wa_mod, Wa_pow, Wa_ixL, Wa_ixT, Wa_ixC, Wa_lenC, Wa_mk, W_eqL, W_eqI, W_eqB, W_fail, W_cutS, W_cutC, startD, List.map_cons, List.map_nil, List.length_cons, List.length_nil, List.length_map, List.cons_append, List.nil_append, List.getElem?_cons_zero, List.getElem?_cons_succ, List.set_cons_zero, List.set_cons_succ, Option.some.injEq, exists_eq_left', List.replicate, Nat.reduceAdd, Nat.reduceSub, Nat.reduceMul, D.bl.injEq, D.int.injEq, D.hs.injEq, D.lst.injEq, D.ow.injEq, D.tup.injEq, List.cons.injEq, and_true, true_and, reduceCtorEq, Bool.not_true, Bool.not_false, false_implies, true_implies, forall_const, imp_self, Bool.false_eq_true, if_true, if_false, ↓reduceIte, Bool.true_eq_false, ty_ii, ty_bi, ty_li, ty_ti, ty_ib, ty_bb, ty_lb, ty_tb, ty_ll, ty_tl, ty_dl, okd_int, okd_bl, okd_lst, okd_hs, kin_hs, wipeD, Tg.st, setAll, exists_and_left, exists_eq_left, exists_eq', and_assoc, exists_and_right]
    refine ⟨by decide +kernel, ?_⟩
    refine fw_mixed s (n + 1) p hs hs' (by omega) (by omega) hp hp' fun i => ?_
    try simp only [hc, atI4, x0, x2, get_set hk, decide_true, decide_false, Bool.and_self, eq_self, W_loop0, WL_nil, true_or, or_true, or_false, W_seq, W_asg1, W_asgT, W_drop, W_ret, W_if, W_not, W_test, W_andV, W_notV, W_orV, W_andT, W_orT, W_bin, W_cons, W_nm, W_fn, W_fnK0, W_met, W_fld, W_pure, W_bind, W_isB, W_isLT, W_isH, W_add, W_sub, W_neg, W_ord, W_int, W_min, W_max, W_cat, W_part, W_sli, W_cutL, W_listL, W_listT, W_sumL, W_allL, W_itm, W_rng1, W_rng2, W_enu, W_zip', W_for, W_lc, W_app, W_sas, W_aug, W_par, W_lenL, W_lenT, W_lenS, W_iadd, W_isub, W_isBl, W_bit, Wa_newL, Wa_newT, Wa_newC, Wa_mul, Wa_div, Wa_mod, Wa_pow, Wa_ixL, Wa_ixT, Wa_ixC, Wa_lenC, Wa_mk, W_eqL, W_eqI, W_eqB, W_fail, W_cutS, W_cutC, startD, List.map_cons, List.map_nil, List.length_cons, List.length_nil, List.length_map, List.cons_append, List.nil_append, List.getElem?_cons_zero, List.getElem?_cons_succ, List.set_cons_zero, List.set_cons_succ, Option.some.injEq, exists_eq_left', List.replicate, Nat.reduceAdd, Nat.reduceSub, Nat.reduceMul, D.bl.injEq, D.int.injEq, D.hs.injEq, D.lst.injEq, D.ow.injEq, D.tup.injEq, List.cons.injEq, and_true, true_and, reduceCtorEq, Bool.not_true, Bool.not_false, false_implies, true_implies, forall_const, imp_self, Bool.false_eq_true, if_true, if_false, ↓reduceIte, Bool.true_eq_false, ty_ii, ty_bi, ty_li, ty_ti, ty_ib, ty_bb, ty_lb, ty_tb, ty_ll, ty_tl, ty_dl, okd_int, okd_bl, okd_lst, okd_hs, kin_hs, wipeD, Tg.st, setAll, exists_and_left, exists_eq_left, exists_eq', and_assoc, exists_and_right]
    refine ⟨h0, ?_⟩
    exact end_set0 (l := [a, s, n + 1, p]) rfl (q _ _ (Int.emod_nonneg _ (by omega)) (Int.emod_lt_of_pos _ h0) ⟨_, _, _, _, rfl, hs, hs', by omega, by omega, hp, hp'⟩)
theorem atI_mem {xs : List Int} {i : Int} (h0 : 0 ≤ i) (h : i < xs.length) : ∃ x ∈ xs, atI (xs.map D.int) i = some (.int x) := by
  obtain ⟨n, rfl⟩ := Int.eq_ofNat_of_zero_le h0
  have hn : n < xs.length := by exact_mod_cast h
  exact ⟨xs[n], List.getElem_mem _, atI_nat (by simp [hn])⟩
theorem fw_one_of (k : Nat) (l : List Int) (t : Nat) (hc : c[k]? = some (pz l)) (hl : Pl l t) (ht : t < 2 ^ 19) (xs : List Int) (h0 : 0 < xs.length) (h1 : xs.length ≤ 1000) (q : ∀ (x : Int) l', x ∈ xs → Pl l' (t + 1) → Q (.int x) (c.set k (pz l'))) : FW F__law_one_of [.ow k, .lst (xs.map D.int)] c Q := by
  refine FW_runBx rfl ?_
  unfold b__law_one_of
  try simp only [decide_true, decide_false, Bool.and_self, eq_self, W_loop0, WL_nil, true_or, or_true, or_false, W_seq, W_asg1, W_asgT, W_drop, W_ret, W_if, W_not, W_test, W_andV, W_notV, W_orV, W_andT, W_orT, W_bin, W_cons, W_nm, W_fn, W_fnK0, W_met, W_fld, W_pure, W_bind, W_isB, W_isLT, W_isH, W_add, W_sub, W_neg, W_ord, W_int, W_min, W_max, W_cat, W_part, W_sli, W_cutL, W_listL, W_listT, W_sumL, W_allL, W_itm, W_rng1, W_rng2, W_enu, W_zip', W_for, W_lc, W_app, W_sas, W_aug, W_par, W_lenL, W_lenT, W_lenS, W_iadd, W_isub, W_isBl, W_bit, Wa_newL, Wa_newT, Wa_newC, Wa_mul, Wa_div, Wa_mod, Wa_pow, Wa_ixL, Wa_ixT, Wa_ixC, Wa_lenC, Wa_mk, W_eqL, W_eqI, W_eqB, W_fail, W_cutS, W_cutC, startD, List.map_cons, List.map_nil, List.length_cons, List.length_nil, List.length_map, List.cons_append, List.nil_append, List.getElem?_cons_zero, List.getElem?_cons_succ, List.set_cons_zero, List.set_cons_succ, Option.some.injEq, exists_eq_left', List.replicate, Nat.reduceAdd, Nat.reduceSub, Nat.reduceMul, D.bl.injEq, D.int.injEq, D.hs.injEq, D.lst.injEq, D.ow.injEq, D.tup.injEq, List.cons.injEq, and_true, true_and, reduceCtorEq, Bool.not_true, Bool.not_false, false_implies, true_implies, forall_const, imp_self, Bool.false_eq_true, if_true, if_false, ↓reduceIte, Bool.true_eq_false, ty_ii, ty_bi, ty_li, ty_ti, ty_ib, ty_bb, ty_lb, ty_tb, ty_ll, ty_tl, ty_dl, okd_int, okd_bl, okd_lst, okd_hs, kin_hs, wipeD, Tg.st, setAll, exists_and_left, exists_eq_left, exists_eq', and_assoc, exists_and_right]
  refine fw_draw k l t hc hl ht _ (by omega) (by omega) fun i l' hi hi' hl' => ?_
  try simp only [decide_true, decide_false, Bool.and_self, eq_self, W_loop0, WL_nil, true_or, or_true, or_false, W_seq, W_asg1, W_asgT, W_drop, W_ret, W_if, W_not, W_test, W_andV, W_notV, W_orV, W_andT, W_orT, W_bin, W_cons, W_nm, W_fn, W_fnK0, W_met, W_fld, W_pure, W_bind, W_isB, W_isLT, W_isH, W_add, W_sub, W_neg, W_ord, W_int, W_min, W_max, W_cat, W_part, W_sli, W_cutL, W_listL, W_listT, W_sumL, W_allL, W_itm, W_rng1, W_rng2, W_enu, W_zip', W_for, W_lc, W_app, W_sas, W_aug, W_par, W_lenL, W_lenT, W_lenS, W_iadd, W_isub, W_isBl, W_bit, Wa_newL, Wa_newT, Wa_newC, Wa_mul, Wa_div, Wa_mod, Wa_pow, Wa_ixL, Wa_ixT, Wa_ixC, Wa_lenC, Wa_mk, W_eqL, W_eqI, W_eqB, W_fail, W_cutS, W_cutC, startD, List.map_cons, List.map_nil, List.length_cons, List.length_nil, List.length_map, List.cons_append, List.nil_append, List.getElem?_cons_zero, List.getElem?_cons_succ, List.set_cons_zero, List.set_cons_succ, Option.some.injEq, exists_eq_left', List.replicate, Nat.reduceAdd, Nat.reduceSub, Nat.reduceMul, D.bl.injEq, D.int.injEq, D.hs.injEq, D.lst.injEq, D.ow.injEq, D.tup.injEq, List.cons.injEq, and_true, true_and, reduceCtorEq, Bool.not_true, Bool.not_false, false_implies, true_implies, forall_const, imp_self, Bool.false_eq_true, if_true, if_false, ↓reduceIte, Bool.true_eq_false, ty_ii, ty_bi, ty_li, ty_ti, ty_ib, ty_bb, ty_lb, ty_tb, ty_ll, ty_tl, ty_dl, okd_int, okd_bl, okd_lst, okd_hs, kin_hs, wipeD, Tg.st, setAll, exists_and_left, exists_eq_left, exists_eq', and_assoc, exists_and_right]
  obtain ⟨x, hx, he⟩ := atI_mem hi hi'
  exact ⟨_, he, end_set0 rfl (q x l' hx hl')⟩
end
end K4

/-! K4U: the law's own reckoning. -/
namespace K4
open PySem PySem.Spec PyProof.Rows L2 CD
section
variable {c : Cells} {Q : D → Cells → Prop}
def hd (b r : List Int) : D := .lst [.lst (b.map D.int), .lst (r.map D.int)]
theorem at0 (a b : D) : atI [a, b] 0 = some a := rfl
theorem at1 (a b : D) : atI [a, b] 1 = some b := rfl
def IW' (b r : List Int) (c : Cells) (ds : List D) (e : En) : Prop := ∃ (pre ns : List Int) (w : Int) (x : Option D), ds = ns.map D.int ∧ e = ⟨[some (hd b r), some (.ow c.length), x], c ++ [some ((pre ++ [w]).map D.int)]⟩ ∧ pre ++ wts w ns = wts 1 b ∧ 0 ≤ w ∧ w ≤ 101 ^ pre.length ∧ pre.length + ns.length = b.length ∧ ∀ y ∈ ns, 2 ≤ y ∧ y ≤ 100
theorem fw_lweights (b r : List Int) (h : gb b r) (q : Q (.lst ((wts 1 b).map D.int)) c) : FW F__law_weights [hd b r] c Q := by
  refine FW_runBx rfl ?_
  unfold b__law_weights hd
  try simp only [at0, at1, decide_true, decide_false, Bool.and_self, eq_self, W_loop0, WL_nil, true_or, or_true, or_false, W_seq, W_asg1, W_asgT, W_drop, W_ret, W_if, W_not, W_test, W_andV, W_notV, W_orV, W_andT, W_orT, W_bin, W_cons, W_nm, W_fn, W_fnK0, W_met, W_fld, W_pure, W_bind, W_isB, W_isLT, W_isH, W_add, W_sub, W_neg, W_ord, W_int, W_min, W_max, W_cat, W_part, W_sli, W_cutL, W_listL, W_listT, W_sumL, W_allL, W_itm, W_rng1, W_rng2, W_enu, W_zip', W_for, W_lc, W_app, W_sas, W_aug, W_par, W_lenL, W_lenT, W_lenS, W_iadd, W_isub, W_isBl, W_bit, Wa_newL, Wa_newT, Wa_newC, Wa_mul, Wa_div, Wa_mod, Wa_pow, Wa_ixL, Wa_ixT, Wa_ixC, Wa_lenC, Wa_mk, W_eqL, W_eqI, W_eqB, W_fail, W_cutS, W_cutC, startD, List.map_cons, List.map_nil, List.length_cons, List.length_nil, List.length_map, List.cons_append, List.nil_append, List.getElem?_cons_zero, List.getElem?_cons_succ, List.set_cons_zero, List.set_cons_succ, Option.some.injEq, exists_eq_left', List.replicate, Nat.reduceAdd, Nat.reduceSub, Nat.reduceMul, D.bl.injEq, D.int.injEq, D.hs.injEq, D.lst.injEq, D.ow.injEq, D.tup.injEq, List.cons.injEq, and_true, true_and, reduceCtorEq, Bool.not_true, Bool.not_false, false_implies, true_implies, forall_const, imp_self, Bool.false_eq_true, if_true, if_false, ↓reduceIte, Bool.true_eq_false, ty_ii, ty_bi, ty_li, ty_ti, ty_ib, ty_bb, ty_lb, ty_tb, ty_ll, ty_tl, ty_dl, okd_int, okd_bl, okd_lst, okd_hs, kin_hs, wipeD, Tg.st, setAll, exists_and_left, exists_eq_left, exists_eq', and_assoc, exists_and_right]
  refine ⟨szl (by decide), ?_⟩
  refine W_loop (IW' b r c) _ _ (fun d ds e hI => ?_) ?_ (fun e hI => ?_)
  · obtain ⟨pre, ns, w, x, h1, rfl, h3, h4, h5, h6, h7⟩ := hI
    cases ns with
    | nil => cases h1
    | cons n ns =>
      rw [List.map_cons] at h1
      cases h1
      refine ⟨_, rfl, ?_⟩
      obtain ⟨hn1, hn2⟩ := h7 n (List.mem_cons_self ..)
      have hl := h.1
      simp only [List.length_cons] at h6
      have hw : w < 2 ^ 211 := by
        have := pw pre.length (by omega)
        calc w ≤ 101 ^ pre.length := h5
          _ ≤ 2 ^ 210 := this
          _ < 2 ^ 211 := by decide
      try simp only [decide_true, decide_false, Bool.and_self, eq_self, W_loop0, WL_nil, true_or, or_true, or_false, W_seq, W_asg1, W_asgT, W_drop, W_ret, W_if, W_not, W_test, W_andV, W_notV, W_orV, W_andT, W_orT, W_bin, W_cons, W_nm, W_fn, W_fnK0, W_met, W_fld, W_pure, W_bind, W_isB, W_isLT, W_isH, W_add, W_sub, W_neg, W_ord, W_int, W_min, W_max, W_cat, W_part, W_sli, W_cutL, W_listL, W_listT, W_sumL, W_allL, W_itm, W_rng1, W_rng2, W_enu, W_zip', W_for, W_lc, W_app, W_sas, W_aug, W_par, W_lenL, W_lenT, W_lenS, W_iadd, W_isub, W_isBl, W_bit, Wa_newL, Wa_newT, Wa_newC, Wa_mul, Wa_div, Wa_mod, Wa_pow, Wa_ixL, Wa_ixT, Wa_ixC, Wa_lenC, Wa_mk, W_eqL, W_eqI, W_eqB, W_fail, W_cutS, W_cutC, startD, List.map_cons, List.map_nil, List.length_cons, List.length_nil, List.length_map, List.cons_append, List.nil_append, List.getElem?_cons_zero, List.getElem?_cons_succ, List.set_cons_zero, List.set_cons_succ, Option.some.injEq, exists_eq_left', List.replicate, Nat.reduceAdd, Nat.reduceSub, Nat.reduceMul, D.bl.injEq, D.int.injEq, D.hs.injEq, D.lst.injEq, D.ow.injEq, D.tup.injEq, List.cons.injEq, and_true, true_and, reduceCtorEq, Bool.not_true, Bool.not_false, false_implies, true_implies, forall_const, imp_self, Bool.false_eq_true, if_true, if_false, ↓reduceIte, Bool.true_eq_false, ty_ii, ty_bi, ty_li, ty_ti, ty_ib, ty_bb, ty_lb, ty_tb, ty_ll, ty_tl, ty_dl, okd_int, okd_bl, okd_lst, okd_hs, kin_hs, wipeD, Tg.st, setAll, exists_and_left, exists_eq_left, exists_eq', and_assoc, exists_and_right]
      simp only [get_last, Option.some.injEq, exists_eq_left', atI_last]
      try simp only [decide_true, decide_false, Bool.and_self, eq_self, W_loop0, WL_nil, true_or, or_true, or_false, W_seq, W_asg1, W_asgT, W_drop, W_ret, W_if, W_not, W_test, W_andV, W_notV, W_orV, W_andT, W_orT, W_bin, W_cons, W_nm, W_fn, W_fnK0, W_met, W_fld, W_pure, W_bind, W_isB, W_isLT, W_isH, W_add, W_sub, W_neg, W_ord, W_int, W_min, W_max, W_cat, W_part, W_sli, W_cutL, W_listL, W_listT, W_sumL, W_allL, W_itm, W_rng1, W_rng2, W_enu, W_zip', W_for, W_lc, W_app, W_sas, W_aug, W_par, W_lenL, W_lenT, W_lenS, W_iadd, W_isub, W_isBl, W_bit, Wa_newL, Wa_newT, Wa_newC, Wa_mul, Wa_div, Wa_mod, Wa_pow, Wa_ixL, Wa_ixT, Wa_ixC, Wa_lenC, Wa_mk, W_eqL, W_eqI, W_eqB, W_fail, W_cutS, W_cutC, startD, List.map_cons, List.map_nil, List.length_cons, List.length_nil, List.length_map, List.cons_append, List.nil_append, List.getElem?_cons_zero, List.getElem?_cons_succ, List.set_cons_zero, List.set_cons_succ, Option.some.injEq, exists_eq_left', List.replicate, Nat.reduceAdd, Nat.reduceSub, Nat.reduceMul, D.bl.injEq, D.int.injEq, D.hs.injEq, D.lst.injEq, D.ow.injEq, D.tup.injEq, List.cons.injEq, and_true, true_and, reduceCtorEq, Bool.not_true, Bool.not_false, false_implies, true_implies, forall_const, imp_self, Bool.false_eq_true, if_true, if_false, ↓reduceIte, Bool.true_eq_false, ty_ii, ty_bi, ty_li, ty_ti, ty_ib, ty_bb, ty_lb, ty_tb, ty_ll, ty_tl, ty_dl, okd_int, okd_bl, okd_lst, okd_hs, kin_hs, wipeD, Tg.st, setAll, exists_and_left, exists_eq_left, exists_eq', and_assoc, exists_and_right]
      simp only [set_last, get_last, Option.some.injEq, exists_eq_left', atI_last]
      try simp only [decide_true, decide_false, Bool.and_self, eq_self, W_loop0, WL_nil, true_or, or_true, or_false, W_seq, W_asg1, W_asgT, W_drop, W_ret, W_if, W_not, W_test, W_andV, W_notV, W_orV, W_andT, W_orT, W_bin, W_cons, W_nm, W_fn, W_fnK0, W_met, W_fld, W_pure, W_bind, W_isB, W_isLT, W_isH, W_add, W_sub, W_neg, W_ord, W_int, W_min, W_max, W_cat, W_part, W_sli, W_cutL, W_listL, W_listT, W_sumL, W_allL, W_itm, W_rng1, W_rng2, W_enu, W_zip', W_for, W_lc, W_app, W_sas, W_aug, W_par, W_lenL, W_lenT, W_lenS, W_iadd, W_isub, W_isBl, W_bit, Wa_newL, Wa_newT, Wa_newC, Wa_mul, Wa_div, Wa_mod, Wa_pow, Wa_ixL, Wa_ixT, Wa_ixC, Wa_lenC, Wa_mk, W_eqL, W_eqI, W_eqB, W_fail, W_cutS, W_cutC, startD, List.map_cons, List.map_nil, List.length_cons, List.length_nil, List.length_map, List.cons_append, List.nil_append, List.getElem?_cons_zero, List.getElem?_cons_succ, List.set_cons_zero, List.set_cons_succ, Option.some.injEq, exists_eq_left', List.replicate, Nat.reduceAdd, Nat.reduceSub, Nat.reduceMul, D.bl.injEq, D.int.injEq, D.hs.injEq, D.lst.injEq, D.ow.injEq, D.tup.injEq, List.cons.injEq, and_true, true_and, reduceCtorEq, Bool.not_true, Bool.not_false, false_implies, true_implies, forall_const, imp_self, Bool.false_eq_true, if_true, if_false, ↓reduceIte, Bool.true_eq_false, ty_ii, ty_bi, ty_li, ty_ti, ty_ib, ty_bb, ty_lb, ty_tb, ty_ll, ty_tl, ty_dl, okd_int, okd_bl, okd_lst, okd_hs, kin_hs, wipeD, Tg.st, setAll, exists_and_left, exists_eq_left, exists_eq', and_assoc, exists_and_right]
      have e1 := lg h4 hw
      have e2 := lg (k := 7) (x := n) (by omega) (by omega)
      refine ⟨by omega, szl (by simp; omega), pre ++ [w], ns, w * n, some (.int n), rfl, by simp [hd], by simp [← h3, wts], Int.mul_nonneg h4 (by omega), ?_, by simp; omega, fun y hy => h7 y (List.mem_cons_of_mem _ hy)⟩
      rw [List.length_append, List.length_singleton, Int.pow_succ]
      exact Int.mul_le_mul h5 (by omega) (by omega) (Int.pow_nonneg (by decide))
  · exact ⟨[], b, 1, _, rfl, rfl, rfl, by decide, by decide, by simp, h.2.2.1⟩
  · obtain ⟨pre, ns, w, x, h1, rfl, h3, h4, h5, h6, h7⟩ := hI
    have e : ns = [] := by cases ns with | nil => rfl | cons => cases h1
    subst e
    try simp only [decide_true, decide_false, Bool.and_self, eq_self, W_loop0, WL_nil, true_or, or_true, or_false, W_seq, W_asg1, W_asgT, W_drop, W_ret, W_if, W_not, W_test, W_andV, W_notV, W_orV, W_andT, W_orT, W_bin, W_cons, W_nm, W_fn, W_fnK0, W_met, W_fld, W_pure, W_bind, W_isB, W_isLT, W_isH, W_add, W_sub, W_neg, W_ord, W_int, W_min, W_max, W_cat, W_part, W_sli, W_cutL, W_listL, W_listT, W_sumL, W_allL, W_itm, W_rng1, W_rng2, W_enu, W_zip', W_for, W_lc, W_app, W_sas, W_aug, W_par, W_lenL, W_lenT, W_lenS, W_iadd, W_isub, W_isBl, W_bit, Wa_newL, Wa_newT, Wa_newC, Wa_mul, Wa_div, Wa_mod, Wa_pow, Wa_ixL, Wa_ixT, Wa_ixC, Wa_lenC, Wa_mk, W_eqL, W_eqI, W_eqB, W_fail, W_cutS, W_cutC, startD, List.map_cons, List.map_nil, List.length_cons, List.length_nil, List.length_map, List.cons_append, List.nil_append, List.getElem?_cons_zero, List.getElem?_cons_succ, List.set_cons_zero, List.set_cons_succ, Option.some.injEq, exists_eq_left', List.replicate, Nat.reduceAdd, Nat.reduceSub, Nat.reduceMul, D.bl.injEq, D.int.injEq, D.hs.injEq, D.lst.injEq, D.ow.injEq, D.tup.injEq, List.cons.injEq, and_true, true_and, reduceCtorEq, Bool.not_true, Bool.not_false, false_implies, true_implies, forall_const, imp_self, Bool.false_eq_true, if_true, if_false, ↓reduceIte, Bool.true_eq_false, ty_ii, ty_bi, ty_li, ty_ti, ty_ib, ty_bb, ty_lb, ty_tb, ty_ll, ty_tl, ty_dl, okd_int, okd_bl, okd_lst, okd_hs, kin_hs, wipeD, Tg.st, setAll, exists_and_left, exists_eq_left, exists_eq', and_assoc, exists_and_right]
    simp only [wts] at h3
    rw [← h3] at q
    exact fin_new _ q
def IM' (b r : List Int) (c : Cells) (ds : List D) (e : En) : Prop := ∃ (rs : List Int) (m : Int) (k : Nat) (x : Option D), ds = rs.map D.int ∧ e = ⟨[some (hd b r), some (.int m), x], c⟩ ∧ mny m rs = mny 1 r ∧ 0 ≤ m ∧ m ≤ 101 ^ k ∧ k + rs.length ≤ 30 ∧ (∀ y ∈ rs, 0 ≤ y ∧ y ≤ 100)
theorem fw_lmany (b r : List Int) (h : gb b r) (q : Q (.int (mny 1 r)) c) : FW F__law_many_rows [hd b r] c Q := by
  refine FW_runBx rfl ?_
  unfold b__law_many_rows hd
  try simp only [at0, at1, decide_true, decide_false, Bool.and_self, eq_self, W_loop0, WL_nil, true_or, or_true, or_false, W_seq, W_asg1, W_asgT, W_drop, W_ret, W_if, W_not, W_test, W_andV, W_notV, W_orV, W_andT, W_orT, W_bin, W_cons, W_nm, W_fn, W_fnK0, W_met, W_fld, W_pure, W_bind, W_isB, W_isLT, W_isH, W_add, W_sub, W_neg, W_ord, W_int, W_min, W_max, W_cat, W_part, W_sli, W_cutL, W_listL, W_listT, W_sumL, W_allL, W_itm, W_rng1, W_rng2, W_enu, W_zip', W_for, W_lc, W_app, W_sas, W_aug, W_par, W_lenL, W_lenT, W_lenS, W_iadd, W_isub, W_isBl, W_bit, Wa_newL, Wa_newT, Wa_newC, Wa_mul, Wa_div, Wa_mod, Wa_pow, Wa_ixL, Wa_ixT, Wa_ixC, Wa_lenC, Wa_mk, W_eqL, W_eqI, W_eqB, W_fail, W_cutS, W_cutC, startD, List.map_cons, List.map_nil, List.length_cons, List.length_nil, List.length_map, List.cons_append, List.nil_append, List.getElem?_cons_zero, List.getElem?_cons_succ, List.set_cons_zero, List.set_cons_succ, Option.some.injEq, exists_eq_left', List.replicate, Nat.reduceAdd, Nat.reduceSub, Nat.reduceMul, D.bl.injEq, D.int.injEq, D.hs.injEq, D.lst.injEq, D.ow.injEq, D.tup.injEq, List.cons.injEq, and_true, true_and, reduceCtorEq, Bool.not_true, Bool.not_false, false_implies, true_implies, forall_const, imp_self, Bool.false_eq_true, if_true, if_false, ↓reduceIte, Bool.true_eq_false, ty_ii, ty_bi, ty_li, ty_ti, ty_ib, ty_bb, ty_lb, ty_tb, ty_ll, ty_tl, ty_dl, okd_int, okd_bl, okd_lst, okd_hs, kin_hs, wipeD, Tg.st, setAll, exists_and_left, exists_eq_left, exists_eq', and_assoc, exists_and_right]
  refine W_loop (IM' b r c) _ _ (fun d ds e hI => ?_) ?_ (fun e hI => ?_)
  · obtain ⟨rs, m, k, x, h1, rfl, h3, h4, h5, h6, h7⟩ := hI
    cases rs with
    | nil => cases h1
    | cons a rs =>
      rw [List.map_cons] at h1
      cases h1
      refine ⟨_, rfl, ?_⟩
      obtain ⟨a1, a2⟩ := h7 a (List.mem_cons_self ..)
      simp only [List.length_cons] at h6
      have e1 := lg (k := 211) h4 (Int.lt_of_le_of_lt (Int.le_trans h5 (pw k (by omega))) (by decide))
      have e2 := lg (k := 7) (x := a + 1) (by omega) (by omega)
      try simp only [decide_true, decide_false, Bool.and_self, eq_self, W_loop0, WL_nil, true_or, or_true, or_false, W_seq, W_asg1, W_asgT, W_drop, W_ret, W_if, W_not, W_test, W_andV, W_notV, W_orV, W_andT, W_orT, W_bin, W_cons, W_nm, W_fn, W_fnK0, W_met, W_fld, W_pure, W_bind, W_isB, W_isLT, W_isH, W_add, W_sub, W_neg, W_ord, W_int, W_min, W_max, W_cat, W_part, W_sli, W_cutL, W_listL, W_listT, W_sumL, W_allL, W_itm, W_rng1, W_rng2, W_enu, W_zip', W_for, W_lc, W_app, W_sas, W_aug, W_par, W_lenL, W_lenT, W_lenS, W_iadd, W_isub, W_isBl, W_bit, Wa_newL, Wa_newT, Wa_newC, Wa_mul, Wa_div, Wa_mod, Wa_pow, Wa_ixL, Wa_ixT, Wa_ixC, Wa_lenC, Wa_mk, W_eqL, W_eqI, W_eqB, W_fail, W_cutS, W_cutC, startD, List.map_cons, List.map_nil, List.length_cons, List.length_nil, List.length_map, List.cons_append, List.nil_append, List.getElem?_cons_zero, List.getElem?_cons_succ, List.set_cons_zero, List.set_cons_succ, Option.some.injEq, exists_eq_left', List.replicate, Nat.reduceAdd, Nat.reduceSub, Nat.reduceMul, D.bl.injEq, D.int.injEq, D.hs.injEq, D.lst.injEq, D.ow.injEq, D.tup.injEq, List.cons.injEq, and_true, true_and, reduceCtorEq, Bool.not_true, Bool.not_false, false_implies, true_implies, forall_const, imp_self, Bool.false_eq_true, if_true, if_false, ↓reduceIte, Bool.true_eq_false, ty_ii, ty_bi, ty_li, ty_ti, ty_ib, ty_bb, ty_lb, ty_tb, ty_ll, ty_tl, ty_dl, okd_int, okd_bl, okd_lst, okd_hs, kin_hs, wipeD, Tg.st, setAll, exists_and_left, exists_eq_left, exists_eq', and_assoc, exists_and_right]
      refine ⟨by omega, rs, m * (a + 1), k + 1, some (.int a), rfl, rfl, h3, Int.mul_nonneg h4 (by omega), ?_, by omega, fun y hy => h7 y (List.mem_cons_of_mem _ hy)⟩
      rw [Int.pow_succ]
      exact Int.mul_le_mul h5 (by omega) (by omega) (Int.pow_nonneg (by decide))
  · exact ⟨r, 1, 0, _, rfl, rfl, rfl, by decide, by decide, by have := h.1; have := h.2.1; omega, h.2.2.2⟩
  · obtain ⟨rs, m, k, x, h1, rfl, h3, h4, h5, h6, h7⟩ := hI
    have e : rs = [] := by cases rs with | nil => rfl | cons => cases h1
    subst e
    try simp only [decide_true, decide_false, Bool.and_self, eq_self, W_loop0, WL_nil, true_or, or_true, or_false, W_seq, W_asg1, W_asgT, W_drop, W_ret, W_if, W_not, W_test, W_andV, W_notV, W_orV, W_andT, W_orT, W_bin, W_cons, W_nm, W_fn, W_fnK0, W_met, W_fld, W_pure, W_bind, W_isB, W_isLT, W_isH, W_add, W_sub, W_neg, W_ord, W_int, W_min, W_max, W_cat, W_part, W_sli, W_cutL, W_listL, W_listT, W_sumL, W_allL, W_itm, W_rng1, W_rng2, W_enu, W_zip', W_for, W_lc, W_app, W_sas, W_aug, W_par, W_lenL, W_lenT, W_lenS, W_iadd, W_isub, W_isBl, W_bit, Wa_newL, Wa_newT, Wa_newC, Wa_mul, Wa_div, Wa_mod, Wa_pow, Wa_ixL, Wa_ixT, Wa_ixC, Wa_lenC, Wa_mk, W_eqL, W_eqI, W_eqB, W_fail, W_cutS, W_cutC, startD, List.map_cons, List.map_nil, List.length_cons, List.length_nil, List.length_map, List.cons_append, List.nil_append, List.getElem?_cons_zero, List.getElem?_cons_succ, List.set_cons_zero, List.set_cons_succ, Option.some.injEq, exists_eq_left', List.replicate, Nat.reduceAdd, Nat.reduceSub, Nat.reduceMul, D.bl.injEq, D.int.injEq, D.hs.injEq, D.lst.injEq, D.ow.injEq, D.tup.injEq, List.cons.injEq, and_true, true_and, reduceCtorEq, Bool.not_true, Bool.not_false, false_implies, true_implies, forall_const, imp_self, Bool.false_eq_true, if_true, if_false, ↓reduceIte, Bool.true_eq_false, ty_ii, ty_bi, ty_li, ty_ti, ty_ib, ty_bb, ty_lb, ty_tb, ty_ll, ty_tl, ty_dl, okd_int, okd_bl, okd_lst, okd_hs, kin_hs, wipeD, Tg.st, setAll, exists_and_left, exists_eq_left, exists_eq', and_assoc, exists_and_right]
    rw [← h3] at q
    exact End.plain (x' := []) (by simp) rfl (q)
theorem fw_made (b r : List Int) (h : gb b r) (q : Q (.hs b r) c) : FW F__law_made [hd b r] c Q := by
  refine FW_runBx rfl ?_
  unfold b__law_made hd
  try simp only [at0, at1, decide_true, decide_false, Bool.and_self, eq_self, W_loop0, WL_nil, true_or, or_true, or_false, W_seq, W_asg1, W_asgT, W_drop, W_ret, W_if, W_not, W_test, W_andV, W_notV, W_orV, W_andT, W_orT, W_bin, W_cons, W_nm, W_fn, W_fnK0, W_met, W_fld, W_pure, W_bind, W_isB, W_isLT, W_isH, W_add, W_sub, W_neg, W_ord, W_int, W_min, W_max, W_cat, W_part, W_sli, W_cutL, W_listL, W_listT, W_sumL, W_allL, W_itm, W_rng1, W_rng2, W_enu, W_zip', W_for, W_lc, W_app, W_sas, W_aug, W_par, W_lenL, W_lenT, W_lenS, W_iadd, W_isub, W_isBl, W_bit, Wa_newL, Wa_newT, Wa_newC, Wa_mul, Wa_div, Wa_mod, Wa_pow, Wa_ixL, Wa_ixT, Wa_ixC, Wa_lenC, Wa_mk, W_eqL, W_eqI, W_eqB, W_fail, W_cutS, W_cutC, startD, List.map_cons, List.map_nil, List.length_cons, List.length_nil, List.length_map, List.cons_append, List.nil_append, List.getElem?_cons_zero, List.getElem?_cons_succ, List.set_cons_zero, List.set_cons_succ, Option.some.injEq, exists_eq_left', List.replicate, Nat.reduceAdd, Nat.reduceSub, Nat.reduceMul, D.bl.injEq, D.int.injEq, D.hs.injEq, D.lst.injEq, D.ow.injEq, D.tup.injEq, List.cons.injEq, and_true, true_and, reduceCtorEq, Bool.not_true, Bool.not_false, false_implies, true_implies, forall_const, imp_self, Bool.false_eq_true, if_true, if_false, ↓reduceIte, Bool.true_eq_false, ty_ii, ty_bi, ty_li, ty_ti, ty_ib, ty_bb, ty_lb, ty_tb, ty_ll, ty_tl, ty_dl, okd_int, okd_bl, okd_lst, okd_hs, kin_hs, wipeD, Tg.st, setAll, exists_and_left, exists_eq_left, exists_eq', and_assoc, exists_and_right]
  refine ⟨szl h.bl, szl h.rl, b, r, F_House_ok h, ?_⟩
  exact End.plain (x' := []) (by simp) rfl (q)
/-! ### the same data -/
def okX : Nat → D → Prop
  | n + 1, .lst ds => ds.length ≤ 1000 ∧ ∀ d ∈ ds, okX n d
  | _ + 1, .int _ => True
  | _ + 1, .bl _ => True
  | _, _ => False
theorem zip_self {d : D} : ∀ {ds : List D}, d ∈ zipD ds ds → ∃ x ∈ ds, d = .tup [x, x]
  | [], h => by simp [zipD] at h
  | a :: ds, h => by
    simp only [zipD, List.mem_cons] at h
    rcases h with rfl | h
    · exact ⟨a, by simp, rfl⟩
    · obtain ⟨x, h1, h2⟩ := zip_self h
      exact ⟨x, by simp [h1], h2⟩
theorem zip_len (ds : List D) : (zipD ds ds).length = ds.length := by
  induction ds with
  | nil => rfl
  | cons a ds ih => simp [zipD, ih]
theorem fw_exact : ∀ (n : Nat) (d : D) (c : Cells) (Q : D → Cells → Prop), okX n d → Q (.bl true) c → FW (F__law_exact n) [d, d] c Q
  | 0, d, _, _, h, _ => by cases d <;> exact h.elim
  | n + 1, d, c, Q, h, q => by
    unfold F__law_exact
    refine FW_runBx rfl ?_
    unfold b__law_exact
    cases d with
    | int i =>
      try simp only [decide_true, decide_false, Bool.and_self, eq_self, W_loop0, WL_nil, true_or, or_true, or_false, W_seq, W_asg1, W_asgT, W_drop, W_ret, W_if, W_not, W_test, W_andV, W_notV, W_orV, W_andT, W_orT, W_bin, W_cons, W_nm, W_fn, W_fnK0, W_met, W_fld, W_pure, W_bind, W_isB, W_isLT, W_isH, W_add, W_sub, W_neg, W_ord, W_int, W_min, W_max, W_cat, W_part, W_sli, W_cutL, W_listL, W_listT, W_sumL, W_allL, W_itm, W_rng1, W_rng2, W_enu, W_zip', W_for, W_lc, W_app, W_sas, W_aug, W_par, W_lenL, W_lenT, W_lenS, W_iadd, W_isub, W_isBl, W_bit, Wa_newL, Wa_newT, Wa_newC, Wa_mul, Wa_div, Wa_mod, Wa_pow, Wa_ixL, Wa_ixT, Wa_ixC, Wa_lenC, Wa_mk, W_eqL, W_eqI, W_eqB, W_fail, W_cutS, W_cutC, startD, List.map_cons, List.map_nil, List.length_cons, List.length_nil, List.length_map, List.cons_append, List.nil_append, List.getElem?_cons_zero, List.getElem?_cons_succ, List.set_cons_zero, List.set_cons_succ, Option.some.injEq, exists_eq_left', List.replicate, Nat.reduceAdd, Nat.reduceSub, Nat.reduceMul, D.bl.injEq, D.int.injEq, D.hs.injEq, D.lst.injEq, D.ow.injEq, D.tup.injEq, List.cons.injEq, and_true, true_and, reduceCtorEq, Bool.not_true, Bool.not_false, false_implies, true_implies, forall_const, imp_self, Bool.false_eq_true, if_true, if_false, ↓reduceIte, Bool.true_eq_false, ty_ii, ty_bi, ty_li, ty_ti, ty_ib, ty_bb, ty_lb, ty_tb, ty_ll, ty_tl, ty_dl, okd_int, okd_bl, okd_lst, okd_hs, kin_hs, wipeD, Tg.st, setAll, exists_and_left, exists_eq_left, exists_eq', and_assoc, exists_and_right]
      simp only [Bool.or_self, decide_true]
      try simp only [decide_true, decide_false, Bool.and_self, eq_self, W_loop0, WL_nil, true_or, or_true, or_false, W_seq, W_asg1, W_asgT, W_drop, W_ret, W_if, W_not, W_test, W_andV, W_notV, W_orV, W_andT, W_orT, W_bin, W_cons, W_nm, W_fn, W_fnK0, W_met, W_fld, W_pure, W_bind, W_isB, W_isLT, W_isH, W_add, W_sub, W_neg, W_ord, W_int, W_min, W_max, W_cat, W_part, W_sli, W_cutL, W_listL, W_listT, W_sumL, W_allL, W_itm, W_rng1, W_rng2, W_enu, W_zip', W_for, W_lc, W_app, W_sas, W_aug, W_par, W_lenL, W_lenT, W_lenS, W_iadd, W_isub, W_isBl, W_bit, Wa_newL, Wa_newT, Wa_newC, Wa_mul, Wa_div, Wa_mod, Wa_pow, Wa_ixL, Wa_ixT, Wa_ixC, Wa_lenC, Wa_mk, W_eqL, W_eqI, W_eqB, W_fail, W_cutS, W_cutC, startD, List.map_cons, List.map_nil, List.length_cons, List.length_nil, List.length_map, List.cons_append, List.nil_append, List.getElem?_cons_zero, List.getElem?_cons_succ, List.set_cons_zero, List.set_cons_succ, Option.some.injEq, exists_eq_left', List.replicate, Nat.reduceAdd, Nat.reduceSub, Nat.reduceMul, D.bl.injEq, D.int.injEq, D.hs.injEq, D.lst.injEq, D.ow.injEq, D.tup.injEq, List.cons.injEq, and_true, true_and, reduceCtorEq, Bool.not_true, Bool.not_false, false_implies, true_implies, forall_const, imp_self, Bool.false_eq_true, if_true, if_false, ↓reduceIte, Bool.true_eq_false, ty_ii, ty_bi, ty_li, ty_ti, ty_ib, ty_bb, ty_lb, ty_tb, ty_ll, ty_tl, ty_dl, okd_int, okd_bl, okd_lst, okd_hs, kin_hs, wipeD, Tg.st, setAll, exists_and_left, exists_eq_left, exists_eq', and_assoc, exists_and_right]
      exact End.plain (x' := []) (by simp) rfl (q)
    | bl i =>
      try simp only [decide_true, decide_false, Bool.and_self, eq_self, W_loop0, WL_nil, true_or, or_true, or_false, W_seq, W_asg1, W_asgT, W_drop, W_ret, W_if, W_not, W_test, W_andV, W_notV, W_orV, W_andT, W_orT, W_bin, W_cons, W_nm, W_fn, W_fnK0, W_met, W_fld, W_pure, W_bind, W_isB, W_isLT, W_isH, W_add, W_sub, W_neg, W_ord, W_int, W_min, W_max, W_cat, W_part, W_sli, W_cutL, W_listL, W_listT, W_sumL, W_allL, W_itm, W_rng1, W_rng2, W_enu, W_zip', W_for, W_lc, W_app, W_sas, W_aug, W_par, W_lenL, W_lenT, W_lenS, W_iadd, W_isub, W_isBl, W_bit, Wa_newL, Wa_newT, Wa_newC, Wa_mul, Wa_div, Wa_mod, Wa_pow, Wa_ixL, Wa_ixT, Wa_ixC, Wa_lenC, Wa_mk, W_eqL, W_eqI, W_eqB, W_fail, W_cutS, W_cutC, startD, List.map_cons, List.map_nil, List.length_cons, List.length_nil, List.length_map, List.cons_append, List.nil_append, List.getElem?_cons_zero, List.getElem?_cons_succ, List.set_cons_zero, List.set_cons_succ, Option.some.injEq, exists_eq_left', List.replicate, Nat.reduceAdd, Nat.reduceSub, Nat.reduceMul, D.bl.injEq, D.int.injEq, D.hs.injEq, D.lst.injEq, D.ow.injEq, D.tup.injEq, List.cons.injEq, and_true, true_and, reduceCtorEq, Bool.not_true, Bool.not_false, false_implies, true_implies, forall_const, imp_self, Bool.false_eq_true, if_true, if_false, ↓reduceIte, Bool.true_eq_false, ty_ii, ty_bi, ty_li, ty_ti, ty_ib, ty_bb, ty_lb, ty_tb, ty_ll, ty_tl, ty_dl, okd_int, okd_bl, okd_lst, okd_hs, kin_hs, wipeD, Tg.st, setAll, exists_and_left, exists_eq_left, exists_eq', and_assoc, exists_and_right]
      simp only [Bool.or_self, decide_true]
      try simp only [decide_true, decide_false, Bool.and_self, eq_self, W_loop0, WL_nil, true_or, or_true, or_false, W_seq, W_asg1, W_asgT, W_drop, W_ret, W_if, W_not, W_test, W_andV, W_notV, W_orV, W_andT, W_orT, W_bin, W_cons, W_nm, W_fn, W_fnK0, W_met, W_fld, W_pure, W_bind, W_isB, W_isLT, W_isH, W_add, W_sub, W_neg, W_ord, W_int, W_min, W_max, W_cat, W_part, W_sli, W_cutL, W_listL, W_listT, W_sumL, W_allL, W_itm, W_rng1, W_rng2, W_enu, W_zip', W_for, W_lc, W_app, W_sas, W_aug, W_par, W_lenL, W_lenT, W_lenS, W_iadd, W_isub, W_isBl, W_bit, Wa_newL, Wa_newT, Wa_newC, Wa_mul, Wa_div, Wa_mod, Wa_pow, Wa_ixL, Wa_ixT, Wa_ixC, Wa_lenC, Wa_mk, W_eqL, W_eqI, W_eqB, W_fail, W_cutS, W_cutC, startD, List.map_cons, List.map_nil, List.length_cons, List.length_nil, List.length_map, List.cons_append, List.nil_append, List.getElem?_cons_zero, List.getElem?_cons_succ, List.set_cons_zero, List.set_cons_succ, Option.some.injEq, exists_eq_left', List.replicate, Nat.reduceAdd, Nat.reduceSub, Nat.reduceMul, D.bl.injEq, D.int.injEq, D.hs.injEq, D.lst.injEq, D.ow.injEq, D.tup.injEq, List.cons.injEq, and_true, true_and, reduceCtorEq, Bool.not_true, Bool.not_false, false_implies, true_implies, forall_const, imp_self, Bool.false_eq_true, if_true, if_false, ↓reduceIte, Bool.true_eq_false, ty_ii, ty_bi, ty_li, ty_ti, ty_ib, ty_bb, ty_lb, ty_tb, ty_ll, ty_tl, ty_dl, okd_int, okd_bl, okd_lst, okd_hs, kin_hs, wipeD, Tg.st, setAll, exists_and_left, exists_eq_left, exists_eq', and_assoc, exists_and_right]
      exact End.plain (x' := []) (by simp) rfl (q)
    | lst ds =>
      try simp only [decide_true, decide_false, Bool.and_self, eq_self, W_loop0, WL_nil, true_or, or_true, or_false, W_seq, W_asg1, W_asgT, W_drop, W_ret, W_if, W_not, W_test, W_andV, W_notV, W_orV, W_andT, W_orT, W_bin, W_cons, W_nm, W_fn, W_fnK0, W_met, W_fld, W_pure, W_bind, W_isB, W_isLT, W_isH, W_add, W_sub, W_neg, W_ord, W_int, W_min, W_max, W_cat, W_part, W_sli, W_cutL, W_listL, W_listT, W_sumL, W_allL, W_itm, W_rng1, W_rng2, W_enu, W_zip', W_for, W_lc, W_app, W_sas, W_aug, W_par, W_lenL, W_lenT, W_lenS, W_iadd, W_isub, W_isBl, W_bit, Wa_newL, Wa_newT, Wa_newC, Wa_mul, Wa_div, Wa_mod, Wa_pow, Wa_ixL, Wa_ixT, Wa_ixC, Wa_lenC, Wa_mk, W_eqL, W_eqI, W_eqB, W_fail, W_cutS, W_cutC, startD, List.map_cons, List.map_nil, List.length_cons, List.length_nil, List.length_map, List.cons_append, List.nil_append, List.getElem?_cons_zero, List.getElem?_cons_succ, List.set_cons_zero, List.set_cons_succ, Option.some.injEq, exists_eq_left', List.replicate, Nat.reduceAdd, Nat.reduceSub, Nat.reduceMul, D.bl.injEq, D.int.injEq, D.hs.injEq, D.lst.injEq, D.ow.injEq, D.tup.injEq, List.cons.injEq, and_true, true_and, reduceCtorEq, Bool.not_true, Bool.not_false, false_implies, true_implies, forall_const, imp_self, Bool.false_eq_true, if_true, if_false, ↓reduceIte, Bool.true_eq_false, ty_ii, ty_bi, ty_li, ty_ti, ty_ib, ty_bb, ty_lb, ty_tb, ty_ll, ty_tl, ty_dl, okd_int, okd_bl, okd_lst, okd_hs, kin_hs, wipeD, Tg.st, setAll, exists_and_left, exists_eq_left, exists_eq', and_assoc, exists_and_right]
      simp only [Bool.true_or, decide_true]
      try simp only [decide_true, decide_false, Bool.and_self, eq_self, W_loop0, WL_nil, true_or, or_true, or_false, W_seq, W_asg1, W_asgT, W_drop, W_ret, W_if, W_not, W_test, W_andV, W_notV, W_orV, W_andT, W_orT, W_bin, W_cons, W_nm, W_fn, W_fnK0, W_met, W_fld, W_pure, W_bind, W_isB, W_isLT, W_isH, W_add, W_sub, W_neg, W_ord, W_int, W_min, W_max, W_cat, W_part, W_sli, W_cutL, W_listL, W_listT, W_sumL, W_allL, W_itm, W_rng1, W_rng2, W_enu, W_zip', W_for, W_lc, W_app, W_sas, W_aug, W_par, W_lenL, W_lenT, W_lenS, W_iadd, W_isub, W_isBl, W_bit, Wa_newL, Wa_newT, Wa_newC, Wa_mul, Wa_div, Wa_mod, Wa_pow, Wa_ixL, Wa_ixT, Wa_ixC, Wa_lenC, Wa_mk, W_eqL, W_eqI, W_eqB, W_fail, W_cutS, W_cutC, startD, List.map_cons, List.map_nil, List.length_cons, List.length_nil, List.length_map, List.cons_append, List.nil_append, List.getElem?_cons_zero, List.getElem?_cons_succ, List.set_cons_zero, List.set_cons_succ, Option.some.injEq, exists_eq_left', List.replicate, Nat.reduceAdd, Nat.reduceSub, Nat.reduceMul, D.bl.injEq, D.int.injEq, D.hs.injEq, D.lst.injEq, D.ow.injEq, D.tup.injEq, List.cons.injEq, and_true, true_and, reduceCtorEq, Bool.not_true, Bool.not_false, false_implies, true_implies, forall_const, imp_self, Bool.false_eq_true, if_true, if_false, ↓reduceIte, Bool.true_eq_false, ty_ii, ty_bi, ty_li, ty_ti, ty_ib, ty_bb, ty_lb, ty_tb, ty_ll, ty_tl, ty_dl, okd_int, okd_bl, okd_lst, okd_hs, kin_hs, wipeD, Tg.st, setAll, exists_and_left, exists_eq_left, exists_eq', and_assoc, exists_and_right]
      refine WL_map (fun _ => .bl true) _ (fun d hd => ?_) ?_
      · obtain ⟨x, hx, rfl⟩ := zip_self hd
        refine ⟨_, rfl, ?_⟩
        try simp only [decide_true, decide_false, Bool.and_self, eq_self, W_loop0, WL_nil, true_or, or_true, or_false, W_seq, W_asg1, W_asgT, W_drop, W_ret, W_if, W_not, W_test, W_andV, W_notV, W_orV, W_andT, W_orT, W_bin, W_cons, W_nm, W_fn, W_fnK0, W_met, W_fld, W_pure, W_bind, W_isB, W_isLT, W_isH, W_add, W_sub, W_neg, W_ord, W_int, W_min, W_max, W_cat, W_part, W_sli, W_cutL, W_listL, W_listT, W_sumL, W_allL, W_itm, W_rng1, W_rng2, W_enu, W_zip', W_for, W_lc, W_app, W_sas, W_aug, W_par, W_lenL, W_lenT, W_lenS, W_iadd, W_isub, W_isBl, W_bit, Wa_newL, Wa_newT, Wa_newC, Wa_mul, Wa_div, Wa_mod, Wa_pow, Wa_ixL, Wa_ixT, Wa_ixC, Wa_lenC, Wa_mk, W_eqL, W_eqI, W_eqB, W_fail, W_cutS, W_cutC, startD, List.map_cons, List.map_nil, List.length_cons, List.length_nil, List.length_map, List.cons_append, List.nil_append, List.getElem?_cons_zero, List.getElem?_cons_succ, List.set_cons_zero, List.set_cons_succ, Option.some.injEq, exists_eq_left', List.replicate, Nat.reduceAdd, Nat.reduceSub, Nat.reduceMul, D.bl.injEq, D.int.injEq, D.hs.injEq, D.lst.injEq, D.ow.injEq, D.tup.injEq, List.cons.injEq, and_true, true_and, reduceCtorEq, Bool.not_true, Bool.not_false, false_implies, true_implies, forall_const, imp_self, Bool.false_eq_true, if_true, if_false, ↓reduceIte, Bool.true_eq_false, ty_ii, ty_bi, ty_li, ty_ti, ty_ib, ty_bb, ty_lb, ty_tb, ty_ll, ty_tl, ty_dl, okd_int, okd_bl, okd_lst, okd_hs, kin_hs, wipeD, Tg.st, setAll, exists_and_left, exists_eq_left, exists_eq', and_assoc, exists_and_right]
        exact fw_exact n x _ _ (h.2 x hx) ⟨rfl, rfl⟩
      · rw [show (zipD ds ds).map (fun _ => D.bl true) = ((zipD ds ds).map fun _ => true).map D.bl by rw [List.map_map]; rfl]
        try simp only [decide_true, decide_false, Bool.and_self, eq_self, W_loop0, WL_nil, true_or, or_true, or_false, W_seq, W_asg1, W_asgT, W_drop, W_ret, W_if, W_not, W_test, W_andV, W_notV, W_orV, W_andT, W_orT, W_bin, W_cons, W_nm, W_fn, W_fnK0, W_met, W_fld, W_pure, W_bind, W_isB, W_isLT, W_isH, W_add, W_sub, W_neg, W_ord, W_int, W_min, W_max, W_cat, W_part, W_sli, W_cutL, W_listL, W_listT, W_sumL, W_allL, W_itm, W_rng1, W_rng2, W_enu, W_zip', W_for, W_lc, W_app, W_sas, W_aug, W_par, W_lenL, W_lenT, W_lenS, W_iadd, W_isub, W_isBl, W_bit, Wa_newL, Wa_newT, Wa_newC, Wa_mul, Wa_div, Wa_mod, Wa_pow, Wa_ixL, Wa_ixT, Wa_ixC, Wa_lenC, Wa_mk, W_eqL, W_eqI, W_eqB, W_fail, W_cutS, W_cutC, startD, List.map_cons, List.map_nil, List.length_cons, List.length_nil, List.length_map, List.cons_append, List.nil_append, List.getElem?_cons_zero, List.getElem?_cons_succ, List.set_cons_zero, List.set_cons_succ, Option.some.injEq, exists_eq_left', List.replicate, Nat.reduceAdd, Nat.reduceSub, Nat.reduceMul, D.bl.injEq, D.int.injEq, D.hs.injEq, D.lst.injEq, D.ow.injEq, D.tup.injEq, List.cons.injEq, and_true, true_and, reduceCtorEq, Bool.not_true, Bool.not_false, false_implies, true_implies, forall_const, imp_self, Bool.false_eq_true, if_true, if_false, ↓reduceIte, Bool.true_eq_false, ty_ii, ty_bi, ty_li, ty_ti, ty_ib, ty_bb, ty_lb, ty_tb, ty_ll, ty_tl, ty_dl, okd_int, okd_bl, okd_lst, okd_hs, kin_hs, wipeD, Tg.st, setAll, exists_and_left, exists_eq_left, exists_eq', and_assoc, exists_and_right]
        refine ⟨szl (by rw [zip_len]; exact h.1), ?_⟩
        rw [List.all_map]
        rw [show (zipD ds ds).all (id ∘ fun _ => true) = true from List.all_eq_true.mpr fun _ _ => rfl]
        exact End.plain (x' := []) (by simp) rfl (q)
    | _ => exact h.elim
end
end K4

/-! K4V: what is told of a house. -/
namespace K4
open PySem PySem.Spec PyProof.Rows L2 CD
section
variable {c : Cells} {Q : D → Cells → Prop}
theorem W_seqloop {t : Tg} {fb : M Ctl} {R : Ctl → En → Prop} (xs : List D) (J : Nat → En → Prop) (e : En) (step : ∀ (k : Nat) d e, xs[k]? = some d → J k e → ∃ sl, t.st d e.sl = some sl ∧ W fb ⟨sl, e.c⟩ fun c e' => c = .nx ∧ J (k + 1) e') (h0 : J 0 e) (fin : ∀ e, J xs.length e → R .nx e) : W (loopM t fb xs) e R := by
  refine W_loop (fun ds e => ∃ k, k ≤ xs.length ∧ ds = xs.drop k ∧ J k e) xs e (fun d ds e ⟨k, hk, h1, h2⟩ => ?_) ⟨0, Nat.zero_le _, rfl, h0⟩ (fun e ⟨k, hk, h1, h2⟩ => ?_)
  · have hlt : k < xs.length := by
      have := congrArg List.length h1
      simp at this
      omega
    rw [List.drop_eq_getElem_cons hlt] at h1
    cases h1
    obtain ⟨sl, q1, q2⟩ := step k _ e (List.getElem?_eq_getElem hlt) h2
    exact ⟨sl, q1, q2.imp fun c e' ⟨a, b⟩ => ⟨a, k + 1, hlt, rfl, b⟩⟩
  · have : xs.length ≤ k := by
      have := congrArg List.length h1
      simp at this
      omega
    have e : k = xs.length := by omega
    subst e
    exact fin _ h2
theorem rng_get {lo : Int} {n k : Nat} {d : D} (h : (rngD lo n)[k]? = some d) : k < n ∧ d = .int (lo + k) := by
  unfold rngD at h
  rw [List.getElem?_map] at h
  by_cases hk : k < n
  · rw [List.getElem?_range hk] at h
    exact ⟨hk, (Option.some.inj h).symm⟩
  · rw [List.getElem?_eq_none (by simpa using hk)] at h
    cases h
theorem rng_len {lo : Int} {n : Nat} : (rngD lo n).length = n := by simp [rngD]
theorem WL_rng {t : Tg} {vs : List Nat} {fe : M D} {sl : List (Option D)} {R : List D → Cells → Prop} (g : Nat → Int) (n : Nat) (h : ∀ i < n, ∃ sl1, t.st (.int (0 + (i : Int))) (wipeD sl vs) = some sl1 ∧ W fe ⟨sl1, c⟩ fun y e => y = .int (g i) ∧ e.c = c) (q : R (((List.range n).map g).map D.int) c) :
    WL t vs (pureM true) fe sl (rngD 0 n) c R := by
  have e : ((List.range n).map g).map D.int = (rngD 0 n).map fun d => match d with | .int i => .int (g i.toNat) | d => d := by
    unfold rngD
    rw [List.map_map, List.map_map]
    congr 1
    funext i
    simp
  rw [e] at q
  refine WL_map _ _ (fun d hd => ?_) q
  unfold rngD at hd
  obtain ⟨i, hi, rfl⟩ := List.mem_map.mp hd
  obtain ⟨sl1, h1, h2⟩ := h i (List.mem_range.mp hi)
  refine ⟨sl1, h1, h2.imp fun y e ⟨a, b⟩ => ⟨?_, b⟩⟩
  rw [a]
  simp
def hl (r w : List Int) (k : Nat) : Int := ((List.range (k + 1)).map fun i => r.getD i 0 * w.getD i 0).sum
theorem hld_eq : ∀ (r w : List Int) (h : Int), r.length = w.length → hld h r w = (List.range r.length).map fun k => h + hl r w k
  | [], w, h, _ => by simp [hld]
  | a :: r, [], h, e => by cases e
  | a :: r, v :: w, h, e => by
    have e' : r.length = w.length := by simpa using e
    rw [hld, hld_eq r w _ e', List.length_cons, List.range_succ_eq_map, List.map_cons, List.map_map]
    congr 1
    · simp [hl]
    · apply List.map_congr_left
      intro k _
      simp only [Function.comp, hl]
      rw [List.range_succ_eq_map (n := k + 1), List.map_cons, List.map_map, List.sum_cons]
      simp only [Function.comp_def, List.getD_cons_zero, List.getD_cons_succ]
      omega
theorem hld_law (r w : List Int) (e : r.length = w.length) : (List.range r.length).map (hl r w) = hld 0 r w := by
  rw [hld_eq r w 0 e]
  simp
theorem hld_len (r w : List Int) (e : r.length = w.length) : (hld 0 r w).length = r.length := by rw [← hld_law r w e]; simp
theorem okX_ints {n : Nat} (ns : List Int) (h : ns.length ≤ 1000) : okX (n + 2) (.lst (ns.map D.int)) := by
  refine ⟨by simpa using h, fun d hd => ?_⟩
  obtain ⟨i, _, rfl⟩ := List.mem_map.mp hd
  trivial
theorem okX_hd {n : Nat} {b r : List Int} (h : gb b r) : okX (n + 3) (hd b r) := ⟨by simp, fun d hd => by
  simp at hd
  rcases hd with rfl | rfl
  · exact okX_ints b h.bl
  · exact okX_ints r h.rl⟩
theorem fz_hd {m n : Nat} {c : Cells} (b r : List Int) : fz m c (n + 3) (hd b r) = some (hd b r) := by
  unfold hd
  rw [fz, mapO, mapO, mapO, fz_ints, fz_ints]
  rfl
def IT (b r : List Int) (c : Cells) (k : Nat) (e : En) : Prop := ∃ x, e = ⟨[some (.hs b r), x, some (hd b r), some (.ow c.length), none], c ++ [some (((List.range k).map (hl r (wts 1 b))).map D.int)]⟩
theorem fw_told_of (b r : List Int) (h : gb b r) (q : Q (hd b r) c) : FW F__law_told_of [.hs b r] c Q := by
  have hr := h.rl
  have hw : r.length = (wts 1 b).length := by rw [wts_len, h.2.1]
  refine FW_runBx rfl ?_
  unfold b__law_told_of
  try simp only [decide_true, decide_false, Bool.and_self, eq_self, W_loop0, WL_nil, true_or, or_true, or_false, W_seq, W_asg1, W_asgT, W_drop, W_ret, W_if, W_not, W_test, W_andV, W_notV, W_orV, W_andT, W_orT, W_bin, W_cons, W_nm, W_fn, W_fnK0, W_met, W_fld, W_pure, W_bind, W_isB, W_isLT, W_isH, W_add, W_sub, W_neg, W_ord, W_int, W_min, W_max, W_cat, W_part, W_sli, W_cutL, W_listL, W_listT, W_sumL, W_allL, W_itm, W_rng1, W_rng2, W_enu, W_zip', W_for, W_lc, W_app, W_sas, W_aug, W_par, W_lenL, W_lenT, W_lenS, W_iadd, W_isub, W_isBl, W_bit, Wa_newL, Wa_newT, Wa_newC, Wa_mul, Wa_div, Wa_mod, Wa_pow, Wa_ixL, Wa_ixT, Wa_ixC, Wa_lenC, Wa_mk, W_eqL, W_eqI, W_eqB, W_fail, W_cutS, W_cutC, startD, List.map_cons, List.map_nil, List.length_cons, List.length_nil, List.length_map, List.cons_append, List.nil_append, List.getElem?_cons_zero, List.getElem?_cons_succ, List.set_cons_zero, List.set_cons_succ, Option.some.injEq, exists_eq_left', List.replicate, Nat.reduceAdd, Nat.reduceSub, Nat.reduceMul, D.bl.injEq, D.int.injEq, D.hs.injEq, D.lst.injEq, D.ow.injEq, D.tup.injEq, List.cons.injEq, and_true, true_and, reduceCtorEq, Bool.not_true, Bool.not_false, false_implies, true_implies, forall_const, imp_self, Bool.false_eq_true, if_true, if_false, ↓reduceIte, Bool.true_eq_false, ty_ii, ty_bi, ty_li, ty_ti, ty_ib, ty_bb, ty_lb, ty_tb, ty_ll, ty_tl, ty_dl, okd_int, okd_bl, okd_lst, okd_hs, kin_hs, wipeD, Tg.st, setAll, exists_and_left, exists_eq_left, exists_eq', and_assoc, exists_and_right]
  refine fw_House_bases b r h ?_
  refine fw_House_rooms b r h ?_
  try simp only [decide_true, decide_false, Bool.and_self, eq_self, W_loop0, WL_nil, true_or, or_true, or_false, W_seq, W_asg1, W_asgT, W_drop, W_ret, W_if, W_not, W_test, W_andV, W_notV, W_orV, W_andT, W_orT, W_bin, W_cons, W_nm, W_fn, W_fnK0, W_met, W_fld, W_pure, W_bind, W_isB, W_isLT, W_isH, W_add, W_sub, W_neg, W_ord, W_int, W_min, W_max, W_cat, W_part, W_sli, W_cutL, W_listL, W_listT, W_sumL, W_allL, W_itm, W_rng1, W_rng2, W_enu, W_zip', W_for, W_lc, W_app, W_sas, W_aug, W_par, W_lenL, W_lenT, W_lenS, W_iadd, W_isub, W_isBl, W_bit, Wa_newL, Wa_newT, Wa_newC, Wa_mul, Wa_div, Wa_mod, Wa_pow, Wa_ixL, Wa_ixT, Wa_ixC, Wa_lenC, Wa_mk, W_eqL, W_eqI, W_eqB, W_fail, W_cutS, W_cutC, startD, List.map_cons, List.map_nil, List.length_cons, List.length_nil, List.length_map, List.cons_append, List.nil_append, List.getElem?_cons_zero, List.getElem?_cons_succ, List.set_cons_zero, List.set_cons_succ, Option.some.injEq, exists_eq_left', List.replicate, Nat.reduceAdd, Nat.reduceSub, Nat.reduceMul, D.bl.injEq, D.int.injEq, D.hs.injEq, D.lst.injEq, D.ow.injEq, D.tup.injEq, List.cons.injEq, and_true, true_and, reduceCtorEq, Bool.not_true, Bool.not_false, false_implies, true_implies, forall_const, imp_self, Bool.false_eq_true, if_true, if_false, ↓reduceIte, Bool.true_eq_false, ty_ii, ty_bi, ty_li, ty_ti, ty_ib, ty_bb, ty_lb, ty_tb, ty_ll, ty_tl, ty_dl, okd_int, okd_bl, okd_lst, okd_hs, kin_hs, wipeD, Tg.st, setAll, exists_and_left, exists_eq_left, exists_eq', and_assoc, exists_and_right]
  refine ⟨szl (by decide), szl (by decide), szl (by decide), ?_⟩
  try simp only [at0, at1, decide_true, decide_false, Bool.and_self, eq_self, W_loop0, WL_nil, true_or, or_true, or_false, W_seq, W_asg1, W_asgT, W_drop, W_ret, W_if, W_not, W_test, W_andV, W_notV, W_orV, W_andT, W_orT, W_bin, W_cons, W_nm, W_fn, W_fnK0, W_met, W_fld, W_pure, W_bind, W_isB, W_isLT, W_isH, W_add, W_sub, W_neg, W_ord, W_int, W_min, W_max, W_cat, W_part, W_sli, W_cutL, W_listL, W_listT, W_sumL, W_allL, W_itm, W_rng1, W_rng2, W_enu, W_zip', W_for, W_lc, W_app, W_sas, W_aug, W_par, W_lenL, W_lenT, W_lenS, W_iadd, W_isub, W_isBl, W_bit, Wa_newL, Wa_newT, Wa_newC, Wa_mul, Wa_div, Wa_mod, Wa_pow, Wa_ixL, Wa_ixT, Wa_ixC, Wa_lenC, Wa_mk, W_eqL, W_eqI, W_eqB, W_fail, W_cutS, W_cutC, startD, List.map_cons, List.map_nil, List.length_cons, List.length_nil, List.length_map, List.cons_append, List.nil_append, List.getElem?_cons_zero, List.getElem?_cons_succ, List.set_cons_zero, List.set_cons_succ, Option.some.injEq, exists_eq_left', List.replicate, Nat.reduceAdd, Nat.reduceSub, Nat.reduceMul, D.bl.injEq, D.int.injEq, D.hs.injEq, D.lst.injEq, D.ow.injEq, D.tup.injEq, List.cons.injEq, and_true, true_and, reduceCtorEq, Bool.not_true, Bool.not_false, false_implies, true_implies, forall_const, imp_self, Bool.false_eq_true, if_true, if_false, ↓reduceIte, Bool.true_eq_false, ty_ii, ty_bi, ty_li, ty_ti, ty_ib, ty_bb, ty_lb, ty_tb, ty_ll, ty_tl, ty_dl, okd_int, okd_bl, okd_lst, okd_hs, kin_hs, wipeD, Tg.st, setAll, exists_and_left, exists_eq_left, exists_eq', and_assoc, exists_and_right]
  refine ⟨by omega, by omega, ?_⟩
  rw [Int.toNat_natCast]
  refine W_seqloop _ (IT b r c) _ (fun k d e hk hJ => ?_) ?_ (fun e hJ => ?_)
  · obtain ⟨hk, rfl⟩ := rng_get hk
    obtain ⟨x, rfl⟩ := hJ
    refine ⟨_, rfl, ?_⟩
    unfold hd
    try simp only [at0, at1, get_last, decide_true, decide_false, Bool.and_self, eq_self, W_loop0, WL_nil, true_or, or_true, or_false, W_seq, W_asg1, W_asgT, W_drop, W_ret, W_if, W_not, W_test, W_andV, W_notV, W_orV, W_andT, W_orT, W_bin, W_cons, W_nm, W_fn, W_fnK0, W_met, W_fld, W_pure, W_bind, W_isB, W_isLT, W_isH, W_add, W_sub, W_neg, W_ord, W_int, W_min, W_max, W_cat, W_part, W_sli, W_cutL, W_listL, W_listT, W_sumL, W_allL, W_itm, W_rng1, W_rng2, W_enu, W_zip', W_for, W_lc, W_app, W_sas, W_aug, W_par, W_lenL, W_lenT, W_lenS, W_iadd, W_isub, W_isBl, W_bit, Wa_newL, Wa_newT, Wa_newC, Wa_mul, Wa_div, Wa_mod, Wa_pow, Wa_ixL, Wa_ixT, Wa_ixC, Wa_lenC, Wa_mk, W_eqL, W_eqI, W_eqB, W_fail, W_cutS, W_cutC, startD, List.map_cons, List.map_nil, List.length_cons, List.length_nil, List.length_map, List.cons_append, List.nil_append, List.getElem?_cons_zero, List.getElem?_cons_succ, List.set_cons_zero, List.set_cons_succ, Option.some.injEq, exists_eq_left', List.replicate, Nat.reduceAdd, Nat.reduceSub, Nat.reduceMul, D.bl.injEq, D.int.injEq, D.hs.injEq, D.lst.injEq, D.ow.injEq, D.tup.injEq, List.cons.injEq, and_true, true_and, reduceCtorEq, Bool.not_true, Bool.not_false, false_implies, true_implies, forall_const, imp_self, Bool.false_eq_true, if_true, if_false, ↓reduceIte, Bool.true_eq_false, ty_ii, ty_bi, ty_li, ty_ti, ty_ib, ty_bb, ty_lb, ty_tb, ty_ll, ty_tl, ty_dl, okd_int, okd_bl, okd_lst, okd_hs, kin_hs, wipeD, Tg.st, setAll, exists_and_left, exists_eq_left, exists_eq', and_assoc, exists_and_right]
    rw [show (0 + (k : Int) + 1) = ((k + 1 : Nat) : Int) by omega, Int.toNat_natCast]
    refine ⟨by omega, by omega, ?_⟩
    refine WL_rng (fun i => r.getD i 0 * (wts 1 b).getD i 0) (k + 1) (fun i hi => ⟨_, rfl, ?_⟩) ?_
    · try simp only [at0, at1, decide_true, decide_false, Bool.and_self, eq_self, W_loop0, WL_nil, true_or, or_true, or_false, W_seq, W_asg1, W_asgT, W_drop, W_ret, W_if, W_not, W_test, W_andV, W_notV, W_orV, W_andT, W_orT, W_bin, W_cons, W_nm, W_fn, W_fnK0, W_met, W_fld, W_pure, W_bind, W_isB, W_isLT, W_isH, W_add, W_sub, W_neg, W_ord, W_int, W_min, W_max, W_cat, W_part, W_sli, W_cutL, W_listL, W_listT, W_sumL, W_allL, W_itm, W_rng1, W_rng2, W_enu, W_zip', W_for, W_lc, W_app, W_sas, W_aug, W_par, W_lenL, W_lenT, W_lenS, W_iadd, W_isub, W_isBl, W_bit, Wa_newL, Wa_newT, Wa_newC, Wa_mul, Wa_div, Wa_mod, Wa_pow, Wa_ixL, Wa_ixT, Wa_ixC, Wa_lenC, Wa_mk, W_eqL, W_eqI, W_eqB, W_fail, W_cutS, W_cutC, startD, List.map_cons, List.map_nil, List.length_cons, List.length_nil, List.length_map, List.cons_append, List.nil_append, List.getElem?_cons_zero, List.getElem?_cons_succ, List.set_cons_zero, List.set_cons_succ, Option.some.injEq, exists_eq_left', List.replicate, Nat.reduceAdd, Nat.reduceSub, Nat.reduceMul, D.bl.injEq, D.int.injEq, D.hs.injEq, D.lst.injEq, D.ow.injEq, D.tup.injEq, List.cons.injEq, and_true, true_and, reduceCtorEq, Bool.not_true, Bool.not_false, false_implies, true_implies, forall_const, imp_self, Bool.false_eq_true, if_true, if_false, ↓reduceIte, Bool.true_eq_false, ty_ii, ty_bi, ty_li, ty_ti, ty_ib, ty_bb, ty_lb, ty_tb, ty_ll, ty_tl, ty_dl, okd_int, okd_bl, okd_lst, okd_hs, kin_hs, wipeD, Tg.st, setAll, exists_and_left, exists_eq_left, exists_eq', and_assoc, exists_and_right]
      have i1 : i < r.length := by omega
      have g1 : r[i]? = some (r.getD i 0) := by rw [List.getElem?_eq_getElem i1]; simp [i1]
      have g2 : (wts 1 b)[i]? = some ((wts 1 b).getD i 0) := by rw [List.getElem?_eq_getElem (by omega)]; simp [show i < (wts 1 b).length by omega]
      refine ⟨.int (r.getD i 0), by rw [Int.zero_add]; exact atI_nat (by rw [List.getElem?_map, g1]; rfl), ?_⟩
      refine fw_lweights b r h ?_
      try simp only [decide_true, decide_false, Bool.and_self, eq_self, W_loop0, WL_nil, true_or, or_true, or_false, W_seq, W_asg1, W_asgT, W_drop, W_ret, W_if, W_not, W_test, W_andV, W_notV, W_orV, W_andT, W_orT, W_bin, W_cons, W_nm, W_fn, W_fnK0, W_met, W_fld, W_pure, W_bind, W_isB, W_isLT, W_isH, W_add, W_sub, W_neg, W_ord, W_int, W_min, W_max, W_cat, W_part, W_sli, W_cutL, W_listL, W_listT, W_sumL, W_allL, W_itm, W_rng1, W_rng2, W_enu, W_zip', W_for, W_lc, W_app, W_sas, W_aug, W_par, W_lenL, W_lenT, W_lenS, W_iadd, W_isub, W_isBl, W_bit, Wa_newL, Wa_newT, Wa_newC, Wa_mul, Wa_div, Wa_mod, Wa_pow, Wa_ixL, Wa_ixT, Wa_ixC, Wa_lenC, Wa_mk, W_eqL, W_eqI, W_eqB, W_fail, W_cutS, W_cutC, startD, List.map_cons, List.map_nil, List.length_cons, List.length_nil, List.length_map, List.cons_append, List.nil_append, List.getElem?_cons_zero, List.getElem?_cons_succ, List.set_cons_zero, List.set_cons_succ, Option.some.injEq, exists_eq_left', List.replicate, Nat.reduceAdd, Nat.reduceSub, Nat.reduceMul, D.bl.injEq, D.int.injEq, D.hs.injEq, D.lst.injEq, D.ow.injEq, D.tup.injEq, List.cons.injEq, and_true, true_and, reduceCtorEq, Bool.not_true, Bool.not_false, false_implies, true_implies, forall_const, imp_self, Bool.false_eq_true, if_true, if_false, ↓reduceIte, Bool.true_eq_false, ty_ii, ty_bi, ty_li, ty_ti, ty_ib, ty_bb, ty_lb, ty_tb, ty_ll, ty_tl, ty_dl, okd_int, okd_bl, okd_lst, okd_hs, kin_hs, wipeD, Tg.st, setAll, exists_and_left, exists_eq_left, exists_eq', and_assoc, exists_and_right]
      refine ⟨.int ((wts 1 b).getD i 0), by rw [Int.zero_add]; exact atI_nat (by rw [List.getElem?_map, g2]; rfl), ?_⟩
      try simp only [decide_true, decide_false, Bool.and_self, eq_self, W_loop0, WL_nil, true_or, or_true, or_false, W_seq, W_asg1, W_asgT, W_drop, W_ret, W_if, W_not, W_test, W_andV, W_notV, W_orV, W_andT, W_orT, W_bin, W_cons, W_nm, W_fn, W_fnK0, W_met, W_fld, W_pure, W_bind, W_isB, W_isLT, W_isH, W_add, W_sub, W_neg, W_ord, W_int, W_min, W_max, W_cat, W_part, W_sli, W_cutL, W_listL, W_listT, W_sumL, W_allL, W_itm, W_rng1, W_rng2, W_enu, W_zip', W_for, W_lc, W_app, W_sas, W_aug, W_par, W_lenL, W_lenT, W_lenS, W_iadd, W_isub, W_isBl, W_bit, Wa_newL, Wa_newT, Wa_newC, Wa_mul, Wa_div, Wa_mod, Wa_pow, Wa_ixL, Wa_ixT, Wa_ixC, Wa_lenC, Wa_mk, W_eqL, W_eqI, W_eqB, W_fail, W_cutS, W_cutC, startD, List.map_cons, List.map_nil, List.length_cons, List.length_nil, List.length_map, List.cons_append, List.nil_append, List.getElem?_cons_zero, List.getElem?_cons_succ, List.set_cons_zero, List.set_cons_succ, Option.some.injEq, exists_eq_left', List.replicate, Nat.reduceAdd, Nat.reduceSub, Nat.reduceMul, D.bl.injEq, D.int.injEq, D.hs.injEq, D.lst.injEq, D.ow.injEq, D.tup.injEq, List.cons.injEq, and_true, true_and, reduceCtorEq, Bool.not_true, Bool.not_false, false_implies, true_implies, forall_const, imp_self, Bool.false_eq_true, if_true, if_false, ↓reduceIte, Bool.true_eq_false, ty_ii, ty_bi, ty_li, ty_ti, ty_ib, ty_bb, ty_lb, ty_tb, ty_ll, ty_tl, ty_dl, okd_int, okd_bl, okd_lst, okd_hs, kin_hs, wipeD, Tg.st, setAll, exists_and_left, exists_eq_left, exists_eq', and_assoc, exists_and_right]
      have m1 := h.2.2.2 _ (List.mem_of_getElem? g1)
      have m2 := h.wle _ (List.mem_of_getElem? g2)
      have e1 := lg m2.1 m2.2
      have e2 := lg (k := 7) (x := r.getD i 0) (by omega) (by omega)
      omega
    · try simp only [get_last, decide_true, decide_false, Bool.and_self, eq_self, W_loop0, WL_nil, true_or, or_true, or_false, W_seq, W_asg1, W_asgT, W_drop, W_ret, W_if, W_not, W_test, W_andV, W_notV, W_orV, W_andT, W_orT, W_bin, W_cons, W_nm, W_fn, W_fnK0, W_met, W_fld, W_pure, W_bind, W_isB, W_isLT, W_isH, W_add, W_sub, W_neg, W_ord, W_int, W_min, W_max, W_cat, W_part, W_sli, W_cutL, W_listL, W_listT, W_sumL, W_allL, W_itm, W_rng1, W_rng2, W_enu, W_zip', W_for, W_lc, W_app, W_sas, W_aug, W_par, W_lenL, W_lenT, W_lenS, W_iadd, W_isub, W_isBl, W_bit, Wa_newL, Wa_newT, Wa_newC, Wa_mul, Wa_div, Wa_mod, Wa_pow, Wa_ixL, Wa_ixT, Wa_ixC, Wa_lenC, Wa_mk, W_eqL, W_eqI, W_eqB, W_fail, W_cutS, W_cutC, startD, List.map_cons, List.map_nil, List.length_cons, List.length_nil, List.length_map, List.cons_append, List.nil_append, List.getElem?_cons_zero, List.getElem?_cons_succ, List.set_cons_zero, List.set_cons_succ, Option.some.injEq, exists_eq_left', List.replicate, Nat.reduceAdd, Nat.reduceSub, Nat.reduceMul, D.bl.injEq, D.int.injEq, D.hs.injEq, D.lst.injEq, D.ow.injEq, D.tup.injEq, List.cons.injEq, and_true, true_and, reduceCtorEq, Bool.not_true, Bool.not_false, false_implies, true_implies, forall_const, imp_self, Bool.false_eq_true, if_true, if_false, ↓reduceIte, Bool.true_eq_false, ty_ii, ty_bi, ty_li, ty_ti, ty_ib, ty_bb, ty_lb, ty_tb, ty_ll, ty_tl, ty_dl, okd_int, okd_bl, okd_lst, okd_hs, kin_hs, wipeD, Tg.st, setAll, exists_and_left, exists_eq_left, exists_eq', and_assoc, exists_and_right]
      refine ⟨szl (by simp; omega), szl (by simp; omega), ?_⟩
      rw [set_last]
      refine ⟨some (.int (0 + (k : Int))), ?_⟩
      have e : (List.range (k + 1)).map (hl r (wts 1 b)) = (List.range k).map (hl r (wts 1 b)) ++ [hl r (wts 1 b) k] := by rw [List.range_succ, List.map_append]; rfl
      rw [e, List.map_append]
      rfl
  · exact ⟨none, rfl⟩
  · obtain ⟨x, rfl⟩ := hJ
    rw [rng_len, hld_law r _ hw]
    try simp only [decide_true, decide_false, Bool.and_self, eq_self, W_loop0, WL_nil, true_or, or_true, or_false, W_seq, W_asg1, W_asgT, W_drop, W_ret, W_if, W_not, W_test, W_andV, W_notV, W_orV, W_andT, W_orT, W_bin, W_cons, W_nm, W_fn, W_fnK0, W_met, W_fld, W_pure, W_bind, W_isB, W_isLT, W_isH, W_add, W_sub, W_neg, W_ord, W_int, W_min, W_max, W_cat, W_part, W_sli, W_cutL, W_listL, W_listT, W_sumL, W_allL, W_itm, W_rng1, W_rng2, W_enu, W_zip', W_for, W_lc, W_app, W_sas, W_aug, W_par, W_lenL, W_lenT, W_lenS, W_iadd, W_isub, W_isBl, W_bit, Wa_newL, Wa_newT, Wa_newC, Wa_mul, Wa_div, Wa_mod, Wa_pow, Wa_ixL, Wa_ixT, Wa_ixC, Wa_lenC, Wa_mk, W_eqL, W_eqI, W_eqB, W_fail, W_cutS, W_cutC, startD, List.map_cons, List.map_nil, List.length_cons, List.length_nil, List.length_map, List.cons_append, List.nil_append, List.getElem?_cons_zero, List.getElem?_cons_succ, List.set_cons_zero, List.set_cons_succ, Option.some.injEq, exists_eq_left', List.replicate, Nat.reduceAdd, Nat.reduceSub, Nat.reduceMul, D.bl.injEq, D.int.injEq, D.hs.injEq, D.lst.injEq, D.ow.injEq, D.tup.injEq, List.cons.injEq, and_true, true_and, reduceCtorEq, Bool.not_true, Bool.not_false, false_implies, true_implies, forall_const, imp_self, Bool.false_eq_true, if_true, if_false, ↓reduceIte, Bool.true_eq_false, ty_ii, ty_bi, ty_li, ty_ti, ty_ib, ty_bb, ty_lb, ty_tb, ty_ll, ty_tl, ty_dl, okd_int, okd_bl, okd_lst, okd_hs, kin_hs, wipeD, Tg.st, setAll, exists_and_left, exists_eq_left, exists_eq', and_assoc, exists_and_right]
    refine fw_weights b r h ?_
    refine fw_held b r h ?_
    refine fw_many b r h ?_
    refine fw_House_places b r h ?_
    try simp only [decide_true, decide_false, Bool.and_self, eq_self, W_loop0, WL_nil, true_or, or_true, or_false, W_seq, W_asg1, W_asgT, W_drop, W_ret, W_if, W_not, W_test, W_andV, W_notV, W_orV, W_andT, W_orT, W_bin, W_cons, W_nm, W_fn, W_fnK0, W_met, W_fld, W_pure, W_bind, W_isB, W_isLT, W_isH, W_add, W_sub, W_neg, W_ord, W_int, W_min, W_max, W_cat, W_part, W_sli, W_cutL, W_listL, W_listT, W_sumL, W_allL, W_itm, W_rng1, W_rng2, W_enu, W_zip', W_for, W_lc, W_app, W_sas, W_aug, W_par, W_lenL, W_lenT, W_lenS, W_iadd, W_isub, W_isBl, W_bit, Wa_newL, Wa_newT, Wa_newC, Wa_mul, Wa_div, Wa_mod, Wa_pow, Wa_ixL, Wa_ixT, Wa_ixC, Wa_lenC, Wa_mk, W_eqL, W_eqI, W_eqB, W_fail, W_cutS, W_cutC, startD, List.map_cons, List.map_nil, List.length_cons, List.length_nil, List.length_map, List.cons_append, List.nil_append, List.getElem?_cons_zero, List.getElem?_cons_succ, List.set_cons_zero, List.set_cons_succ, Option.some.injEq, exists_eq_left', List.replicate, Nat.reduceAdd, Nat.reduceSub, Nat.reduceMul, D.bl.injEq, D.int.injEq, D.hs.injEq, D.lst.injEq, D.ow.injEq, D.tup.injEq, List.cons.injEq, and_true, true_and, reduceCtorEq, Bool.not_true, Bool.not_false, false_implies, true_implies, forall_const, imp_self, Bool.false_eq_true, if_true, if_false, ↓reduceIte, Bool.true_eq_false, ty_ii, ty_bi, ty_li, ty_ti, ty_ib, ty_bb, ty_lb, ty_tb, ty_ll, ty_tl, ty_dl, okd_int, okd_bl, okd_lst, okd_hs, kin_hs, wipeD, Tg.st, setAll, exists_and_left, exists_eq_left, exists_eq', and_assoc, exists_and_right]
    refine ⟨szl (by decide), ?_⟩
    refine fw_lweights b r h ?_
    rw [W_frnC (k := c.length) rfl (get_last _ _) (lowL_ints _ _)]
    try simp only [decide_true, decide_false, Bool.and_self, eq_self, W_loop0, WL_nil, true_or, or_true, or_false, W_seq, W_asg1, W_asgT, W_drop, W_ret, W_if, W_not, W_test, W_andV, W_notV, W_orV, W_andT, W_orT, W_bin, W_cons, W_nm, W_fn, W_fnK0, W_met, W_fld, W_pure, W_bind, W_isB, W_isLT, W_isH, W_add, W_sub, W_neg, W_ord, W_int, W_min, W_max, W_cat, W_part, W_sli, W_cutL, W_listL, W_listT, W_sumL, W_allL, W_itm, W_rng1, W_rng2, W_enu, W_zip', W_for, W_lc, W_app, W_sas, W_aug, W_par, W_lenL, W_lenT, W_lenS, W_iadd, W_isub, W_isBl, W_bit, Wa_newL, Wa_newT, Wa_newC, Wa_mul, Wa_div, Wa_mod, Wa_pow, Wa_ixL, Wa_ixT, Wa_ixC, Wa_lenC, Wa_mk, W_eqL, W_eqI, W_eqB, W_fail, W_cutS, W_cutC, startD, List.map_cons, List.map_nil, List.length_cons, List.length_nil, List.length_map, List.cons_append, List.nil_append, List.getElem?_cons_zero, List.getElem?_cons_succ, List.set_cons_zero, List.set_cons_succ, Option.some.injEq, exists_eq_left', List.replicate, Nat.reduceAdd, Nat.reduceSub, Nat.reduceMul, D.bl.injEq, D.int.injEq, D.hs.injEq, D.lst.injEq, D.ow.injEq, D.tup.injEq, List.cons.injEq, and_true, true_and, reduceCtorEq, Bool.not_true, Bool.not_false, false_implies, true_implies, forall_const, imp_self, Bool.false_eq_true, if_true, if_false, ↓reduceIte, Bool.true_eq_false, ty_ii, ty_bi, ty_li, ty_ti, ty_ib, ty_bb, ty_lb, ty_tb, ty_ll, ty_tl, ty_dl, okd_int, okd_bl, okd_lst, okd_hs, kin_hs, wipeD, Tg.st, setAll, exists_and_left, exists_eq_left, exists_eq', and_assoc, exists_and_right]
    refine fw_lmany b r h ?_
    try simp only [decide_true, decide_false, Bool.and_self, eq_self, W_loop0, WL_nil, true_or, or_true, or_false, W_seq, W_asg1, W_asgT, W_drop, W_ret, W_if, W_not, W_test, W_andV, W_notV, W_orV, W_andT, W_orT, W_bin, W_cons, W_nm, W_fn, W_fnK0, W_met, W_fld, W_pure, W_bind, W_isB, W_isLT, W_isH, W_add, W_sub, W_neg, W_ord, W_int, W_min, W_max, W_cat, W_part, W_sli, W_cutL, W_listL, W_listT, W_sumL, W_allL, W_itm, W_rng1, W_rng2, W_enu, W_zip', W_for, W_lc, W_app, W_sas, W_aug, W_par, W_lenL, W_lenT, W_lenS, W_iadd, W_isub, W_isBl, W_bit, Wa_newL, Wa_newT, Wa_newC, Wa_mul, Wa_div, Wa_mod, Wa_pow, Wa_ixL, Wa_ixT, Wa_ixC, Wa_lenC, Wa_mk, W_eqL, W_eqI, W_eqB, W_fail, W_cutS, W_cutC, startD, List.map_cons, List.map_nil, List.length_cons, List.length_nil, List.length_map, List.cons_append, List.nil_append, List.getElem?_cons_zero, List.getElem?_cons_succ, List.set_cons_zero, List.set_cons_succ, Option.some.injEq, exists_eq_left', List.replicate, Nat.reduceAdd, Nat.reduceSub, Nat.reduceMul, D.bl.injEq, D.int.injEq, D.hs.injEq, D.lst.injEq, D.ow.injEq, D.tup.injEq, List.cons.injEq, and_true, true_and, reduceCtorEq, Bool.not_true, Bool.not_false, false_implies, true_implies, forall_const, imp_self, Bool.false_eq_true, if_true, if_false, ↓reduceIte, Bool.true_eq_false, ty_ii, ty_bi, ty_li, ty_ti, ty_ib, ty_bb, ty_lb, ty_tb, ty_ll, ty_tl, ty_dl, okd_int, okd_bl, okd_lst, okd_hs, kin_hs, wipeD, Tg.st, setAll, exists_and_left, exists_eq_left, exists_eq', and_assoc, exists_and_right]
    refine ⟨szl (by decide), ?_⟩
    rw [hld_len r _ hw]
    refine fw_exact 9 _ _ _ ⟨by simp, fun d hd => ?_⟩ ?_
    · simp at hd
      rcases hd with rfl | rfl | rfl | rfl
      · exact okX_ints _ (by rw [← hw]; exact hr)
      · exact okX_ints _ (by rw [hld_len r _ hw]; exact hr)
      · trivial
      · trivial
    · try simp only [decide_true, decide_false, Bool.and_self, eq_self, W_loop0, WL_nil, true_or, or_true, or_false, W_seq, W_asg1, W_asgT, W_drop, W_ret, W_if, W_not, W_test, W_andV, W_notV, W_orV, W_andT, W_orT, W_bin, W_cons, W_nm, W_fn, W_fnK0, W_met, W_fld, W_pure, W_bind, W_isB, W_isLT, W_isH, W_add, W_sub, W_neg, W_ord, W_int, W_min, W_max, W_cat, W_part, W_sli, W_cutL, W_listL, W_listT, W_sumL, W_allL, W_itm, W_rng1, W_rng2, W_enu, W_zip', W_for, W_lc, W_app, W_sas, W_aug, W_par, W_lenL, W_lenT, W_lenS, W_iadd, W_isub, W_isBl, W_bit, Wa_newL, Wa_newT, Wa_newC, Wa_mul, Wa_div, Wa_mod, Wa_pow, Wa_ixL, Wa_ixT, Wa_ixC, Wa_lenC, Wa_mk, W_eqL, W_eqI, W_eqB, W_fail, W_cutS, W_cutC, startD, List.map_cons, List.map_nil, List.length_cons, List.length_nil, List.length_map, List.cons_append, List.nil_append, List.getElem?_cons_zero, List.getElem?_cons_succ, List.set_cons_zero, List.set_cons_succ, Option.some.injEq, exists_eq_left', List.replicate, Nat.reduceAdd, Nat.reduceSub, Nat.reduceMul, D.bl.injEq, D.int.injEq, D.hs.injEq, D.lst.injEq, D.ow.injEq, D.tup.injEq, List.cons.injEq, and_true, true_and, reduceCtorEq, Bool.not_true, Bool.not_false, false_implies, true_implies, forall_const, imp_self, Bool.false_eq_true, if_true, if_false, ↓reduceIte, Bool.true_eq_false, ty_ii, ty_bi, ty_li, ty_ti, ty_ib, ty_bb, ty_lb, ty_tb, ty_ll, ty_tl, ty_dl, okd_int, okd_bl, okd_lst, okd_hs, kin_hs, wipeD, Tg.st, setAll, exists_and_left, exists_eq_left, exists_eq', and_assoc, exists_and_right]
      exact End.plain (x' := [none]) (by simp) (fz_hd b r) q
end
end K4

/-! K4X: the law's houses. -/
namespace K4
open PySem PySem.Spec PyProof.Rows L2 CD
section
variable {c : Cells} {Q : D → Cells → Prop}
theorem Pl.mono {l : List Int} {t t' : Nat} (h : Pl l t) (ht : t ≤ t') : Pl l t' := by
  obtain ⟨a, s, n, p, h1, h2, h3, h4, h5, h6⟩ := h
  exact ⟨a, s, n, p, h1, h2, h3, h4, by omega, h6⟩
def gh (b r : List Int) (n : Nat) : Prop := b.length + 1 = n ∧ r.length = n ∧ (∀ x ∈ b, 2 ≤ x ∧ x ≤ 60) ∧ (∀ x ∈ r, 0 ≤ x ∧ x ≤ 60)
theorem gh.gb {b r : List Int} {n : Nat} (h : gh b r n) (hn : n ≤ 20) : gb b r := ⟨by have := h.1; omega, by have := h.1; have := h.2.1; omega, fun x hx => by have := h.2.2.1 x hx; omega, fun x hx => by have := h.2.2.2 x hx; omega⟩
theorem set_app {k : Nat} {a b : Option (List D)} {x : Cells} (h : k < c.length) : (c.set k a ++ x).set k b = c.set k b ++ x := by
  rw [List.set_append_left _ _ (by simpa using h), List.set_set]
theorem get_app {k : Nat} {a : Option (List D)} {x : Cells} (h : k < c.length) : (c.set k a ++ x)[k]? = some a := by
  rw [List.getElem?_append_left (by simpa using h), get_set h]
theorem set_same {k : Nat} {a : Option (List D)} (h : c[k]? = some a) : c.set k a = c := by
  apply List.ext_getElem?
  intro j
  by_cases e : k = j
  · subst e
    rw [get_set (List.getElem?_eq_some_iff.mp h).1, h]
  · rw [List.getElem?_set_ne e]
theorem fz_cell_hd {m n k : Nat} {c : Cells} (h : ¬ k < m) (b r : List Int) (hk : c[k]? = some (some [.lst (b.map D.int), .lst (r.map D.int)])) : fz m c (n + 3) (.ow k) = some (hd b r) := by
  rw [fz, if_neg h, hk]
  dsimp only
  rw [mapO, mapO, mapO, fz_ints, fz_ints]
  rfl
def IB (c : Cells) (k t n : Nat) (rest done : List D) (c' : Cells) : Prop := ∃ (l ns : List Int), c' = c.set k (pz l) ∧ Pl l (t + ns.length) ∧ done = ns.map D.int ∧ (∀ x ∈ ns, 2 ≤ x ∧ x ≤ 60) ∧ ns.length + rest.length = n
def IR (c : Cells) (k t n : Nat) (b : List Int) (i : Nat) (e : En) : Prop := ∃ (l rs : List Int) (x4 x5 : Option D), e = ⟨[some (.ow k), some (.int n), some (.lst (b.map D.int)), some (.ow c.length), x4, x5, none], c.set k (pz l) ++ [some (rs.map D.int)]⟩ ∧ Pl l (t + 3 * i) ∧ rs.length = i ∧ (∀ x ∈ rs, 0 ≤ x ∧ x ≤ 60)
theorem house_core {xv : Bool} (k : Nat) (l : List Int) (t : Nat) (hc : c[k]? = some (pz l)) (hl : Pl l t) (ht : t + 40 < 2 ^ 19) (n : Nat) (hn : 1 ≤ n) (hn' : n ≤ 8) {R : Ctl → En → Prop} {rest : M Ctl}
    (q : ∀ b r l' x4 x5, gh b r n → Pl l' (t + 40) → W rest ⟨[some (.ow k), some (.int n), some (.lst (b.map D.int)), some (.ow c.length), x4, x5, none], c.set k (pz l') ++ [some (r.map D.int)]⟩ R) :
    W (seqM (asgM (lcM false (rng1M (consM (binM subG (nmM 1) (pureM (.int 1))) (pureM []))) (.one 6) [6] (pureM true) (fnM 2 F__law_one_of (consM (nmM 0) (consM (bindM (consM (pureM (.int 2)) (consM (pureM (.int 2)) (consM (pureM (.int 2)) (consM (pureM (.int 3)) (consM (pureM (.int 3)) (consM (pureM (.int 4)) (consM (pureM (.int 5)) (consM (pureM (.int 10)) (consM (pureM (.int 12)) (consM (pureM (.int 60)) (pureM []))))))))))) newL) (pureM []))))) (.one 2))
    (seqM (asgM (bindM (pureM []) newC) (.one 3))
    (seqM (forM (itmM (binM (addG newL) (nmM 2) (bindM (consM (pureM (.int 4)) (pureM [])) newL))) (.one 4) (seqM (asgM (bindM (consM (pureM (.int 0)) (consM (pureM (.int 1)) (consM (binM subG (nmM 4) (pureM (.int 1))) (consM (nmM 4) (consM (binM (addG newL) (nmM 4) (pureM (.int 1))) (consM (binM subG (binM mulG (pureM (.int 2)) (nmM 4)) (pureM (.int 1))) (consM (binM mulG (pureM (.int 2)) (nmM 4)) (pureM [])))))))) newL) (.one 5))
    (dropM (appM (nmM 3) (consM (bindM (consM (pureM (.int 60)) (consM (fnM 2 F__law_one_of (consM (nmM 0) (consM (binM (addG newL) (nmM 5) (bindM (consM (fnM 2 F__law_draw (consM (nmM 0) (consM (binM (addG newL) (binM mulG (pureM (.int 2)) (nmM 4)) (pureM (.int 1))) (pureM [])))) (consM (fnM 2 F__law_draw (consM (nmM 0) (consM (binM mulG (pureM (.int 3)) (nmM 4)) (pureM [])))) (pureM []))) newL)) (pureM [])))) (pureM []))) minG) (pureM []))))))
    rest))) ⟨[some (.ow k), some (.int n), none, none, none, none, none], c⟩ R := by
  have hk : k < c.length := (List.getElem?_eq_some_iff.mp hc).1
  try simp only [decide_true, decide_false, Bool.and_self, eq_self, W_loop0, WL_nil, true_or, or_true, or_false, W_seq, W_asg1, W_asgT, W_drop, W_ret, W_if, W_not, W_test, W_andV, W_notV, W_orV, W_andT, W_orT, W_bin, W_cons, W_nm, W_fn, W_fnK0, W_met, W_fld, W_pure, W_bind, W_isB, W_isLT, W_isH, W_add, W_sub, W_neg, W_ord, W_int, W_min, W_max, W_cat, W_part, W_sli, W_cutL, W_listL, W_listT, W_sumL, W_allL, W_itm, W_rng1, W_rng2, W_enu, W_zip', W_for, W_lc, W_app, W_sas, W_aug, W_par, W_lenL, W_lenT, W_lenS, W_iadd, W_isub, W_isBl, W_bit, Wa_newL, Wa_newT, Wa_newC, Wa_mul, Wa_div, Wa_mod, Wa_pow, Wa_ixL, Wa_ixT, Wa_ixC, Wa_lenC, Wa_mk, W_eqL, W_eqI, W_eqB, W_fail, W_cutS, W_cutC, startD, List.map_cons, List.map_nil, List.length_cons, List.length_nil, List.length_map, List.cons_append, List.nil_append, List.getElem?_cons_zero, List.getElem?_cons_succ, List.set_cons_zero, List.set_cons_succ, Option.some.injEq, exists_eq_left', List.replicate, Nat.reduceAdd, Nat.reduceSub, Nat.reduceMul, D.bl.injEq, D.int.injEq, D.hs.injEq, D.lst.injEq, D.ow.injEq, D.tup.injEq, List.cons.injEq, and_true, true_and, reduceCtorEq, Bool.not_true, Bool.not_false, false_implies, true_implies, forall_const, imp_self, Bool.false_eq_true, if_true, if_false, ↓reduceIte, Bool.true_eq_false, ty_ii, ty_bi, ty_li, ty_ti, ty_ib, ty_bb, ty_lb, ty_tb, ty_ll, ty_tl, ty_dl, okd_int, okd_bl, okd_lst, okd_hs, kin_hs, wipeD, Tg.st, setAll, exists_and_left, exists_eq_left, exists_eq', and_assoc, exists_and_right]
  refine ⟨by omega, by omega, ?_⟩
  rw [show ((n : Int) - 1) = ((n - 1 : Nat) : Int) by omega, Int.toNat_natCast]
  refine WL_inv (IB c k t (n - 1)) _ [] _ (fun d rest done c' hI => ?_) ⟨l, [], (set_same hc).symm, hl, rfl, by simp, by simp [rng_len]⟩ (fun ys c' hI => ?_)
  · obtain ⟨l1, ns, rfl, h2, rfl, h4, h5⟩ := hI
    refine ⟨_, rfl, ?_⟩
    try simp only [decide_true, decide_false, Bool.and_self, eq_self, W_loop0, WL_nil, true_or, or_true, or_false, W_seq, W_asg1, W_asgT, W_drop, W_ret, W_if, W_not, W_test, W_andV, W_notV, W_orV, W_andT, W_orT, W_bin, W_cons, W_nm, W_fn, W_fnK0, W_met, W_fld, W_pure, W_bind, W_isB, W_isLT, W_isH, W_add, W_sub, W_neg, W_ord, W_int, W_min, W_max, W_cat, W_part, W_sli, W_cutL, W_listL, W_listT, W_sumL, W_allL, W_itm, W_rng1, W_rng2, W_enu, W_zip', W_for, W_lc, W_app, W_sas, W_aug, W_par, W_lenL, W_lenT, W_lenS, W_iadd, W_isub, W_isBl, W_bit, Wa_newL, Wa_newT, Wa_newC, Wa_mul, Wa_div, Wa_mod, Wa_pow, Wa_ixL, Wa_ixT, Wa_ixC, Wa_lenC, Wa_mk, W_eqL, W_eqI, W_eqB, W_fail, W_cutS, W_cutC, startD, List.map_cons, List.map_nil, List.length_cons, List.length_nil, List.length_map, List.cons_append, List.nil_append, List.getElem?_cons_zero, List.getElem?_cons_succ, List.set_cons_zero, List.set_cons_succ, Option.some.injEq, exists_eq_left', List.replicate, Nat.reduceAdd, Nat.reduceSub, Nat.reduceMul, D.bl.injEq, D.int.injEq, D.hs.injEq, D.lst.injEq, D.ow.injEq, D.tup.injEq, List.cons.injEq, and_true, true_and, reduceCtorEq, Bool.not_true, Bool.not_false, false_implies, true_implies, forall_const, imp_self, Bool.false_eq_true, if_true, if_false, ↓reduceIte, Bool.true_eq_false, ty_ii, ty_bi, ty_li, ty_ti, ty_ib, ty_bb, ty_lb, ty_tb, ty_ll, ty_tl, ty_dl, okd_int, okd_bl, okd_lst, okd_hs, kin_hs, wipeD, Tg.st, setAll, exists_and_left, exists_eq_left, exists_eq', and_assoc, exists_and_right]
    refine ⟨szl (by decide), ?_⟩
    simp only [List.length_cons] at h5
    refine fw_one_of k l1 _ (get_set hk) h2 (by omega) [2, 2, 2, 3, 3, 4, 5, 10, 12, 60] (by decide) (by decide) fun x l2 hx hl2 => ?_
    rw [List.set_set]
    refine ⟨l2, ns ++ [x], rfl, by simpa [Nat.add_assoc] using hl2, by simp, fun y hy => ?_, by simp; omega⟩
    rcases List.mem_append.mp hy with hy | hy
    · exact h4 y hy
    · simp at hy hx
      omega
  · obtain ⟨l1, b, rfl, h2, h3, h4, h5⟩ := hI
    simp only [List.nil_append] at h3
    subst h3
    simp only [List.length_nil, Nat.add_zero] at h5
    try simp only [List.length_set, decide_true, decide_false, Bool.and_self, eq_self, W_loop0, WL_nil, true_or, or_true, or_false, W_seq, W_asg1, W_asgT, W_drop, W_ret, W_if, W_not, W_test, W_andV, W_notV, W_orV, W_andT, W_orT, W_bin, W_cons, W_nm, W_fn, W_fnK0, W_met, W_fld, W_pure, W_bind, W_isB, W_isLT, W_isH, W_add, W_sub, W_neg, W_ord, W_int, W_min, W_max, W_cat, W_part, W_sli, W_cutL, W_listL, W_listT, W_sumL, W_allL, W_itm, W_rng1, W_rng2, W_enu, W_zip', W_for, W_lc, W_app, W_sas, W_aug, W_par, W_lenL, W_lenT, W_lenS, W_iadd, W_isub, W_isBl, W_bit, Wa_newL, Wa_newT, Wa_newC, Wa_mul, Wa_div, Wa_mod, Wa_pow, Wa_ixL, Wa_ixT, Wa_ixC, Wa_lenC, Wa_mk, W_eqL, W_eqI, W_eqB, W_fail, W_cutS, W_cutC, startD, List.map_cons, List.map_nil, List.length_cons, List.length_nil, List.length_map, List.cons_append, List.nil_append, List.getElem?_cons_zero, List.getElem?_cons_succ, List.set_cons_zero, List.set_cons_succ, Option.some.injEq, exists_eq_left', List.replicate, Nat.reduceAdd, Nat.reduceSub, Nat.reduceMul, D.bl.injEq, D.int.injEq, D.hs.injEq, D.lst.injEq, D.ow.injEq, D.tup.injEq, List.cons.injEq, and_true, true_and, reduceCtorEq, Bool.not_true, Bool.not_false, false_implies, true_implies, forall_const, imp_self, Bool.false_eq_true, if_true, if_false, ↓reduceIte, Bool.true_eq_false, ty_ii, ty_bi, ty_li, ty_ti, ty_ib, ty_bb, ty_lb, ty_tb, ty_ll, ty_tl, ty_dl, okd_int, okd_bl, okd_lst, okd_hs, kin_hs, wipeD, Tg.st, setAll, exists_and_left, exists_eq_left, exists_eq', and_assoc, exists_and_right]
    refine ⟨szl (by omega), szl (by decide), szl (by decide), szl (by simp; omega), ?_⟩
    rw [show b.map D.int ++ [D.int 4] = (b ++ [4]).map D.int by simp]
    refine W_seqloop _ (IR c k (t + (n - 1)) n b) _ (fun i d e hi hJ => ?_) ⟨l1, [], none, none, rfl, by rw [h5] at h2; exact h2, rfl, by simp⟩ (fun e hJ => ?_)
    · obtain ⟨l2, rs, x4, x5, rfl, g1, g2, g3⟩ := hJ
      rw [List.getElem?_map] at hi
      cases hb : (b ++ [4])[i]? with
      | none => rw [hb] at hi; cases hi
      | some y =>
        rw [hb] at hi
        cases hi
        have hin : i < n := by have := (List.getElem?_eq_some_iff.mp hb).1; simp at this; omega
        have hy : 2 ≤ y ∧ y ≤ 60 := by
          rcases List.mem_append.mp (List.mem_of_getElem? hb) with h | h
          · exact h4 y h
          · simp at h; omega
        have e1 := lg (k := 7) (x := y) (by omega) (by omega)
        have e2 : (Int.natAbs 2).log2 ≤ 2 := by decide +kernel
        have e3 : (Int.natAbs 3).log2 ≤ 2 := by decide +kernel
        have gl : (c.set k (pz l2) ++ [some (rs.map D.int)])[c.length]? = some (some (rs.map D.int)) := by rw [show c.length = (c.set k (pz l2)).length by simp, get_last]
        refine ⟨_, rfl, ?_⟩
        try simp only [gl, decide_true, decide_false, Bool.and_self, eq_self, W_loop0, WL_nil, true_or, or_true, or_false, W_seq, W_asg1, W_asgT, W_drop, W_ret, W_if, W_not, W_test, W_andV, W_notV, W_orV, W_andT, W_orT, W_bin, W_cons, W_nm, W_fn, W_fnK0, W_met, W_fld, W_pure, W_bind, W_isB, W_isLT, W_isH, W_add, W_sub, W_neg, W_ord, W_int, W_min, W_max, W_cat, W_part, W_sli, W_cutL, W_listL, W_listT, W_sumL, W_allL, W_itm, W_rng1, W_rng2, W_enu, W_zip', W_for, W_lc, W_app, W_sas, W_aug, W_par, W_lenL, W_lenT, W_lenS, W_iadd, W_isub, W_isBl, W_bit, Wa_newL, Wa_newT, Wa_newC, Wa_mul, Wa_div, Wa_mod, Wa_pow, Wa_ixL, Wa_ixT, Wa_ixC, Wa_lenC, Wa_mk, W_eqL, W_eqI, W_eqB, W_fail, W_cutS, W_cutC, startD, List.map_cons, List.map_nil, List.length_cons, List.length_nil, List.length_map, List.cons_append, List.nil_append, List.getElem?_cons_zero, List.getElem?_cons_succ, List.set_cons_zero, List.set_cons_succ, Option.some.injEq, exists_eq_left', List.replicate, Nat.reduceAdd, Nat.reduceSub, Nat.reduceMul, D.bl.injEq, D.int.injEq, D.hs.injEq, D.lst.injEq, D.ow.injEq, D.tup.injEq, List.cons.injEq, and_true, true_and, reduceCtorEq, Bool.not_true, Bool.not_false, false_implies, true_implies, forall_const, imp_self, Bool.false_eq_true, if_true, if_false, ↓reduceIte, Bool.true_eq_false, ty_ii, ty_bi, ty_li, ty_ti, ty_ib, ty_bb, ty_lb, ty_tb, ty_ll, ty_tl, ty_dl, okd_int, okd_bl, okd_lst, okd_hs, kin_hs, wipeD, Tg.st, setAll, exists_and_left, exists_eq_left, exists_eq', and_assoc, exists_and_right]
        refine ⟨by omega, by omega, szl (by decide), by omega, ?_⟩
        refine fw_draw k l2 _ (get_app hk) g1 (by omega) _ (by omega) (by omega) fun i1 l3 hi1 hi1' hl3 => ?_
        rw [set_app hk]
        try simp only [decide_true, decide_false, Bool.and_self, eq_self, W_loop0, WL_nil, true_or, or_true, or_false, W_seq, W_asg1, W_asgT, W_drop, W_ret, W_if, W_not, W_test, W_andV, W_notV, W_orV, W_andT, W_orT, W_bin, W_cons, W_nm, W_fn, W_fnK0, W_met, W_fld, W_pure, W_bind, W_isB, W_isLT, W_isH, W_add, W_sub, W_neg, W_ord, W_int, W_min, W_max, W_cat, W_part, W_sli, W_cutL, W_listL, W_listT, W_sumL, W_allL, W_itm, W_rng1, W_rng2, W_enu, W_zip', W_for, W_lc, W_app, W_sas, W_aug, W_par, W_lenL, W_lenT, W_lenS, W_iadd, W_isub, W_isBl, W_bit, Wa_newL, Wa_newT, Wa_newC, Wa_mul, Wa_div, Wa_mod, Wa_pow, Wa_ixL, Wa_ixT, Wa_ixC, Wa_lenC, Wa_mk, W_eqL, W_eqI, W_eqB, W_fail, W_cutS, W_cutC, startD, List.map_cons, List.map_nil, List.length_cons, List.length_nil, List.length_map, List.cons_append, List.nil_append, List.getElem?_cons_zero, List.getElem?_cons_succ, List.set_cons_zero, List.set_cons_succ, Option.some.injEq, exists_eq_left', List.replicate, Nat.reduceAdd, Nat.reduceSub, Nat.reduceMul, D.bl.injEq, D.int.injEq, D.hs.injEq, D.lst.injEq, D.ow.injEq, D.tup.injEq, List.cons.injEq, and_true, true_and, reduceCtorEq, Bool.not_true, Bool.not_false, false_implies, true_implies, forall_const, imp_self, Bool.false_eq_true, if_true, if_false, ↓reduceIte, Bool.true_eq_false, ty_ii, ty_bi, ty_li, ty_ti, ty_ib, ty_bb, ty_lb, ty_tb, ty_ll, ty_tl, ty_dl, okd_int, okd_bl, okd_lst, okd_hs, kin_hs, wipeD, Tg.st, setAll, exists_and_left, exists_eq_left, exists_eq', and_assoc, exists_and_right]
        refine ⟨by omega, ?_⟩
        refine fw_draw k l3 _ (get_app hk) hl3 (by omega) _ (by omega) (by omega) fun i2 l4 hi2 hi2' hl4 => ?_
        rw [set_app hk]
        try simp only [decide_true, decide_false, Bool.and_self, eq_self, W_loop0, WL_nil, true_or, or_true, or_false, W_seq, W_asg1, W_asgT, W_drop, W_ret, W_if, W_not, W_test, W_andV, W_notV, W_orV, W_andT, W_orT, W_bin, W_cons, W_nm, W_fn, W_fnK0, W_met, W_fld, W_pure, W_bind, W_isB, W_isLT, W_isH, W_add, W_sub, W_neg, W_ord, W_int, W_min, W_max, W_cat, W_part, W_sli, W_cutL, W_listL, W_listT, W_sumL, W_allL, W_itm, W_rng1, W_rng2, W_enu, W_zip', W_for, W_lc, W_app, W_sas, W_aug, W_par, W_lenL, W_lenT, W_lenS, W_iadd, W_isub, W_isBl, W_bit, Wa_newL, Wa_newT, Wa_newC, Wa_mul, Wa_div, Wa_mod, Wa_pow, Wa_ixL, Wa_ixT, Wa_ixC, Wa_lenC, Wa_mk, W_eqL, W_eqI, W_eqB, W_fail, W_cutS, W_cutC, startD, List.map_cons, List.map_nil, List.length_cons, List.length_nil, List.length_map, List.cons_append, List.nil_append, List.getElem?_cons_zero, List.getElem?_cons_succ, List.set_cons_zero, List.set_cons_succ, Option.some.injEq, exists_eq_left', List.replicate, Nat.reduceAdd, Nat.reduceSub, Nat.reduceMul, D.bl.injEq, D.int.injEq, D.hs.injEq, D.lst.injEq, D.ow.injEq, D.tup.injEq, List.cons.injEq, and_true, true_and, reduceCtorEq, Bool.not_true, Bool.not_false, false_implies, true_implies, forall_const, imp_self, Bool.false_eq_true, if_true, if_false, ↓reduceIte, Bool.true_eq_false, ty_ii, ty_bi, ty_li, ty_ti, ty_ib, ty_bb, ty_lb, ty_tb, ty_ll, ty_tl, ty_dl, okd_int, okd_bl, okd_lst, okd_hs, kin_hs, wipeD, Tg.st, setAll, exists_and_left, exists_eq_left, exists_eq', and_assoc, exists_and_right]
        refine ⟨szl (by decide), szl (by decide), ?_⟩
        refine fw_one_of k l4 _ (get_app hk) hl4 (by omega) [0, 1, y - 1, y, y + 1, 2 * y - 1, 2 * y, i1, i2] (by simp) (by simp) fun x l5 hx hl5 => ?_
        rw [set_app hk]
        have gl : (c.set k (pz l5) ++ [some (rs.map D.int)])[c.length]? = some (some (rs.map D.int)) := by rw [show c.length = (c.set k (pz l5)).length by simp, get_last]
        have sl : ∀ z, (c.set k (pz l5) ++ [some (rs.map D.int)]).set c.length z = c.set k (pz l5) ++ [z] := fun z => by
          have := set_last (c.set k (pz l5)) (some (rs.map D.int)) z
          simpa using this
        try simp only [gl, decide_true, decide_false, Bool.and_self, eq_self, W_loop0, WL_nil, true_or, or_true, or_false, W_seq, W_asg1, W_asgT, W_drop, W_ret, W_if, W_not, W_test, W_andV, W_notV, W_orV, W_andT, W_orT, W_bin, W_cons, W_nm, W_fn, W_fnK0, W_met, W_fld, W_pure, W_bind, W_isB, W_isLT, W_isH, W_add, W_sub, W_neg, W_ord, W_int, W_min, W_max, W_cat, W_part, W_sli, W_cutL, W_listL, W_listT, W_sumL, W_allL, W_itm, W_rng1, W_rng2, W_enu, W_zip', W_for, W_lc, W_app, W_sas, W_aug, W_par, W_lenL, W_lenT, W_lenS, W_iadd, W_isub, W_isBl, W_bit, Wa_newL, Wa_newT, Wa_newC, Wa_mul, Wa_div, Wa_mod, Wa_pow, Wa_ixL, Wa_ixT, Wa_ixC, Wa_lenC, Wa_mk, W_eqL, W_eqI, W_eqB, W_fail, W_cutS, W_cutC, startD, List.map_cons, List.map_nil, List.length_cons, List.length_nil, List.length_map, List.cons_append, List.nil_append, List.getElem?_cons_zero, List.getElem?_cons_succ, List.set_cons_zero, List.set_cons_succ, Option.some.injEq, exists_eq_left', List.replicate, Nat.reduceAdd, Nat.reduceSub, Nat.reduceMul, D.bl.injEq, D.int.injEq, D.hs.injEq, D.lst.injEq, D.ow.injEq, D.tup.injEq, List.cons.injEq, and_true, true_and, reduceCtorEq, Bool.not_true, Bool.not_false, false_implies, true_implies, forall_const, imp_self, Bool.false_eq_true, if_true, if_false, ↓reduceIte, Bool.true_eq_false, ty_ii, ty_bi, ty_li, ty_ti, ty_ib, ty_bb, ty_lb, ty_tb, ty_ll, ty_tl, ty_dl, okd_int, okd_bl, okd_lst, okd_hs, kin_hs, wipeD, Tg.st, setAll, exists_and_left, exists_eq_left, exists_eq', and_assoc, exists_and_right]
        refine ⟨szl (by simp; omega), l5, rs ++ [if x < 60 then x else 60], some (.int y), some (.lst [.int 0, .int 1, .int (y - 1), .int y, .int (y + 1), .int (2 * y - 1), .int (2 * y)]), ?_, ?_, by simp [g2], fun z hz => ?_⟩
        · rw [sl, List.map_append]; rfl
        · exact hl5.mono (by omega)
        · rcases List.mem_append.mp hz with hz | hz
          · exact g3 z hz
          · simp only [List.mem_singleton] at hz
            subst hz
            simp only [List.mem_cons, List.not_mem_nil, or_false] at hx
            split <;> omega
    · obtain ⟨l2, rs, x4, x5, rfl, g1, g2, g3⟩ := hJ
      simp only [List.length_map, List.length_append, List.length_cons, List.length_nil] at g1 g2
      exact q b rs l2 x4 x5 ⟨by omega, by omega, h4, g3⟩ (g1.mono (by omega))

theorem cell_end {c : Cells} {k : Nat} {l : List Int} {x : Option (List D)} : (c.set k (pz l) ++ [x])[c.length]? = some x := by rw [show c.length = (c.set k (pz l)).length by simp, get_last]
theorem cell_put {c : Cells} {k : Nat} {l : List Int} {x z : Option (List D)} : (c.set k (pz l) ++ [x]).set c.length z = c.set k (pz l) ++ [z] := by
  have := set_last (c.set k (pz l)) x z
  simpa using this
theorem fw_house (k : Nat) (l : List Int) (t : Nat) (hc : c[k]? = some (pz l)) (hl : Pl l t) (ht : t + 40 < 2 ^ 19) (n : Nat) (hn : 1 ≤ n) (hn' : n ≤ 8) (q : ∀ b r l', gh b r n → Pl l' (t + 40) → Q (hd b r) (c.set k (pz l'))) : FW F__law_house [.ow k, .int n] c Q := by
  refine FW_runBx rfl ?_
  unfold b__law_house
  refine house_core (xv := true) k l t hc hl ht n hn hn' fun b r l' x4 x5 hg hl' => ?_
  try simp only [decide_true, decide_false, Bool.and_self, eq_self, W_loop0, WL_nil, true_or, or_true, or_false, W_seq, W_asg1, W_asgT, W_drop, W_ret, W_if, W_not, W_test, W_andV, W_notV, W_orV, W_andT, W_orT, W_bin, W_cons, W_nm, W_fn, W_fnK0, W_met, W_fld, W_pure, W_bind, W_isB, W_isLT, W_isH, W_add, W_sub, W_neg, W_ord, W_int, W_min, W_max, W_cat, W_part, W_sli, W_cutL, W_listL, W_listT, W_sumL, W_allL, W_itm, W_rng1, W_rng2, W_enu, W_zip', W_for, W_lc, W_app, W_sas, W_aug, W_par, W_lenL, W_lenT, W_lenS, W_iadd, W_isub, W_isBl, W_bit, Wa_newL, Wa_newT, Wa_newC, Wa_mul, Wa_div, Wa_mod, Wa_pow, Wa_ixL, Wa_ixT, Wa_ixC, Wa_lenC, Wa_mk, W_eqL, W_eqI, W_eqB, W_fail, W_cutS, W_cutC, startD, List.map_cons, List.map_nil, List.length_cons, List.length_nil, List.length_map, List.cons_append, List.nil_append, List.getElem?_cons_zero, List.getElem?_cons_succ, List.set_cons_zero, List.set_cons_succ, Option.some.injEq, exists_eq_left', List.replicate, Nat.reduceAdd, Nat.reduceSub, Nat.reduceMul, D.bl.injEq, D.int.injEq, D.hs.injEq, D.lst.injEq, D.ow.injEq, D.tup.injEq, List.cons.injEq, and_true, true_and, reduceCtorEq, Bool.not_true, Bool.not_false, false_implies, true_implies, forall_const, imp_self, Bool.false_eq_true, if_true, if_false, ↓reduceIte, Bool.true_eq_false, ty_ii, ty_bi, ty_li, ty_ti, ty_ib, ty_bb, ty_lb, ty_tb, ty_ll, ty_tl, ty_dl, okd_int, okd_bl, okd_lst, okd_hs, kin_hs, wipeD, Tg.st, setAll, exists_and_left, exists_eq_left, exists_eq', and_assoc, exists_and_right]
  rw [W_frnC (k := c.length) rfl cell_end (lowL_ints _ _)]
  try simp only [decide_true, decide_false, Bool.and_self, eq_self, W_loop0, WL_nil, true_or, or_true, or_false, W_seq, W_asg1, W_asgT, W_drop, W_ret, W_if, W_not, W_test, W_andV, W_notV, W_orV, W_andT, W_orT, W_bin, W_cons, W_nm, W_fn, W_fnK0, W_met, W_fld, W_pure, W_bind, W_isB, W_isLT, W_isH, W_add, W_sub, W_neg, W_ord, W_int, W_min, W_max, W_cat, W_part, W_sli, W_cutL, W_listL, W_listT, W_sumL, W_allL, W_itm, W_rng1, W_rng2, W_enu, W_zip', W_for, W_lc, W_app, W_sas, W_aug, W_par, W_lenL, W_lenT, W_lenS, W_iadd, W_isub, W_isBl, W_bit, Wa_newL, Wa_newT, Wa_newC, Wa_mul, Wa_div, Wa_mod, Wa_pow, Wa_ixL, Wa_ixT, Wa_ixC, Wa_lenC, Wa_mk, W_eqL, W_eqI, W_eqB, W_fail, W_cutS, W_cutC, startD, List.map_cons, List.map_nil, List.length_cons, List.length_nil, List.length_map, List.cons_append, List.nil_append, List.getElem?_cons_zero, List.getElem?_cons_succ, List.set_cons_zero, List.set_cons_succ, Option.some.injEq, exists_eq_left', List.replicate, Nat.reduceAdd, Nat.reduceSub, Nat.reduceMul, D.bl.injEq, D.int.injEq, D.hs.injEq, D.lst.injEq, D.ow.injEq, D.tup.injEq, List.cons.injEq, and_true, true_and, reduceCtorEq, Bool.not_true, Bool.not_false, false_implies, true_implies, forall_const, imp_self, Bool.false_eq_true, if_true, if_false, ↓reduceIte, Bool.true_eq_false, ty_ii, ty_bi, ty_li, ty_ti, ty_ib, ty_bb, ty_lb, ty_tb, ty_ll, ty_tl, ty_dl, okd_int, okd_bl, okd_lst, okd_hs, kin_hs, wipeD, Tg.st, setAll, exists_and_left, exists_eq_left, exists_eq', and_assoc, exists_and_right]
  refine ⟨szl (by decide), ?_⟩
  rw [cell_put]
  refine ⟨c.set k (pz l'), [none, some [.lst (b.map D.int), .lst (r.map D.int)]], hd b r, by simp, by simp, keep_set l', .inr ⟨_, rfl, ?_⟩, q b r l' hg hl'⟩
  refine fz_cell_hd (by simp) b r ?_
  simp [List.getElem?_append]
theorem fw_house_x (k : Nat) (l : List Int) (t : Nat) (hc : c[k]? = some (pz l)) (hl : Pl l t) (ht : t + 40 < 2 ^ 19) (n : Nat) (hn : 1 ≤ n) (hn' : n ≤ 8) (q : ∀ b r l', gh b r n → Pl l' (t + 40) → Q (.lst [.lst (b.map D.int), .ow c.length]) (c.set k (pz l') ++ [some (r.map D.int)])) : FW F__law_house_x [.ow k, .int n] c Q := by
  have hk : k < c.length := (List.getElem?_eq_some_iff.mp hc).1
  refine FW_runBx rfl ?_
  unfold b__law_house_x
  refine house_core (xv := true) k l t hc hl ht n hn hn' fun b r l' x4 x5 hg hl' => ?_
  try simp only [decide_true, decide_false, Bool.and_self, eq_self, W_loop0, WL_nil, true_or, or_true, or_false, W_seq, W_asg1, W_asgT, W_drop, W_ret, W_if, W_not, W_test, W_andV, W_notV, W_orV, W_andT, W_orT, W_bin, W_cons, W_nm, W_fn, W_fnK0, W_met, W_fld, W_pure, W_bind, W_isB, W_isLT, W_isH, W_add, W_sub, W_neg, W_ord, W_int, W_min, W_max, W_cat, W_part, W_sli, W_cutL, W_listL, W_listT, W_sumL, W_allL, W_itm, W_rng1, W_rng2, W_enu, W_zip', W_for, W_lc, W_app, W_sas, W_aug, W_par, W_lenL, W_lenT, W_lenS, W_iadd, W_isub, W_isBl, W_bit, Wa_newL, Wa_newT, Wa_newC, Wa_mul, Wa_div, Wa_mod, Wa_pow, Wa_ixL, Wa_ixT, Wa_ixC, Wa_lenC, Wa_mk, W_eqL, W_eqI, W_eqB, W_fail, W_cutS, W_cutC, startD, List.map_cons, List.map_nil, List.length_cons, List.length_nil, List.length_map, List.cons_append, List.nil_append, List.getElem?_cons_zero, List.getElem?_cons_succ, List.set_cons_zero, List.set_cons_succ, Option.some.injEq, exists_eq_left', List.replicate, Nat.reduceAdd, Nat.reduceSub, Nat.reduceMul, D.bl.injEq, D.int.injEq, D.hs.injEq, D.lst.injEq, D.ow.injEq, D.tup.injEq, List.cons.injEq, and_true, true_and, reduceCtorEq, Bool.not_true, Bool.not_false, false_implies, true_implies, forall_const, imp_self, Bool.false_eq_true, if_true, if_false, ↓reduceIte, Bool.true_eq_false, ty_ii, ty_bi, ty_li, ty_ti, ty_ib, ty_bb, ty_lb, ty_tb, ty_ll, ty_tl, ty_dl, okd_int, okd_bl, okd_lst, okd_hs, kin_hs, wipeD, Tg.st, setAll, exists_and_left, exists_eq_left, exists_eq', and_assoc, exists_and_right]
  refine ⟨szl (by decide), ?_⟩
  refine ⟨c.set k (pz l') ++ [some (r.map D.int)], [some [.lst (b.map D.int), .ow c.length]], .lst [.lst (b.map D.int), .ow c.length], rfl, by simp, fun j hj => ?_, .inr ⟨_, rfl, ?_⟩, q b r l' hg hl'⟩
  · by_cases h1 : j < c.length
    · rw [List.getElem?_append_left (by simpa using h1)]
      by_cases h : k = j
      · subst h
        exact .inr (.inr ⟨_, get_set hk, lowL_ints _ _⟩)
      · exact .inl ⟨h1, by rw [List.getElem?_set_ne h]⟩
    · have e : j = c.length := by omega
      subst e
      exact .inr (.inr ⟨_, cell_end, lowL_ints _ _⟩)
  · rw [fz, if_neg (by simp)]
    simp only [List.length_append, List.length_set, List.length_cons, List.length_nil, Nat.zero_add]
    rw [show (c.set k (pz l') ++ [some (r.map D.int)] ++ [some [D.lst (b.map D.int), D.ow c.length]])[c.length + 1]? = some (some [D.lst (b.map D.int), D.ow c.length]) by
      rw [show c.length + 1 = (c.set k (pz l') ++ [some (r.map D.int)]).length by simp, get_last]]
    dsimp only
    rw [mapO, mapO, mapO, fz_ints, fz, if_pos (by omega)]
    rfl
def IG (c : Cells) (k t : Nat) (b : List Int) (n : Nat) (i : Nat) (e : En) : Prop := ∃ (l r : List Int) (x y : Option D), e = ⟨[some (.ow k), some (.lst [.lst (b.map D.int), .ow c.length]), x, y], c.set k (pz l) ++ [some (r.map D.int)]⟩ ∧ Pl l (t + 2 * i) ∧ gh b r n
theorem enu_get : ∀ (ds : List D) (k i : Nat) (d : D), (enuD k ds)[i]? = some d → ∃ x, ds[i]? = some x ∧ d = .tup [.int ((k + i : Nat) : Int), x] := fun ds k i d h => by
  rw [enuD_get] at h
  cases hd : ds[i]? with
  | none => rw [hd] at h; cases h
  | some x => rw [hd] at h; cases h; exact ⟨x, rfl, rfl⟩
theorem fw_great (k : Nat) (l : List Int) (t : Nat) (hc : c[k]? = some (pz l)) (hl : Pl l t) (ht : t + 80 < 2 ^ 19) (q : ∀ b r n l', n ≤ 8 → 1 ≤ n → gh b r n → Pl l' (t + 80) → Q (hd b r) (c.set k (pz l'))) : FW F__law_great_house [.ow k] c Q := by
  have hk : k < c.length := (List.getElem?_eq_some_iff.mp hc).1
  refine FW_runBx rfl ?_
  unfold b__law_great_house
  try simp only [decide_true, decide_false, Bool.and_self, eq_self, W_loop0, WL_nil, true_or, or_true, or_false, W_seq, W_asg1, W_asgT, W_drop, W_ret, W_if, W_not, W_test, W_andV, W_notV, W_orV, W_andT, W_orT, W_bin, W_cons, W_nm, W_fn, W_fnK0, W_met, W_fld, W_pure, W_bind, W_isB, W_isLT, W_isH, W_add, W_sub, W_neg, W_ord, W_int, W_min, W_max, W_cat, W_part, W_sli, W_cutL, W_listL, W_listT, W_sumL, W_allL, W_itm, W_rng1, W_rng2, W_enu, W_zip', W_for, W_lc, W_app, W_sas, W_aug, W_par, W_lenL, W_lenT, W_lenS, W_iadd, W_isub, W_isBl, W_bit, Wa_newL, Wa_newT, Wa_newC, Wa_mul, Wa_div, Wa_mod, Wa_pow, Wa_ixL, Wa_ixT, Wa_ixC, Wa_lenC, Wa_mk, W_eqL, W_eqI, W_eqB, W_fail, W_cutS, W_cutC, startD, List.map_cons, List.map_nil, List.length_cons, List.length_nil, List.length_map, List.cons_append, List.nil_append, List.getElem?_cons_zero, List.getElem?_cons_succ, List.set_cons_zero, List.set_cons_succ, Option.some.injEq, exists_eq_left', List.replicate, Nat.reduceAdd, Nat.reduceSub, Nat.reduceMul, D.bl.injEq, D.int.injEq, D.hs.injEq, D.lst.injEq, D.ow.injEq, D.tup.injEq, List.cons.injEq, and_true, true_and, reduceCtorEq, Bool.not_true, Bool.not_false, false_implies, true_implies, forall_const, imp_self, Bool.false_eq_true, if_true, if_false, ↓reduceIte, Bool.true_eq_false, ty_ii, ty_bi, ty_li, ty_ti, ty_ib, ty_bb, ty_lb, ty_tb, ty_ll, ty_tl, ty_dl, okd_int, okd_bl, okd_lst, okd_hs, kin_hs, wipeD, Tg.st, setAll, exists_and_left, exists_eq_left, exists_eq', and_assoc, exists_and_right]
  refine fw_draw k l t hc hl (by omega) 4 (by decide) (by decide) fun i l1 h0 h1 hl1 => ?_
  try simp only [decide_true, decide_false, Bool.and_self, eq_self, W_loop0, WL_nil, true_or, or_true, or_false, W_seq, W_asg1, W_asgT, W_drop, W_ret, W_if, W_not, W_test, W_andV, W_notV, W_orV, W_andT, W_orT, W_bin, W_cons, W_nm, W_fn, W_fnK0, W_met, W_fld, W_pure, W_bind, W_isB, W_isLT, W_isH, W_add, W_sub, W_neg, W_ord, W_int, W_min, W_max, W_cat, W_part, W_sli, W_cutL, W_listL, W_listT, W_sumL, W_allL, W_itm, W_rng1, W_rng2, W_enu, W_zip', W_for, W_lc, W_app, W_sas, W_aug, W_par, W_lenL, W_lenT, W_lenS, W_iadd, W_isub, W_isBl, W_bit, Wa_newL, Wa_newT, Wa_newC, Wa_mul, Wa_div, Wa_mod, Wa_pow, Wa_ixL, Wa_ixT, Wa_ixC, Wa_lenC, Wa_mk, W_eqL, W_eqI, W_eqB, W_fail, W_cutS, W_cutC, startD, List.map_cons, List.map_nil, List.length_cons, List.length_nil, List.length_map, List.cons_append, List.nil_append, List.getElem?_cons_zero, List.getElem?_cons_succ, List.set_cons_zero, List.set_cons_succ, Option.some.injEq, exists_eq_left', List.replicate, Nat.reduceAdd, Nat.reduceSub, Nat.reduceMul, D.bl.injEq, D.int.injEq, D.hs.injEq, D.lst.injEq, D.ow.injEq, D.tup.injEq, List.cons.injEq, and_true, true_and, reduceCtorEq, Bool.not_true, Bool.not_false, false_implies, true_implies, forall_const, imp_self, Bool.false_eq_true, if_true, if_false, ↓reduceIte, Bool.true_eq_false, ty_ii, ty_bi, ty_li, ty_ti, ty_ib, ty_bb, ty_lb, ty_tb, ty_ll, ty_tl, ty_dl, okd_int, okd_bl, okd_lst, okd_hs, kin_hs, wipeD, Tg.st, setAll, exists_and_left, exists_eq_left, exists_eq', and_assoc, exists_and_right]
  obtain ⟨m, rfl⟩ := Int.eq_ofNat_of_zero_le h0
  rw [show (5 : Int) + (m : Int) = ((5 + m : Nat) : Int) by omega]
  refine fw_house_x k l1 (t + 1) (get_set hk) hl1 (by omega) (5 + m) (by omega) (by omega) fun b r l2 hg hl2 => ?_
  rw [List.set_set]
  try simp only [at0, at1, List.length_set, decide_true, decide_false, Bool.and_self, eq_self, W_loop0, WL_nil, true_or, or_true, or_false, W_seq, W_asg1, W_asgT, W_drop, W_ret, W_if, W_not, W_test, W_andV, W_notV, W_orV, W_andT, W_orT, W_bin, W_cons, W_nm, W_fn, W_fnK0, W_met, W_fld, W_pure, W_bind, W_isB, W_isLT, W_isH, W_add, W_sub, W_neg, W_ord, W_int, W_min, W_max, W_cat, W_part, W_sli, W_cutL, W_listL, W_listT, W_sumL, W_allL, W_itm, W_rng1, W_rng2, W_enu, W_zip', W_for, W_lc, W_app, W_sas, W_aug, W_par, W_lenL, W_lenT, W_lenS, W_iadd, W_isub, W_isBl, W_bit, Wa_newL, Wa_newT, Wa_newC, Wa_mul, Wa_div, Wa_mod, Wa_pow, Wa_ixL, Wa_ixT, Wa_ixC, Wa_lenC, Wa_mk, W_eqL, W_eqI, W_eqB, W_fail, W_cutS, W_cutC, startD, List.map_cons, List.map_nil, List.length_cons, List.length_nil, List.length_map, List.cons_append, List.nil_append, List.getElem?_cons_zero, List.getElem?_cons_succ, List.set_cons_zero, List.set_cons_succ, Option.some.injEq, exists_eq_left', List.replicate, Nat.reduceAdd, Nat.reduceSub, Nat.reduceMul, D.bl.injEq, D.int.injEq, D.hs.injEq, D.lst.injEq, D.ow.injEq, D.tup.injEq, List.cons.injEq, and_true, true_and, reduceCtorEq, Bool.not_true, Bool.not_false, false_implies, true_implies, forall_const, imp_self, Bool.false_eq_true, if_true, if_false, ↓reduceIte, Bool.true_eq_false, ty_ii, ty_bi, ty_li, ty_ti, ty_ib, ty_bb, ty_lb, ty_tb, ty_ll, ty_tl, ty_dl, okd_int, okd_bl, okd_lst, okd_hs, kin_hs, wipeD, Tg.st, setAll, exists_and_left, exists_eq_left, exists_eq', and_assoc, exists_and_right]
  refine W_seqloop _ (IG c k (t + 50) b (5 + m)) _ (fun i d e hi hJ => ?_) ⟨l2, r, none, none, rfl, hl2.mono (by omega), hg⟩ (fun e hJ => ?_)
  · obtain ⟨x, hx, rfl⟩ := enu_get _ _ _ _ hi
    obtain ⟨l3, r3, x4, y4, rfl, g1, g2⟩ := hJ
    rw [List.getElem?_map] at hx
    cases hb : b[i]? with
    | none => rw [hb] at hx; cases hx
    | some y =>
      rw [hb] at hx
      cases hx
      have hin : i < b.length := (List.getElem?_eq_some_iff.mp hb).1
      have q1 := g2.1
      have q2 := g2.2.1
      have hy := g2.2.2.1 y (List.mem_of_getElem? hb)
      refine ⟨_, rfl, ?_⟩
      rw [Nat.zero_add]
      try simp only [decide_true, decide_false, Bool.and_self, eq_self, W_loop0, WL_nil, true_or, or_true, or_false, W_seq, W_asg1, W_asgT, W_drop, W_ret, W_if, W_not, W_test, W_andV, W_notV, W_orV, W_andT, W_orT, W_bin, W_cons, W_nm, W_fn, W_fnK0, W_met, W_fld, W_pure, W_bind, W_isB, W_isLT, W_isH, W_add, W_sub, W_neg, W_ord, W_int, W_min, W_max, W_cat, W_part, W_sli, W_cutL, W_listL, W_listT, W_sumL, W_allL, W_itm, W_rng1, W_rng2, W_enu, W_zip', W_for, W_lc, W_app, W_sas, W_aug, W_par, W_lenL, W_lenT, W_lenS, W_iadd, W_isub, W_isBl, W_bit, Wa_newL, Wa_newT, Wa_newC, Wa_mul, Wa_div, Wa_mod, Wa_pow, Wa_ixL, Wa_ixT, Wa_ixC, Wa_lenC, Wa_mk, W_eqL, W_eqI, W_eqB, W_fail, W_cutS, W_cutC, startD, List.map_cons, List.map_nil, List.length_cons, List.length_nil, List.length_map, List.cons_append, List.nil_append, List.getElem?_cons_zero, List.getElem?_cons_succ, List.set_cons_zero, List.set_cons_succ, Option.some.injEq, exists_eq_left', List.replicate, Nat.reduceAdd, Nat.reduceSub, Nat.reduceMul, D.bl.injEq, D.int.injEq, D.hs.injEq, D.lst.injEq, D.ow.injEq, D.tup.injEq, List.cons.injEq, and_true, true_and, reduceCtorEq, Bool.not_true, Bool.not_false, false_implies, true_implies, forall_const, imp_self, Bool.false_eq_true, if_true, if_false, ↓reduceIte, Bool.true_eq_false, ty_ii, ty_bi, ty_li, ty_ti, ty_ib, ty_bb, ty_lb, ty_tb, ty_ll, ty_tl, ty_dl, okd_int, okd_bl, okd_lst, okd_hs, kin_hs, wipeD, Tg.st, setAll, exists_and_left, exists_eq_left, exists_eq', and_assoc, exists_and_right]
      refine fw_draw k l3 _ (get_app hk) g1 (by omega) 3 (by decide) (by decide) fun i1 l4 hi1 hi1' hl4 => ?_
      rw [set_app hk]
      try simp only [decide_true, decide_false, Bool.and_self, eq_self, W_loop0, WL_nil, true_or, or_true, or_false, W_seq, W_asg1, W_asgT, W_drop, W_ret, W_if, W_not, W_test, W_andV, W_notV, W_orV, W_andT, W_orT, W_bin, W_cons, W_nm, W_fn, W_fnK0, W_met, W_fld, W_pure, W_bind, W_isB, W_isLT, W_isH, W_add, W_sub, W_neg, W_ord, W_int, W_min, W_max, W_cat, W_part, W_sli, W_cutL, W_listL, W_listT, W_sumL, W_allL, W_itm, W_rng1, W_rng2, W_enu, W_zip', W_for, W_lc, W_app, W_sas, W_aug, W_par, W_lenL, W_lenT, W_lenS, W_iadd, W_isub, W_isBl, W_bit, Wa_newL, Wa_newT, Wa_newC, Wa_mul, Wa_div, Wa_mod, Wa_pow, Wa_ixL, Wa_ixT, Wa_ixC, Wa_lenC, Wa_mk, W_eqL, W_eqI, W_eqB, W_fail, W_cutS, W_cutC, startD, List.map_cons, List.map_nil, List.length_cons, List.length_nil, List.length_map, List.cons_append, List.nil_append, List.getElem?_cons_zero, List.getElem?_cons_succ, List.set_cons_zero, List.set_cons_succ, Option.some.injEq, exists_eq_left', List.replicate, Nat.reduceAdd, Nat.reduceSub, Nat.reduceMul, D.bl.injEq, D.int.injEq, D.hs.injEq, D.lst.injEq, D.ow.injEq, D.tup.injEq, List.cons.injEq, and_true, true_and, reduceCtorEq, Bool.not_true, Bool.not_false, false_implies, true_implies, forall_const, imp_self, Bool.false_eq_true, if_true, if_false, ↓reduceIte, Bool.true_eq_false, ty_ii, ty_bi, ty_li, ty_ti, ty_ib, ty_bb, ty_lb, ty_tb, ty_ll, ty_tl, ty_dl, okd_int, okd_bl, okd_lst, okd_hs, kin_hs, wipeD, Tg.st, setAll, exists_and_left, exists_eq_left, exists_eq', and_assoc, exists_and_right]
      have hz : r3[i]? = some (r3[i]'(by omega)) := List.getElem?_eq_getElem (by omega)
      refine ⟨fun _ => ?_, fun _ => ?_⟩
      · try simp only [at0, at1, cell_end, decide_true, decide_false, Bool.and_self, eq_self, W_loop0, WL_nil, true_or, or_true, or_false, W_seq, W_asg1, W_asgT, W_drop, W_ret, W_if, W_not, W_test, W_andV, W_notV, W_orV, W_andT, W_orT, W_bin, W_cons, W_nm, W_fn, W_fnK0, W_met, W_fld, W_pure, W_bind, W_isB, W_isLT, W_isH, W_add, W_sub, W_neg, W_ord, W_int, W_min, W_max, W_cat, W_part, W_sli, W_cutL, W_listL, W_listT, W_sumL, W_allL, W_itm, W_rng1, W_rng2, W_enu, W_zip', W_for, W_lc, W_app, W_sas, W_aug, W_par, W_lenL, W_lenT, W_lenS, W_iadd, W_isub, W_isBl, W_bit, Wa_newL, Wa_newT, Wa_newC, Wa_mul, Wa_div, Wa_mod, Wa_pow, Wa_ixL, Wa_ixT, Wa_ixC, Wa_lenC, Wa_mk, W_eqL, W_eqI, W_eqB, W_fail, W_cutS, W_cutC, startD, List.map_cons, List.map_nil, List.length_cons, List.length_nil, List.length_map, List.cons_append, List.nil_append, List.getElem?_cons_zero, List.getElem?_cons_succ, List.set_cons_zero, List.set_cons_succ, Option.some.injEq, exists_eq_left', List.replicate, Nat.reduceAdd, Nat.reduceSub, Nat.reduceMul, D.bl.injEq, D.int.injEq, D.hs.injEq, D.lst.injEq, D.ow.injEq, D.tup.injEq, List.cons.injEq, and_true, true_and, reduceCtorEq, Bool.not_true, Bool.not_false, false_implies, true_implies, forall_const, imp_self, Bool.false_eq_true, if_true, if_false, ↓reduceIte, Bool.true_eq_false, ty_ii, ty_bi, ty_li, ty_ti, ty_ib, ty_bb, ty_lb, ty_tb, ty_ll, ty_tl, ty_dl, okd_int, okd_bl, okd_lst, okd_hs, kin_hs, wipeD, Tg.st, setAll, exists_and_left, exists_eq_left, exists_eq', and_assoc, exists_and_right]
        refine ⟨.int (r3[i]'(by omega)), atI_nat (by rw [List.getElem?_map, hz]; rfl), ?_⟩
        try simp only [decide_true, decide_false, Bool.and_self, eq_self, W_loop0, WL_nil, true_or, or_true, or_false, W_seq, W_asg1, W_asgT, W_drop, W_ret, W_if, W_not, W_test, W_andV, W_notV, W_orV, W_andT, W_orT, W_bin, W_cons, W_nm, W_fn, W_fnK0, W_met, W_fld, W_pure, W_bind, W_isB, W_isLT, W_isH, W_add, W_sub, W_neg, W_ord, W_int, W_min, W_max, W_cat, W_part, W_sli, W_cutL, W_listL, W_listT, W_sumL, W_allL, W_itm, W_rng1, W_rng2, W_enu, W_zip', W_for, W_lc, W_app, W_sas, W_aug, W_par, W_lenL, W_lenT, W_lenS, W_iadd, W_isub, W_isBl, W_bit, Wa_newL, Wa_newT, Wa_newC, Wa_mul, Wa_div, Wa_mod, Wa_pow, Wa_ixL, Wa_ixT, Wa_ixC, Wa_lenC, Wa_mk, W_eqL, W_eqI, W_eqB, W_fail, W_cutS, W_cutC, startD, List.map_cons, List.map_nil, List.length_cons, List.length_nil, List.length_map, List.cons_append, List.nil_append, List.getElem?_cons_zero, List.getElem?_cons_succ, List.set_cons_zero, List.set_cons_succ, Option.some.injEq, exists_eq_left', List.replicate, Nat.reduceAdd, Nat.reduceSub, Nat.reduceMul, D.bl.injEq, D.int.injEq, D.hs.injEq, D.lst.injEq, D.ow.injEq, D.tup.injEq, List.cons.injEq, and_true, true_and, reduceCtorEq, Bool.not_true, Bool.not_false, false_implies, true_implies, forall_const, imp_self, Bool.false_eq_true, if_true, if_false, ↓reduceIte, Bool.true_eq_false, ty_ii, ty_bi, ty_li, ty_ti, ty_ib, ty_bb, ty_lb, ty_tb, ty_ll, ty_tl, ty_dl, okd_int, okd_bl, okd_lst, okd_hs, kin_hs, wipeD, Tg.st, setAll, exists_and_left, exists_eq_left, exists_eq', and_assoc, exists_and_right]
        refine ⟨fun _ => ?_, fun _ => ?_⟩
        · refine fw_draw k l4 _ (get_app hk) hl4 (by omega) 4 (by decide) (by decide) fun i2 l5 hi2 hi2' hl5 => ?_
          rw [set_app hk]
          try simp only [at0, at1, cell_end, decide_true, decide_false, Bool.and_self, eq_self, W_loop0, WL_nil, true_or, or_true, or_false, W_seq, W_asg1, W_asgT, W_drop, W_ret, W_if, W_not, W_test, W_andV, W_notV, W_orV, W_andT, W_orT, W_bin, W_cons, W_nm, W_fn, W_fnK0, W_met, W_fld, W_pure, W_bind, W_isB, W_isLT, W_isH, W_add, W_sub, W_neg, W_ord, W_int, W_min, W_max, W_cat, W_part, W_sli, W_cutL, W_listL, W_listT, W_sumL, W_allL, W_itm, W_rng1, W_rng2, W_enu, W_zip', W_for, W_lc, W_app, W_sas, W_aug, W_par, W_lenL, W_lenT, W_lenS, W_iadd, W_isub, W_isBl, W_bit, Wa_newL, Wa_newT, Wa_newC, Wa_mul, Wa_div, Wa_mod, Wa_pow, Wa_ixL, Wa_ixT, Wa_ixC, Wa_lenC, Wa_mk, W_eqL, W_eqI, W_eqB, W_fail, W_cutS, W_cutC, startD, List.map_cons, List.map_nil, List.length_cons, List.length_nil, List.length_map, List.cons_append, List.nil_append, List.getElem?_cons_zero, List.getElem?_cons_succ, List.set_cons_zero, List.set_cons_succ, Option.some.injEq, exists_eq_left', List.replicate, Nat.reduceAdd, Nat.reduceSub, Nat.reduceMul, D.bl.injEq, D.int.injEq, D.hs.injEq, D.lst.injEq, D.ow.injEq, D.tup.injEq, List.cons.injEq, and_true, true_and, reduceCtorEq, Bool.not_true, Bool.not_false, false_implies, true_implies, forall_const, imp_self, Bool.false_eq_true, if_true, if_false, ↓reduceIte, Bool.true_eq_false, ty_ii, ty_bi, ty_li, ty_ti, ty_ib, ty_bb, ty_lb, ty_tb, ty_ll, ty_tl, ty_dl, okd_int, okd_bl, okd_lst, okd_hs, kin_hs, wipeD, Tg.st, setAll, exists_and_left, exists_eq_left, exists_eq', and_assoc, exists_and_right]
          refine ⟨i, ixN_nat (by first | omega | (simp; omega)), ?_⟩
          rw [cell_put, set_ints]
          refine ⟨l5, _, _, _, rfl, hl5.mono (by omega), g2.1, by simp [g2.2.1], g2.2.2.1, fun z hz => ?_⟩
          rcases List.mem_or_eq_of_mem_set hz with hz | rfl
          · exact g2.2.2.2 z hz
          · split <;> omega
        · exact ⟨l4, r3, _, _, rfl, hl4.mono (by omega), g2⟩
      · exact ⟨l4, r3, _, _, rfl, hl4.mono (by omega), g2⟩
  · obtain ⟨l3, r3, x4, y4, rfl, g1, g2⟩ := hJ
    try simp only [decide_true, decide_false, Bool.and_self, eq_self, W_loop0, WL_nil, true_or, or_true, or_false, W_seq, W_asg1, W_asgT, W_drop, W_ret, W_if, W_not, W_test, W_andV, W_notV, W_orV, W_andT, W_orT, W_bin, W_cons, W_nm, W_fn, W_fnK0, W_met, W_fld, W_pure, W_bind, W_isB, W_isLT, W_isH, W_add, W_sub, W_neg, W_ord, W_int, W_min, W_max, W_cat, W_part, W_sli, W_cutL, W_listL, W_listT, W_sumL, W_allL, W_itm, W_rng1, W_rng2, W_enu, W_zip', W_for, W_lc, W_app, W_sas, W_aug, W_par, W_lenL, W_lenT, W_lenS, W_iadd, W_isub, W_isBl, W_bit, Wa_newL, Wa_newT, Wa_newC, Wa_mul, Wa_div, Wa_mod, Wa_pow, Wa_ixL, Wa_ixT, Wa_ixC, Wa_lenC, Wa_mk, W_eqL, W_eqI, W_eqB, W_fail, W_cutS, W_cutC, startD, List.map_cons, List.map_nil, List.length_cons, List.length_nil, List.length_map, List.cons_append, List.nil_append, List.getElem?_cons_zero, List.getElem?_cons_succ, List.set_cons_zero, List.set_cons_succ, Option.some.injEq, exists_eq_left', List.replicate, Nat.reduceAdd, Nat.reduceSub, Nat.reduceMul, D.bl.injEq, D.int.injEq, D.hs.injEq, D.lst.injEq, D.ow.injEq, D.tup.injEq, List.cons.injEq, and_true, true_and, reduceCtorEq, Bool.not_true, Bool.not_false, false_implies, true_implies, forall_const, imp_self, Bool.false_eq_true, if_true, if_false, ↓reduceIte, Bool.true_eq_false, ty_ii, ty_bi, ty_li, ty_ti, ty_ib, ty_bb, ty_lb, ty_tb, ty_ll, ty_tl, ty_dl, okd_int, okd_bl, okd_lst, okd_hs, kin_hs, wipeD, Tg.st, setAll, exists_and_left, exists_eq_left, exists_eq', and_assoc, exists_and_right]
    rw [enuD_len, List.length_map] at g1
    have q1 := g2.1
    refine ⟨c.set k (pz l3), [some (r3.map D.int)], hd b r3, rfl, by simp, keep_set l3, .inr ⟨_, rfl, ?_⟩, q b r3 (5 + m) l3 (by omega) (by omega) g2 (g1.mono (by omega))⟩
    rw [fz, mapO, mapO, mapO, fz_ints]
    dsimp only
    rw [show fz (c.length + 0) (c.set k (pz l3) ++ [some (r3.map D.int)]) 8 (.ow c.length) = some (.lst (r3.map D.int)) from fz_cell (Nat.lt_irrefl c.length) r3 cell_end]
    rfl
end
end K4

/-! K4E: the last ones of the law's functions, printed by gen.py. -/
namespace K4
open PySem PySem.Spec PyProof.Rows L2 CD
noncomputable section
variable {P : Program} {w : World} {K : PySem.W.Frag} {mg : Str → Option Value} {base : Heap} {C : Hc} {xa : Str → Addr}
abbrev s_House___eq__ : Stmt := inClass (topS 17) 4
theorem sc_House___eq__ : FnScope ["self", "other"] ["self", "other"] (defScope s_House___eq__) := ⟨rfl, rfl, rfl, by decide +kernel, rfl, by decide +kernel, by decide +kernel⟩
def b_House___eq__ : M Ctl := (retS (andV (isH (nmM 1)) (andV (binM (eqG false) (fldM true (nmM 0)) (fldM true (nmM 1))) (binM (eqG false) (fldM false (nmM 0)) (fldM false (nmM 1))))))
noncomputable def F_House___eq__ : Fn := runBx ["self", "other"] 2 (fun _ => 0) b_House___eq__
theorem der_House___eq__ (T : Txt mg C) (hk : HK C) (hC : C.K = K) {qual : Str} {f : Addr} (cdv : Value) (A : Around) (outer : List Env) (s : Shared) (H : Hp) (E : XK) (S : Addr → Prop) (hr : Room 0 (A.deeper (envOfC qual (defScope s_House___eq__) s.heap.objs.size f cdv))) :
    PSs (cxOf CX0 P w K mg base ["self", "other"] qual (defScope s_House___eq__) f cdv A outer s H E).nox (defBody s_House___eq__) (tS ⟨K, C, E0, xa, S⟩ b_House___eq__) :=
  (ds_one (ds_ret (d_and (d_isH hk hC (pe_callB call_isi (by rfl) T.isinstance PyProof.Rows.boot_isinstance (pa_cons (d_nm (pv 1)) (pa_cons (pe_glob (by rfl) T.House rfl) pa_nil)))) (d_and (d_cmp (op_eqD hr.units) o_eq (d_fldB hk hC (d_nm (pv 0)) rfl) (d_fldB hk hC (d_nm (pv 1)) rfl)) (d_one (d_cmp (op_eqD hr.units) o_eq (d_fldR hk hC (d_nm (pv 0)) rfl) (d_fldR hk hC (d_nm (pv 1)) rfl)))))))

abbrev s__law_behind_right : Stmt := topS 46
theorem sc__law_behind_right : FnScope ["_law_purse_here", "_law_house_here", "_law_other", "_law_made_here", "_law_many", "_law_due", "_law_late", "_law_one", "_law_two", "_law_base", "_law_weight"] ["_law_purse_here", "_law_house_here", "_law_other"] (defScope s__law_behind_right) := ⟨rfl, rfl, rfl, by decide +kernel, rfl, by decide +kernel, by decide +kernel⟩
def b__law_behind_right : M Ctl := (seqM (asgM (bindM (consM (fnM 1 F__law_made (consM (nmM 1) (pureM []))) (consM (fnM 1 F__law_made (consM (nmM 2) (pureM []))) (consM (binM (addG newL) (pureM (.int 2)) (fnM 2 F__law_draw (consM (nmM 0) (consM (pureM (.int 59)) (pureM []))))) (pureM [])))) newT) (.tup [7, 8, 9]))
    (seqM (asgM (fnK0M 3 F_set_behind perm210 (consM (nmM 8) (consM (nmM 9) (consM (nmM 7) (pureM []))))) (.one 3))
    (seqM (ifM (notT (testM (fnM 2 (F__law_exact 9) (consM (fnM 1 F__law_told_of (consM (nmM 3) (pureM []))) (consM (bindM (consM (binM (addG newL) (binM (addG newL) (binM ixG (nmM 1) (pureM (.int 0))) (bindM (consM (nmM 9) (pureM [])) newL)) (binM ixG (nmM 2) (pureM (.int 0)))) (consM (binM (addG newL) (binM ixG (nmM 1) (pureM (.int 1))) (binM ixG (nmM 2) (pureM (.int 1)))) (pureM []))) newL) (pureM [])))))) (retS (pureM (.bl false))) (pureM .nx))
    (seqM (asgM (bindM (consM (binM ixG (nmM 1) (pureM (.int 1))) (pureM [])) lenG) (.one 4))
    (seqM (ifM (orT (testM (binM (hsEqG true) (fnM 3 F_stretch (consM (nmM 3) (consM (pureM (.int 0)) (consM (binM subG (nmM 4) (pureM (.int 1))) (pureM []))))) (nmM 7))) (testM (binM (hsEqG true) (fnM 3 F_stretch (consM (nmM 3) (consM (nmM 4) (consM (binM subG (binM (addG newL) (nmM 4) (bindM (consM (binM ixG (nmM 2) (pureM (.int 1))) (pureM [])) lenG)) (pureM (.int 1))) (pureM []))))) (nmM 8)))) (retS (pureM (.bl false))) (pureM .nx))
    (seqM (asgM (fnM 1 F__law_weights (consM (nmM 1) (pureM []))) (.one 5))
    (seqM (asgM (binM (addG newL) (nmM 5) (lcM false (itmM (fnM 1 F__law_weights (consM (nmM 2) (pureM [])))) (.one 10) [10] (pureM true) (binM mulG (binM mulG (binM ixG (nmM 5) (bindM (pureM (.int 1)) negG)) (nmM 9)) (nmM 10)))) (.one 6))
    (retS (andV (fnM 2 (F__law_exact 9) (consM (fnM 1 F_weights (consM (nmM 3) (pureM []))) (consM (nmM 6) (pureM [])))) (fnM 2 (F__law_exact 9) (consM (bindM (consM (fnM 1 F__law_told_of (consM (nmM 7) (pureM []))) (consM (fnM 1 F__law_told_of (consM (nmM 8) (pureM []))) (pureM []))) newL) (consM (bindM (consM (nmM 1) (consM (nmM 2) (pureM []))) newL) (pureM [])))))))))))))
noncomputable def F__law_behind_right : Fn := runBx ["_law_purse_here", "_law_house_here", "_law_other", "_law_made_here", "_law_many", "_law_due", "_law_late", "_law_one", "_law_two", "_law_base", "_law_weight"] 3 (fun _ => 0) b__law_behind_right
theorem der__law_behind_right (T : Txt mg C) (hk : HK C) (hC : C.K = K) {f__law_draw : Addr} {fd__law_draw : FuncData} (c__law_draw : Ca P w K mg base C xa "_law_draw" ["_law_purse_here", "_law_many"] 2 F__law_draw f__law_draw fd__law_draw) {f__law_made : Addr} {fd__law_made : FuncData} (c__law_made : Ca P w K mg base C xa "_law_made" ["_law_house_here"] 6 F__law_made f__law_made fd__law_made) {f_set_behind : Addr} {fd_set_behind : FuncData} (c_set_behind : Ca P w K mg base C xa "set_behind" ["one", "base", "other"] 6 F_set_behind f_set_behind fd_set_behind) {f__law_exact : Addr} {fd__law_exact : FuncData} (c__law_exact : Ca P w K mg base C xa "_law_exact" ["_law_mine", "_law_theirs"] 9 (F__law_exact 9) f__law_exact fd__law_exact) {f__law_told_of : Addr} {fd__law_told_of : FuncData} (c__law_told_of : Ca P w K mg base C xa "_law_told_of" ["_law_made_here"] 10 F__law_told_of f__law_told_of fd__law_told_of) {f_stretch : Addr} {fd_stretch : FuncData} (c_stretch : Ca P w K mg base C xa "stretch" ["house", "first", "last"] 6 F_stretch f_stretch fd_stretch) {f__law_weights : Addr} {fd__law_weights : FuncData} (c__law_weights : Ca P w K mg base C xa "_law_weights" ["_law_house_here"] 1 F__law_weights f__law_weights fd__law_weights) {f_weights : Addr} {fd_weights : FuncData} (c_weights : Ca P w K mg base C xa "weights" ["house"] 2 F_weights f_weights fd_weights) (kb_set_behind_210 : Kb K fd_set_behind ["one", "base", "other"] ["other", "base", "one"] perm210) {f_House___eq__ : Addr} {fd_House___eq__ : FuncData} (hq : Qm P w K mg base C xa 1 F_House___eq__ f_House___eq__ fd_House___eq__) {qual : Str} {f : Addr} (cdv : Value) (A : Around) (outer : List Env) (s : Shared) (H : Hp) (E : XK) (S : Addr → Prop) (hr : Room 10 (A.deeper (envOfC qual (defScope s__law_behind_right) s.heap.objs.size f cdv))) :
    PSs (cxOf CX0 P w K mg base ["_law_purse_here", "_law_house_here", "_law_other", "_law_made_here", "_law_many", "_law_due", "_law_late", "_law_one", "_law_two", "_law_base", "_law_weight"] qual (defScope s__law_behind_right) f cdv A outer s H E).nox (defBody s__law_behind_right) (tS ⟨K, C, E0, xa, S⟩ b__law_behind_right) :=
  (ds_cons (ds_asg (t := (.tup [7, 8, 9])) (ps_asg (d_tup (da_cons (d_ca c__law_made rfl (hr.mono (by decide)) (by rfl) (da_cons (d_nm (pv 1)) da_nil)) (da_cons (d_ca c__law_made rfl (hr.mono (by decide)) (by rfl) (da_cons (d_nm (pv 2)) da_nil)) (da_cons (d_add mkL d_int (d_ca c__law_draw rfl (hr.mono (by decide)) (by rfl) (da_cons (d_nm (pv 0)) (da_cons d_int da_nil)))) da_nil)))) (pg_tup rfl (pgs_cons (pg_name (i := 7) sc__law_behind_right.nd rfl (Or.inl rfl)) (pgs_cons (pg_name (i := 8) sc__law_behind_right.nd rfl (Or.inl rfl)) (pgs_cons (pg_name (i := 9) sc__law_behind_right.nd rfl (Or.inr rfl)) pgs_nil))))) rfl)
    (ds_cons (ds_asg (t := .one 3) (ps_set (i := 3) sc__law_behind_right.nd rfl (Or.inl rfl) (d_ck ok210 c_set_behind kb_set_behind_210 (by decide) rfl (hr.mono (by decide)) (by rfl) (dk_cons (d_nm (pv 8)) (dk_cons (d_nm (pv 9)) (dk_cons (d_nm (pv 7)) dk_nil))))) rfl)
    (ds_cons (ds_if (dt_not (dt_val (d_ca c__law_exact rfl (hr.mono (by decide)) (by rfl) (da_cons (d_ca c__law_told_of rfl (hr.mono (by decide)) (by rfl) (da_cons (d_nm (pv 3)) da_nil)) (da_cons (d_lst mkL (da_cons (d_add mkL (d_add mkL (d_ix (d_nm (pv 1)) d_int (fun _ _ => rfl)) (d_lst mkL (da_cons (d_nm (pv 9)) da_nil))) (d_ix (d_nm (pv 2)) d_int (fun _ _ => rfl))) (da_cons (d_add mkL (d_ix (d_nm (pv 1)) d_int (fun _ _ => rfl)) (d_ix (d_nm (pv 2)) d_int (fun _ _ => rfl))) da_nil))) da_nil))))) (ds_one (ds_ret d_bl)) ds_nil)
    (ds_cons (ds_asg (t := .one 4) (ps_set (i := 4) sc__law_behind_right.nd rfl (Or.inl rfl) (d_call (o_len hC) (pe_callB call_len_seq (by rfl) T.len PySem.boot_len (da_cons (d_ix (d_nm (pv 1)) d_int (fun _ _ => rfl)) da_nil)))) rfl)
    (ds_cons (ds_if (dt_w (dw_or (dt_cmp (op_hsNe (G := ⟨K, C, E0, xa, S⟩) hq (hr.mono (by decide))) (o_hsNe (X := (cxOf CX0 P w K mg base ["_law_purse_here", "_law_house_here", "_law_other", "_law_made_here", "_law_many", "_law_due", "_law_late", "_law_one", "_law_two", "_law_base", "_law_weight"] qual (defScope s__law_behind_right) f cdv A outer s H E).nox) (G := ⟨K, C, E0, xa, S⟩) hq rfl) (d_ca c_stretch rfl (hr.mono (by decide)) (by rfl) (da_cons (d_nm (pv 3)) (da_cons d_int (da_cons (d_sub (d_nm (pv 4)) d_int) da_nil)))) (d_nm (pv 7))) (dw_or1 (dt_cmp (op_hsNe (G := ⟨K, C, E0, xa, S⟩) hq (hr.mono (by decide))) (o_hsNe (X := (cxOf CX0 P w K mg base ["_law_purse_here", "_law_house_here", "_law_other", "_law_made_here", "_law_many", "_law_due", "_law_late", "_law_one", "_law_two", "_law_base", "_law_weight"] qual (defScope s__law_behind_right) f cdv A outer s H E).nox) (G := ⟨K, C, E0, xa, S⟩) hq rfl) (d_ca c_stretch rfl (hr.mono (by decide)) (by rfl) (da_cons (d_nm (pv 3)) (da_cons (d_nm (pv 4)) (da_cons (d_sub (d_add mkL (d_nm (pv 4)) (d_call (o_len hC) (pe_callB call_len_seq (by rfl) T.len PySem.boot_len (da_cons (d_ix (d_nm (pv 2)) d_int (fun _ _ => rfl)) da_nil)))) d_int) da_nil)))) (d_nm (pv 8)))))) (ds_one (ds_ret d_bl)) ds_nil)
    (ds_cons (ds_asg (t := .one 5) (ps_set (i := 5) sc__law_behind_right.nd rfl (Or.inr rfl) (d_ca c__law_weights rfl (hr.mono (by decide)) (by rfl) (da_cons (d_nm (pv 1)) da_nil))) rfl)
    (ds_cons (ds_asg (t := .one 6) (ps_set (i := 6) sc__law_behind_right.nd rfl (Or.inl rfl) (d_add mkL (d_nm (pv 5)) (d_lc (t := (.one 10)) (by decide) (pe_lc (own := [("_law_weight", 10)]) (g := Tg.G _ (.one 10)) rfl sc__law_behind_right.nd (di_list (d_ca c__law_weights rfl (hr.mono (by decide)) (by rfl) (da_cons (d_nm (pv 2)) da_nil))) (blkOk_by (own := [("_law_weight", 10)]) (N := ["_law_purse_here", "_law_house_here", "_law_other", "_law_made_here", "_law_many", "_law_due", "_law_late", "_law_one", "_law_two", "_law_base", "_law_weight"]) (sc := defScope s__law_behind_right) (by decide +kernel)) (fun _ _ _ _ _ => (pg_name (i := 10) sc__law_behind_right.nd rfl (Or.inl rfl))) (fun _ _ _ _ _ => pts_yes) (fun _ _ _ _ _ => pe_exS fun _ => (d_mul (d_mul (d_ix (d_nm (pv 5)) (d_neg d_int) (fun _ _ => rfl)) (d_nm (pv 9))) (d_nm (pv 10)))))))) rfl)
    (ds_one (ds_ret (d_and (d_ca c__law_exact rfl (hr.mono (by decide)) (by rfl) (da_cons (d_ca c_weights rfl (hr.mono (by decide)) (by rfl) (da_cons (d_nm (pv 3)) da_nil)) (da_cons (d_nm (pv 6)) da_nil))) (d_one (d_ca c__law_exact rfl (hr.mono (by decide)) (by rfl) (da_cons (d_lst mkL (da_cons (d_ca c__law_told_of rfl (hr.mono (by decide)) (by rfl) (da_cons (d_nm (pv 7)) da_nil)) (da_cons (d_ca c__law_told_of rfl (hr.mono (by decide)) (by rfl) (da_cons (d_nm (pv 8)) da_nil)) da_nil))) (da_cons (d_lst mkL (da_cons (d_nm (pv 1)) (da_cons (d_nm (pv 2)) da_nil))) da_nil))))))))))))))

abbrev s__law_two_right : Stmt := topS 44
theorem sc__law_two_right : FnScope ["_law_purse_here", "_law_house_here", "_law_made_here", "_law_spin", "_law_rooms", "_law_other", "_law_due", "_law_back", "_law_told", "_law_dues", "_law_at", "_law_base", "_law_room", "_law_pair", "_law_less", "_law_more", "_law_late"] ["_law_purse_here", "_law_house_here"] (defScope s__law_two_right) := ⟨rfl, rfl, rfl, by decide +kernel, rfl, by decide +kernel, by decide +kernel⟩
def b__law_two_right : M Ctl := (seqM (asgM (fnM 1 F__law_made (consM (nmM 1) (pureM []))) (.one 2))
    (seqM (forM (rng1M (consM (pureM (.int 4)) (pureM []))) (.one 3) (seqM (asgM (lcM false (itmM (binM ixG (nmM 1) (pureM (.int 1)))) (.one 12) [12] (pureM true) (fnM 2 F__law_one_of (consM (nmM 0) (consM (bindM (consM (nmM 12) (consM (bindM (consM (pureM (.int 0)) (consM (binM subG (nmM 12) (pureM (.int 1))) (pureM []))) maxG) (consM (binM (addG newL) (nmM 12) (pureM (.int 1))) (consM (fnM 2 F__law_draw (consM (nmM 0) (consM (pureM (.int 60)) (pureM [])))) (pureM []))))) newL) (pureM []))))) (.one 4))
    (seqM (asgM (lcM false (itmM (nmM 4)) (.one 12) [12] (pureM true) (bindM (consM (pureM (.int 60)) (consM (nmM 12) (pureM []))) minG)) (.one 4))
    (seqM (asgM (bindM (consM (bindM (consM (binM ixG (nmM 1) (pureM (.int 0))) (pureM [])) (listG newL)) (consM (bindM (consM (nmM 4) (pureM [])) (listG newL)) (pureM []))) (makG F_House)) (.one 5))
    (seqM (asgM (bindM (consM (lcM false (zipM (consM (binM ixG (nmM 1) (pureM (.int 1))) (consM (nmM 4) (pureM [])))) (.tup [14, 15]) [14, 15] (pureM true) (binM leG (nmM 14) (nmM 15))) (pureM [])) allG) (.one 6))
    (seqM (asgM (bindM (consM (lcM false (zipM (consM (nmM 4) (consM (binM ixG (nmM 1) (pureM (.int 1))) (pureM [])))) (.tup [14, 15]) [14, 15] (pureM true) (binM leG (nmM 14) (nmM 15))) (pureM [])) allG) (.one 7))
    (seqM (ifM (notT (testM (fnM 2 (F__law_exact 9) (consM (bindM (consM (fnK0M 2 F_is_within perm10 (consM (nmM 5) (consM (nmM 2) (pureM [])))) (consM (fnM 2 F_is_within (consM (nmM 5) (consM (nmM 2) (pureM [])))) (pureM []))) newL) (consM (bindM (consM (nmM 6) (consM (nmM 7) (pureM []))) newL) (pureM [])))))) (retS (pureM (.bl false))) (pureM .nx))
    (seqM (asgM (bindM (consM (fnK0M 2 F_lesser_house perm10 (consM (nmM 5) (consM (nmM 2) (pureM [])))) (consM (fnK0M 2 F_greater_house perm10 (consM (nmM 5) (consM (nmM 2) (pureM [])))) (consM (fnM 2 F_lesser_house (consM (nmM 5) (consM (nmM 2) (pureM [])))) (pureM [])))) newL) (.one 8))
    (seqM (asgM (bindM (consM (lcM false (zipM (consM (binM ixG (nmM 1) (pureM (.int 1))) (consM (nmM 4) (pureM [])))) (.one 13) [13] (pureM true) (bindM (consM (nmM 13) (pureM [])) min1G)) (consM (lcM false (zipM (consM (binM ixG (nmM 1) (pureM (.int 1))) (consM (nmM 4) (pureM [])))) (.one 13) [13] (pureM true) (bindM (consM (nmM 13) (pureM [])) max1G)) (pureM []))) newL) (.one 9))
    (seqM (ifM (notT (testM (fnM 2 (F__law_exact 9) (consM (lcM false (itmM (nmM 8)) (.one 16) [16] (pureM true) (fnM 1 F__law_told_of (consM (nmM 16) (pureM [])))) (consM (bindM (consM (bindM (consM (binM ixG (nmM 1) (pureM (.int 0))) (consM (binM ixG (nmM 9) (pureM (.int 0))) (pureM []))) newL) (consM (bindM (consM (binM ixG (nmM 1) (pureM (.int 0))) (consM (binM ixG (nmM 9) (pureM (.int 1))) (pureM []))) newL) (consM (bindM (consM (binM ixG (nmM 1) (pureM (.int 0))) (consM (binM ixG (nmM 9) (pureM (.int 0))) (pureM []))) newL) (pureM [])))) newL) (pureM [])))))) (retS (pureM (.bl false))) (pureM .nx))
    (ifM (orT (notT (testM (fnM 2 F_is_within (consM (binM ixG (nmM 8) (pureM (.int 0))) (consM (nmM 2) (pureM [])))))) (orT (notT (testM (fnM 2 F_is_within (consM (nmM 5) (consM (binM ixG (nmM 8) (pureM (.int 1))) (pureM [])))))) (notT (testM (fnM 2 (F__law_exact 9) (consM (fnM 1 F__law_told_of (consM (nmM 2) (pureM []))) (consM (nmM 1) (pureM [])))))))) (retS (pureM (.bl false))) (pureM .nx))))))))))))
    (seqM (forM (enuM (consM (binM ixG (nmM 1) (pureM (.int 0))) (pureM []))) (.tup [10, 11]) (seqM (asgM (bindM (consM (binM (addG newL) (binM (addG newL) (sliM newL (binM ixG (nmM 1) (pureM (.int 0))) (pureM none) (partM (nmM 10))) (bindM (consM (ifM (testM (binM ltG (nmM 11) (pureM (.int 60)))) (binM (addG newL) (nmM 11) (pureM (.int 1))) (pureM (.int 59))) (pureM [])) newL)) (sliM newL (binM ixG (nmM 1) (pureM (.int 0))) (partM (binM (addG newL) (nmM 10) (pureM (.int 1)))) (pureM none))) (consM (binM ixG (nmM 1) (pureM (.int 1))) (pureM []))) (makG F_House)) (.one 5))
    (ifM (notT (testM (fnM 2 (F__law_exact 9) (consM (bindM (consM (fnM 2 F_is_within (consM (nmM 2) (consM (nmM 5) (pureM [])))) (consM (fnM 2 F_is_within (consM (nmM 5) (consM (nmM 2) (pureM [])))) (pureM []))) newL) (consM (bindM (consM (pureM (.bl false)) (consM (pureM (.bl false)) (pureM []))) newL) (pureM [])))))) (retS (pureM (.bl false))) (pureM .nx))))
    (seqM (ifM (andT (testM (binM ltG (bindM (consM (binM ixG (nmM 1) (pureM (.int 1))) (pureM [])) lenG) (pureM (.int 8)))) (testM (binM (isBlG true) (fnM 2 F_is_within (consM (nmM 2) (consM (bindM (consM (binM (addG newL) (binM ixG (nmM 1) (pureM (.int 0))) (bindM (consM (pureM (.int 2)) (pureM [])) newL)) (consM (binM (addG newL) (binM ixG (nmM 1) (pureM (.int 1))) (bindM (consM (pureM (.int 60)) (pureM [])) newL)) (pureM []))) (makG F_House)) (pureM [])))) (pureM (.bl false))))) (retS (pureM (.bl false))) (pureM .nx))
    (retS (binM (isBlG false) (fnM 2 F_is_within (consM (nmM 2) (consM (nmM 2) (pureM [])))) (pureM (.bl true))))))))
noncomputable def F__law_two_right : Fn := runBx ["_law_purse_here", "_law_house_here", "_law_made_here", "_law_spin", "_law_rooms", "_law_other", "_law_due", "_law_back", "_law_told", "_law_dues", "_law_at", "_law_base", "_law_room", "_law_pair", "_law_less", "_law_more", "_law_late"] 2 (fun _ => 0) b__law_two_right
theorem der__law_two_right (T : Txt mg C) (hk : HK C) (hC : C.K = K) {f__law_made : Addr} {fd__law_made : FuncData} (c__law_made : Ca P w K mg base C xa "_law_made" ["_law_house_here"] 6 F__law_made f__law_made fd__law_made) {f__law_one_of : Addr} {fd__law_one_of : FuncData} (c__law_one_of : Ca P w K mg base C xa "_law_one_of" ["_law_purse_here", "_law_some"] 3 F__law_one_of f__law_one_of fd__law_one_of) {f__law_draw : Addr} {fd__law_draw : FuncData} (c__law_draw : Ca P w K mg base C xa "_law_draw" ["_law_purse_here", "_law_many"] 2 F__law_draw f__law_draw fd__law_draw) {fI : Addr} {fdI : FuncData} (M : HMk P w K mg base C xa 4 F_House fI fdI) {f__law_exact : Addr} {fd__law_exact : FuncData} (c__law_exact : Ca P w K mg base C xa "_law_exact" ["_law_mine", "_law_theirs"] 9 (F__law_exact 9) f__law_exact fd__law_exact) {f_is_within : Addr} {fd_is_within : FuncData} (c_is_within : Ca P w K mg base C xa "is_within" ["one", "other"] 5 F_is_within f_is_within fd_is_within) {f_lesser_house : Addr} {fd_lesser_house : FuncData} (c_lesser_house : Ca P w K mg base C xa "lesser_house" ["one", "other"] 6 F_lesser_house f_lesser_house fd_lesser_house) {f_greater_house : Addr} {fd_greater_house : FuncData} (c_greater_house : Ca P w K mg base C xa "greater_house" ["one", "other"] 6 F_greater_house f_greater_house fd_greater_house) {f__law_told_of : Addr} {fd__law_told_of : FuncData} (c__law_told_of : Ca P w K mg base C xa "_law_told_of" ["_law_made_here"] 10 F__law_told_of f__law_told_of fd__law_told_of) {fI : Addr} {fdI : FuncData} (M : HMk P w K mg base C xa 4 F_House fI fdI) {fI : Addr} {fdI : FuncData} (M : HMk P w K mg base C xa 4 F_House fI fdI) (kb_is_within_10 : Kb K fd_is_within ["one", "other"] ["other", "one"] perm10) (kb_greater_house_10 : Kb K fd_greater_house ["one", "other"] ["other", "one"] perm10) (kb_lesser_house_10 : Kb K fd_lesser_house ["one", "other"] ["other", "one"] perm10) {qual : Str} {f : Addr} (cdv : Value) (A : Around) (outer : List Env) (s : Shared) (H : Hp) (E : XK) (S : Addr → Prop) (hr : Room 10 (A.deeper (envOfC qual (defScope s__law_two_right) s.heap.objs.size f cdv))) :
    PSs (cxOf CX0 P w K mg base ["_law_purse_here", "_law_house_here", "_law_made_here", "_law_spin", "_law_rooms", "_law_other", "_law_due", "_law_back", "_law_told", "_law_dues", "_law_at", "_law_base", "_law_room", "_law_pair", "_law_less", "_law_more", "_law_late"] qual (defScope s__law_two_right) f cdv A outer s H E).nox (defBody s__law_two_right) (tS ⟨K, C, E0, xa, S⟩ b__law_two_right) :=
  (ds_cons (ds_asg (t := .one 2) (ps_set (i := 2) sc__law_two_right.nd rfl (Or.inl rfl) (d_ca c__law_made rfl (hr.mono (by decide)) (by rfl) (da_cons (d_nm (pv 1)) da_nil))) rfl)
    (ds_cons (ds_for (t := (.one 3)) (ps_for PassesOwn.never rfl (di_rng1 (pi_range1 (by rfl) T.range (da_cons d_int da_nil))) (pg_name (i := 3) sc__law_two_right.nd rfl (Or.inl rfl)) (ds_cons (ds_setLc (t := (.one 12)) (by decide) (ps_setLc (i := 4) (own := [("_law_room", 12)]) (g := Tg.G _ (.one 12)) rfl sc__law_two_right.nd rfl rfl (sw_true rfl rfl rfl (by decide +kernel)) (di_list (d_ix (d_nm (pv 1)) d_int (fun _ _ => rfl))) (blkOk_by (own := [("_law_room", 12)]) (N := ["_law_purse_here", "_law_house_here", "_law_made_here", "_law_spin", "_law_rooms", "_law_other", "_law_due", "_law_back", "_law_told", "_law_dues", "_law_at", "_law_base", "_law_room", "_law_pair", "_law_less", "_law_more", "_law_late"]) (sc := defScope s__law_two_right) (by decide +kernel)) (fun _ _ _ _ _ => (pg_name (i := 12) sc__law_two_right.nd rfl (Or.inl rfl))) (fun _ _ _ _ _ => pts_yes) (fun _ _ _ _ _ => pe_exS fun _ => (d_ca c__law_one_of rfl (hr.mono (by decide)) (by rfl) (da_cons (d_nm (pv 0)) (da_cons (d_lst mkL (da_cons (d_nm (pv 12)) (da_cons (d_call (o_max) (pe_callB (CallR.or2 (call_max2 rfl) (cr_max rfl)) (by rfl) T.max PyProof.Rows.boot_max (da_cons d_int (da_cons (d_sub (d_nm (pv 12)) d_int) da_nil)))) (da_cons (d_add mkL (d_nm (pv 12)) d_int) (da_cons (d_ca c__law_draw rfl (hr.mono (by decide)) (by rfl) (da_cons (d_nm (pv 0)) (da_cons d_int da_nil))) da_nil))))) da_nil))))))
    (ds_cons (ds_setLc (t := (.one 12)) (by decide) (ps_setLc (i := 4) (own := [("_law_room", 12)]) (g := Tg.G _ (.one 12)) rfl sc__law_two_right.nd rfl rfl (sw_true rfl rfl rfl (by decide +kernel)) (di_list (d_nm (pv 4))) (blkOk_by (own := [("_law_room", 12)]) (N := ["_law_purse_here", "_law_house_here", "_law_made_here", "_law_spin", "_law_rooms", "_law_other", "_law_due", "_law_back", "_law_told", "_law_dues", "_law_at", "_law_base", "_law_room", "_law_pair", "_law_less", "_law_more", "_law_late"]) (sc := defScope s__law_two_right) (by decide +kernel)) (fun _ _ _ _ _ => (pg_name (i := 12) sc__law_two_right.nd rfl (Or.inl rfl))) (fun _ _ _ _ _ => pts_yes) (fun _ _ _ _ _ => pe_exS fun _ => (d_call (o_min) (pe_callB (call_min2 rfl) (by rfl) T.min PyProof.Rows.boot_min (da_cons d_int (da_cons (d_nm (pv 12)) da_nil)))))))
    (ds_cons (ds_asg (t := .one 5) (ps_set (i := 5) sc__law_two_right.nd rfl (Or.inl rfl) (d_make (pe_make M.ma M.ok (hr.mono (by decide)) (by rfl) T.House M.b .nil pass0 (da_cons (d_call (o_list mkL) (pe_callTy call_list_of (by rfl) T.t_list PyProof.Rows.boot_list (da_cons (d_ix (d_nm (pv 1)) d_int (fun _ _ => rfl)) da_nil))) (da_cons (d_call (o_list mkL) (pe_callTy call_list_of (by rfl) T.t_list PyProof.Rows.boot_list (da_cons (d_nm (pv 4)) da_nil))) da_nil))))) rfl)
    (ds_cons (ds_asg (t := .one 6) (ps_set (i := 6) sc__law_two_right.nd rfl (Or.inl rfl) (d_call (o_all) (pe_callB (cr_all rfl) (by rfl) T.all PyProof.Rows.boot_all (da_cons (d_lc (t := (.tup [14, 15])) (by decide) (pe_lc (own := [("_law_less", 14), ("_law_more", 15)]) (g := Tg.G _ (.tup [14, 15])) rfl sc__law_two_right.nd (di_zip (pi_zip (by rfl) T.zip (da_cons (d_ix (d_nm (pv 1)) d_int (fun _ _ => rfl)) (da_cons (d_nm (pv 4)) da_nil)))) (blkOk_by (own := [("_law_less", 14), ("_law_more", 15)]) (N := ["_law_purse_here", "_law_house_here", "_law_made_here", "_law_spin", "_law_rooms", "_law_other", "_law_due", "_law_back", "_law_told", "_law_dues", "_law_at", "_law_base", "_law_room", "_law_pair", "_law_less", "_law_more", "_law_late"]) (sc := defScope s__law_two_right) (by decide +kernel)) (fun _ _ _ _ _ => (pg_tup rfl (pgs_cons (pg_name (i := 14) sc__law_two_right.nd rfl (Or.inl rfl)) (pgs_cons (pg_name (i := 15) sc__law_two_right.nd rfl (Or.inl rfl)) pgs_nil)))) (fun _ _ _ _ _ => pts_yes) (fun _ _ _ _ _ => pe_exS fun _ => (d_cmp op_le o_ord (d_nm (pv 14)) (d_nm (pv 15)))))) da_nil)))) rfl)
    (ds_cons (ds_asg (t := .one 7) (ps_set (i := 7) sc__law_two_right.nd rfl (Or.inl rfl) (d_call (o_all) (pe_callB (cr_all rfl) (by rfl) T.all PyProof.Rows.boot_all (da_cons (d_lc (t := (.tup [14, 15])) (by decide) (pe_lc (own := [("_law_less", 14), ("_law_more", 15)]) (g := Tg.G _ (.tup [14, 15])) rfl sc__law_two_right.nd (di_zip (pi_zip (by rfl) T.zip (da_cons (d_nm (pv 4)) (da_cons (d_ix (d_nm (pv 1)) d_int (fun _ _ => rfl)) da_nil)))) (blkOk_by (own := [("_law_less", 14), ("_law_more", 15)]) (N := ["_law_purse_here", "_law_house_here", "_law_made_here", "_law_spin", "_law_rooms", "_law_other", "_law_due", "_law_back", "_law_told", "_law_dues", "_law_at", "_law_base", "_law_room", "_law_pair", "_law_less", "_law_more", "_law_late"]) (sc := defScope s__law_two_right) (by decide +kernel)) (fun _ _ _ _ _ => (pg_tup rfl (pgs_cons (pg_name (i := 14) sc__law_two_right.nd rfl (Or.inl rfl)) (pgs_cons (pg_name (i := 15) sc__law_two_right.nd rfl (Or.inl rfl)) pgs_nil)))) (fun _ _ _ _ _ => pts_yes) (fun _ _ _ _ _ => pe_exS fun _ => (d_cmp op_le o_ord (d_nm (pv 14)) (d_nm (pv 15)))))) da_nil)))) rfl)
    (ds_cons (ds_if (dt_not (dt_val (d_ca c__law_exact rfl (hr.mono (by decide)) (by rfl) (da_cons (d_lst mkL (da_cons (d_ck ok10 c_is_within kb_is_within_10 (by decide) rfl (hr.mono (by decide)) (by rfl) (dk_cons (d_nm (pv 5)) (dk_cons (d_nm (pv 2)) dk_nil))) (da_cons (d_ca c_is_within rfl (hr.mono (by decide)) (by rfl) (da_cons (d_nm (pv 5)) (da_cons (d_nm (pv 2)) da_nil))) da_nil))) (da_cons (d_lst mkL (da_cons (d_nm (pv 6)) (da_cons (d_nm (pv 7)) da_nil))) da_nil))))) (ds_one (ds_ret d_bl)) ds_nil)
    (ds_cons (ds_asg (t := .one 8) (ps_set (i := 8) sc__law_two_right.nd rfl (Or.inl rfl) (d_lst mkL (da_cons (d_ck ok10 c_lesser_house kb_lesser_house_10 (by decide) rfl (hr.mono (by decide)) (by rfl) (dk_cons (d_nm (pv 5)) (dk_cons (d_nm (pv 2)) dk_nil))) (da_cons (d_ck ok10 c_greater_house kb_greater_house_10 (by decide) rfl (hr.mono (by decide)) (by rfl) (dk_cons (d_nm (pv 5)) (dk_cons (d_nm (pv 2)) dk_nil))) (da_cons (d_ca c_lesser_house rfl (hr.mono (by decide)) (by rfl) (da_cons (d_nm (pv 5)) (da_cons (d_nm (pv 2)) da_nil))) da_nil))))) rfl)
    (ds_cons (ds_asg (t := .one 9) (ps_set (i := 9) sc__law_two_right.nd rfl (Or.inl rfl) (d_lst mkL (da_cons (d_lc (t := (.one 13)) (by decide) (pe_lc (own := [("_law_pair", 13)]) (g := Tg.G _ (.one 13)) rfl sc__law_two_right.nd (di_zip (pi_zipN (by rfl) T.zip (da_cons (d_ix (d_nm (pv 1)) d_int (fun _ _ => rfl)) (da_cons (d_nm (pv 4)) da_nil)))) (blkOk_by (own := [("_law_pair", 13)]) (N := ["_law_purse_here", "_law_house_here", "_law_made_here", "_law_spin", "_law_rooms", "_law_other", "_law_due", "_law_back", "_law_told", "_law_dues", "_law_at", "_law_base", "_law_room", "_law_pair", "_law_less", "_law_more", "_law_late"]) (sc := defScope s__law_two_right) (by decide +kernel)) (fun _ _ _ _ _ => (pg_name (i := 13) sc__law_two_right.nd rfl (Or.inl rfl))) (fun _ _ _ _ _ => pts_yes) (fun _ _ _ _ _ => pe_exS fun _ => (d_call (o_min1) (pe_callB (call_min1 rfl) (by rfl) T.min PyProof.Rows.boot_min (da_cons (d_nm (pv 13)) da_nil)))))) (da_cons (d_lc (t := (.one 13)) (by decide) (pe_lc (own := [("_law_pair", 13)]) (g := Tg.G _ (.one 13)) rfl sc__law_two_right.nd (di_zip (pi_zipN (by rfl) T.zip (da_cons (d_ix (d_nm (pv 1)) d_int (fun _ _ => rfl)) (da_cons (d_nm (pv 4)) da_nil)))) (blkOk_by (own := [("_law_pair", 13)]) (N := ["_law_purse_here", "_law_house_here", "_law_made_here", "_law_spin", "_law_rooms", "_law_other", "_law_due", "_law_back", "_law_told", "_law_dues", "_law_at", "_law_base", "_law_room", "_law_pair", "_law_less", "_law_more", "_law_late"]) (sc := defScope s__law_two_right) (by decide +kernel)) (fun _ _ _ _ _ => (pg_name (i := 13) sc__law_two_right.nd rfl (Or.inl rfl))) (fun _ _ _ _ _ => pts_yes) (fun _ _ _ _ _ => pe_exS fun _ => (d_call (o_max1) (pe_callB (call_max1 rfl) (by rfl) T.max PyProof.Rows.boot_max (da_cons (d_nm (pv 13)) da_nil)))))) da_nil)))) rfl)
    (ds_cons (ds_if (dt_not (dt_val (d_ca c__law_exact rfl (hr.mono (by decide)) (by rfl) (da_cons (d_lc (t := (.one 16)) (by decide) (pe_lc (own := [("_law_late", 16)]) (g := Tg.G _ (.one 16)) rfl sc__law_two_right.nd (di_list (d_nm (pv 8))) (blkOk_by (own := [("_law_late", 16)]) (N := ["_law_purse_here", "_law_house_here", "_law_made_here", "_law_spin", "_law_rooms", "_law_other", "_law_due", "_law_back", "_law_told", "_law_dues", "_law_at", "_law_base", "_law_room", "_law_pair", "_law_less", "_law_more", "_law_late"]) (sc := defScope s__law_two_right) (by decide +kernel)) (fun _ _ _ _ _ => (pg_name (i := 16) sc__law_two_right.nd rfl (Or.inl rfl))) (fun _ _ _ _ _ => pts_yes) (fun _ _ _ _ _ => pe_exS fun _ => (d_ca c__law_told_of rfl (hr.mono (by decide)) (by rfl) (da_cons (d_nm (pv 16)) da_nil))))) (da_cons (d_lst mkL (da_cons (d_lst mkL (da_cons (d_ix (d_nm (pv 1)) d_int (fun _ _ => rfl)) (da_cons (d_ix (d_nm (pv 9)) d_int (fun _ _ => rfl)) da_nil))) (da_cons (d_lst mkL (da_cons (d_ix (d_nm (pv 1)) d_int (fun _ _ => rfl)) (da_cons (d_ix (d_nm (pv 9)) d_int (fun _ _ => rfl)) da_nil))) (da_cons (d_lst mkL (da_cons (d_ix (d_nm (pv 1)) d_int (fun _ _ => rfl)) (da_cons (d_ix (d_nm (pv 9)) d_int (fun _ _ => rfl)) da_nil))) da_nil)))) da_nil))))) (ds_one (ds_ret d_bl)) ds_nil)
    (ds_one (ds_if (dt_w (dw_or (dt_not (dt_val (d_ca c_is_within rfl (hr.mono (by decide)) (by rfl) (da_cons (d_ix (d_nm (pv 8)) d_int (fun _ _ => rfl)) (da_cons (d_nm (pv 2)) da_nil))))) (dw_or (dt_not (dt_val (d_ca c_is_within rfl (hr.mono (by decide)) (by rfl) (da_cons (d_nm (pv 5)) (da_cons (d_ix (d_nm (pv 8)) d_int (fun _ _ => rfl)) da_nil))))) (dw_or1 (dt_not (dt_val (d_ca c__law_exact rfl (hr.mono (by decide)) (by rfl) (da_cons (d_ca c__law_told_of rfl (hr.mono (by decide)) (by rfl) (da_cons (d_nm (pv 2)) da_nil)) (da_cons (d_nm (pv 1)) da_nil))))))))) (ds_one (ds_ret d_bl)) ds_nil)))))))))))))
    (ds_cons (ds_for (t := (.tup [10, 11])) (ps_for PassesOwn.never rfl (di_enu (pi_enum (by rfl) T.enumerate (da_cons (d_ix (d_nm (pv 1)) d_int (fun _ _ => rfl)) da_nil))) (pg_tup rfl (pgs_cons (pg_name (i := 10) sc__law_two_right.nd rfl (Or.inl rfl)) (pgs_cons (pg_name (i := 11) sc__law_two_right.nd rfl (Or.inl rfl)) pgs_nil))) (ds_cons (ds_asg (t := .one 5) (ps_set (i := 5) sc__law_two_right.nd rfl (Or.inl rfl) (d_make (pe_make M.ma M.ok (hr.mono (by decide)) (by rfl) T.House M.b .nil pass0 (da_cons (d_add mkL (d_add mkL (d_sli mkL hC (d_ix (d_nm (pv 1)) d_int (fun _ _ => rfl)) do_none (do_some (d_nm (pv 10)))) (d_lst mkL (da_cons (d_ifx (dt_cmp op_lt o_ord (d_nm (pv 11)) d_int) (d_add mkL (d_nm (pv 11)) d_int) d_int) da_nil))) (d_sli mkL hC (d_ix (d_nm (pv 1)) d_int (fun _ _ => rfl)) (do_some (d_add mkL (d_nm (pv 10)) d_int)) do_none)) (da_cons (d_ix (d_nm (pv 1)) d_int (fun _ _ => rfl)) da_nil))))) rfl)
    (ds_one (ds_if (dt_not (dt_val (d_ca c__law_exact rfl (hr.mono (by decide)) (by rfl) (da_cons (d_lst mkL (da_cons (d_ca c_is_within rfl (hr.mono (by decide)) (by rfl) (da_cons (d_nm (pv 2)) (da_cons (d_nm (pv 5)) da_nil))) (da_cons (d_ca c_is_within rfl (hr.mono (by decide)) (by rfl) (da_cons (d_nm (pv 5)) (da_cons (d_nm (pv 2)) da_nil))) da_nil))) (da_cons (d_lst mkL (da_cons d_bl (da_cons d_bl da_nil))) da_nil))))) (ds_one (ds_ret d_bl)) ds_nil)))))
    (ds_cons (ds_if (dt_w (dw_and (dt_cmp op_lt o_ord (d_call (o_len hC) (pe_callB call_len_seq (by rfl) T.len PySem.boot_len (da_cons (d_ix (d_nm (pv 1)) d_int (fun _ _ => rfl)) da_nil))) d_int) (dw_and1 (dt_cmp op_notBl o_notBl (d_ca c_is_within rfl (hr.mono (by decide)) (by rfl) (da_cons (d_nm (pv 2)) (da_cons (d_make (pe_make M.ma M.ok (hr.mono (by decide)) (by rfl) T.House M.b .nil pass0 (da_cons (d_add mkL (d_ix (d_nm (pv 1)) d_int (fun _ _ => rfl)) (d_lst mkL (da_cons d_int da_nil))) (da_cons (d_add mkL (d_ix (d_nm (pv 1)) d_int (fun _ _ => rfl)) (d_lst mkL (da_cons d_int da_nil))) da_nil)))) da_nil))) d_bl)))) (ds_one (ds_ret d_bl)) ds_nil)
    (ds_one (ds_ret (d_cmp op_isBl o_isBl (d_ca c_is_within rfl (hr.mono (by decide)) (by rfl) (da_cons (d_nm (pv 2)) (da_cons (d_nm (pv 2)) da_nil))) d_bl)))))))

abbrev s_law : Stmt := topS 47
theorem sc_law : FnScope ["_law_script", "_law_purse_here", "_law_houses", "_law_house_here"] ["_law_script"] (defScope s_law) := ⟨rfl, rfl, rfl, by decide +kernel, rfl, by decide +kernel, by decide +kernel⟩
def b_law : M Ctl := (seqM (forM (itmM (fnM 2 F__law_purses (consM (nmM 0) (consM (pureM (.int 2)) (pureM []))))) (.one 1) (seqM (asgM (bindM (consM (fnM 2 F__law_house (consM (nmM 1) (consM (binM (addG newL) (pureM (.int 1)) (fnM 2 F__law_draw (consM (nmM 1) (consM (pureM (.int 4)) (pureM []))))) (pureM [])))) (consM (fnM 2 F__law_house (consM (nmM 1) (consM (binM (addG newL) (pureM (.int 1)) (fnM 2 F__law_draw (consM (nmM 1) (consM (pureM (.int 4)) (pureM []))))) (pureM [])))) (pureM []))) newL) (.one 2))
    (seqM (forM (itmM (binM (addG newL) (nmM 2) (bindM (consM (fnM 1 F__law_great_house (consM (nmM 1) (pureM []))) (pureM [])) newL))) (.one 3) (ifM (orT (notT (testM (fnM 2 F__law_two_right (consM (nmM 1) (consM (nmM 3) (pureM [])))))) (notT (testM (fnM 2 F__law_places_right (consM (nmM 1) (consM (nmM 3) (pureM []))))))) (retS (pureM (.bl false))) (pureM .nx)))
    (ifM (orT (notT (testM (fnM 3 F__law_behind_right (consM (nmM 1) (consM (binM ixG (nmM 2) (pureM (.int 0))) (consM (binM ixG (nmM 2) (pureM (.int 1))) (pureM []))))))) (notT (testM (fnM 3 F__law_behind_right (consM (nmM 1) (consM (binM ixG (nmM 2) (pureM (.int 1))) (consM (binM ixG (nmM 2) (pureM (.int 0))) (pureM [])))))))) (retS (pureM (.bl false))) (pureM .nx)))))
    (retS (pureM (.bl true))))
noncomputable def F_law : Fn := runBx ["_law_script", "_law_purse_here", "_law_houses", "_law_house_here"] 1 (fun _ => 0) b_law
theorem der_law (T : Txt mg C) (hk : HK C) (hC : C.K = K) {f__law_purses : Addr} {fd__law_purses : FuncData} (c__law_purses : Ca P w K mg base C xa "_law_purses" ["_law_script", "_law_few"] 2 F__law_purses f__law_purses fd__law_purses) {f__law_house : Addr} {fd__law_house : FuncData} (c__law_house : Ca P w K mg base C xa "_law_house" ["_law_purse_here", "_law_places"] 4 F__law_house f__law_house fd__law_house) {f__law_draw : Addr} {fd__law_draw : FuncData} (c__law_draw : Ca P w K mg base C xa "_law_draw" ["_law_purse_here", "_law_many"] 2 F__law_draw f__law_draw fd__law_draw) {f__law_great_house : Addr} {fd__law_great_house : FuncData} (c__law_great_house : Ca P w K mg base C xa "_law_great_house" ["_law_purse_here"] 5 F__law_great_house f__law_great_house fd__law_great_house) {f__law_two_right : Addr} {fd__law_two_right : FuncData} (c__law_two_right : Ca P w K mg base C xa "_law_two_right" ["_law_purse_here", "_law_house_here"] 11 F__law_two_right f__law_two_right fd__law_two_right) {f__law_places_right : Addr} {fd__law_places_right : FuncData} (c__law_places_right : Ca P w K mg base C xa "_law_places_right" ["_law_purse_here", "_law_house_here"] 11 F__law_places_right f__law_places_right fd__law_places_right) {f__law_behind_right : Addr} {fd__law_behind_right : FuncData} (c__law_behind_right : Ca P w K mg base C xa "_law_behind_right" ["_law_purse_here", "_law_house_here", "_law_other"] 11 F__law_behind_right f__law_behind_right fd__law_behind_right) {qual : Str} {f : Addr} (cdv : Value) (A : Around) (outer : List Env) (s : Shared) (H : Hp) (E : XK) (S : Addr → Prop) (hr : Room 11 (A.deeper (envOfC qual (defScope s_law) s.heap.objs.size f cdv))) :
    PSs (cxOf CX0 P w K mg base ["_law_script", "_law_purse_here", "_law_houses", "_law_house_here"] qual (defScope s_law) f cdv A outer s H E).nox (defBody s_law) (tS ⟨K, C, E0, xa, S⟩ b_law) :=
  (ds_cons (ds_for (t := (.one 1)) (ps_for PassesOwn.never rfl (di_list (d_ca c__law_purses rfl (hr.mono (by decide)) (by rfl) (da_cons (d_nm (pv 0)) (da_cons d_int da_nil)))) (pg_name (i := 1) sc_law.nd rfl (Or.inl rfl)) (ds_cons (ds_asg (t := .one 2) (ps_set (i := 2) sc_law.nd rfl (Or.inl rfl) (d_lst mkL (da_cons (d_ca c__law_house rfl (hr.mono (by decide)) (by rfl) (da_cons (d_nm (pv 1)) (da_cons (d_add mkL d_int (d_ca c__law_draw rfl (hr.mono (by decide)) (by rfl) (da_cons (d_nm (pv 1)) (da_cons d_int da_nil)))) da_nil))) (da_cons (d_ca c__law_house rfl (hr.mono (by decide)) (by rfl) (da_cons (d_nm (pv 1)) (da_cons (d_add mkL d_int (d_ca c__law_draw rfl (hr.mono (by decide)) (by rfl) (da_cons (d_nm (pv 1)) (da_cons d_int da_nil)))) da_nil))) da_nil)))) rfl)
    (ds_cons (ds_for (t := (.one 3)) (ps_for PassesOwn.never rfl (di_list (d_add mkL (d_nm (pv 2)) (d_lst mkL (da_cons (d_ca c__law_great_house rfl (hr.mono (by decide)) (by rfl) (da_cons (d_nm (pv 1)) da_nil)) da_nil)))) (pg_name (i := 3) sc_law.nd rfl (Or.inl rfl)) (ds_one (ds_if (dt_w (dw_or (dt_not (dt_val (d_ca c__law_two_right rfl (hr.mono (by decide)) (by rfl) (da_cons (d_nm (pv 1)) (da_cons (d_nm (pv 3)) da_nil))))) (dw_or1 (dt_not (dt_val (d_ca c__law_places_right rfl (hr.mono (by decide)) (by rfl) (da_cons (d_nm (pv 1)) (da_cons (d_nm (pv 3)) da_nil)))))))) (ds_one (ds_ret d_bl)) ds_nil))))
    (ds_one (ds_if (dt_w (dw_or (dt_not (dt_val (d_ca c__law_behind_right rfl (hr.mono (by decide)) (by rfl) (da_cons (d_nm (pv 1)) (da_cons (d_ix (d_nm (pv 2)) d_int (fun _ _ => rfl)) (da_cons (d_ix (d_nm (pv 2)) d_int (fun _ _ => rfl)) da_nil)))))) (dw_or1 (dt_not (dt_val (d_ca c__law_behind_right rfl (hr.mono (by decide)) (by rfl) (da_cons (d_nm (pv 1)) (da_cons (d_ix (d_nm (pv 2)) d_int (fun _ _ => rfl)) (da_cons (d_ix (d_nm (pv 2)) d_int (fun _ _ => rfl)) da_nil))))))))) (ds_one (ds_ret d_bl)) ds_nil))))))
    (ds_one (ds_ret d_bl)))


end
end K4

/-! K4Y: the law's questions. -/
namespace K4
open PySem PySem.Spec PyProof.Rows L2 CD
section
variable {c : Cells} {Q : D → Cells → Prop}
theorem set_cut {r : List Int} {p : Nat} (hp : p < r.length) (x : Int) : D.lst ((r.take p).map D.int ++ ([D.int x] ++ (r.drop (p + 1)).map D.int)) = .lst ((r.set p x).map D.int) := by
  rw [List.set_eq_take_append_cons_drop, if_pos hp]
  simp
theorem okX_hd9 {b r : List Int} (h : gb b r) : okX 9 (hd b r) := okX_hd (n := 6) h
theorem exact_hd {b r : List Int} (h : gb b r) (q : Q (.bl true) c) : FW (F__law_exact 9) [hd b r, hd b r] c Q := fw_exact 9 _ _ _ (okX_hd9 h) q
def IP (c : Cells) (k t n : Nat) (b r : List Int) (i : Nat) (e : En) : Prop := ∃ (l : List Int) (x2 x5 x6 x7 x8 : Option D), e = ⟨[some (.ow k), some (hd b r), x2, some (.hs b r), some (.int n), x5, x6, x7, x8], c.set k (pz l)⟩ ∧ Pl l (t + i)
theorem fw_places (k : Nat) (l : List Int) (t : Nat) (hc : c[k]? = some (pz l)) (hl : Pl l t) (ht : t + 40 < 2 ^ 19) (n : Nat) (hn : 1 ≤ n) (hn' : n ≤ 8) (b r : List Int) (hg : gh b r n) (q : ∀ l', Pl l' (t + 8) → Q (.bl true) (c.set k (pz l'))) : FW F__law_places_right [.ow k, hd b r] c Q := by
  have hk : k < c.length := (List.getElem?_eq_some_iff.mp hc).1
  have h : gb b r := hg.gb (by omega)
  have hb := hg.1
  have hr := hg.2.1
  refine FW_runBx rfl ?_
  unfold b__law_places_right
  try simp only [decide_true, decide_false, Bool.and_self, eq_self, W_loop0, WL_nil, true_or, or_true, or_false, W_seq, W_asg1, W_asgT, W_drop, W_ret, W_if, W_not, W_test, W_andV, W_notV, W_orV, W_andT, W_orT, W_bin, W_cons, W_nm, W_fn, W_fnK0, W_met, W_fld, W_pure, W_bind, W_isB, W_isLT, W_isH, W_add, W_sub, W_neg, W_ord, W_int, W_min, W_max, W_cat, W_part, W_sli, W_cutL, W_listL, W_listT, W_sumL, W_allL, W_itm, W_rng1, W_rng2, W_enu, W_zip', W_for, W_lc, W_app, W_sas, W_aug, W_par, W_lenL, W_lenT, W_lenS, W_iadd, W_isub, W_isBl, W_bit, Wa_newL, Wa_newT, Wa_newC, Wa_mul, Wa_div, Wa_mod, Wa_pow, Wa_ixL, Wa_ixT, Wa_ixC, Wa_lenC, Wa_mk, W_eqL, W_eqI, W_eqB, W_fail, W_cutS, W_cutC, startD, List.map_cons, List.map_nil, List.length_cons, List.length_nil, List.length_map, List.cons_append, List.nil_append, List.getElem?_cons_zero, List.getElem?_cons_succ, List.set_cons_zero, List.set_cons_succ, Option.some.injEq, exists_eq_left', List.replicate, Nat.reduceAdd, Nat.reduceSub, Nat.reduceMul, D.bl.injEq, D.int.injEq, D.hs.injEq, D.lst.injEq, D.ow.injEq, D.tup.injEq, List.cons.injEq, and_true, true_and, reduceCtorEq, Bool.not_true, Bool.not_false, false_implies, true_implies, forall_const, imp_self, Bool.false_eq_true, if_true, if_false, ↓reduceIte, Bool.true_eq_false, ty_ii, ty_bi, ty_li, ty_ti, ty_ib, ty_bb, ty_lb, ty_tb, ty_ll, ty_tl, ty_dl, okd_int, okd_bl, okd_lst, okd_hs, kin_hs, wipeD, Tg.st, setAll, exists_and_left, exists_eq_left, exists_eq', and_assoc, exists_and_right]
  refine fw_made b r h ?_
  unfold hd
  try simp only [at0, at1, decide_true, decide_false, Bool.and_self, eq_self, W_loop0, WL_nil, true_or, or_true, or_false, W_seq, W_asg1, W_asgT, W_drop, W_ret, W_if, W_not, W_test, W_andV, W_notV, W_orV, W_andT, W_orT, W_bin, W_cons, W_nm, W_fn, W_fnK0, W_met, W_fld, W_pure, W_bind, W_isB, W_isLT, W_isH, W_add, W_sub, W_neg, W_ord, W_int, W_min, W_max, W_cat, W_part, W_sli, W_cutL, W_listL, W_listT, W_sumL, W_allL, W_itm, W_rng1, W_rng2, W_enu, W_zip', W_for, W_lc, W_app, W_sas, W_aug, W_par, W_lenL, W_lenT, W_lenS, W_iadd, W_isub, W_isBl, W_bit, Wa_newL, Wa_newT, Wa_newC, Wa_mul, Wa_div, Wa_mod, Wa_pow, Wa_ixL, Wa_ixT, Wa_ixC, Wa_lenC, Wa_mk, W_eqL, W_eqI, W_eqB, W_fail, W_cutS, W_cutC, startD, List.map_cons, List.map_nil, List.length_cons, List.length_nil, List.length_map, List.cons_append, List.nil_append, List.getElem?_cons_zero, List.getElem?_cons_succ, List.set_cons_zero, List.set_cons_succ, Option.some.injEq, exists_eq_left', List.replicate, Nat.reduceAdd, Nat.reduceSub, Nat.reduceMul, D.bl.injEq, D.int.injEq, D.hs.injEq, D.lst.injEq, D.ow.injEq, D.tup.injEq, List.cons.injEq, and_true, true_and, reduceCtorEq, Bool.not_true, Bool.not_false, false_implies, true_implies, forall_const, imp_self, Bool.false_eq_true, if_true, if_false, ↓reduceIte, Bool.true_eq_false, ty_ii, ty_bi, ty_li, ty_ti, ty_ib, ty_bb, ty_lb, ty_tb, ty_ll, ty_tl, ty_dl, okd_int, okd_bl, okd_lst, okd_hs, kin_hs, wipeD, Tg.st, setAll, exists_and_left, exists_eq_left, exists_eq', and_assoc, exists_and_right]
  rw [hr]
  refine ⟨by omega, by omega, ?_⟩
  rw [Int.toNat_natCast]
  refine W_seqloop _ (IP c k t n b r) _ (fun i d e hi hJ => ?_) ⟨l, none, none, none, none, none, by rw [set_same hc]; rfl, hl⟩ (fun e hJ => ?_)
  · obtain ⟨hin, rfl⟩ := rng_get hi
    obtain ⟨l1, x2, x5, x6, x7, x8, rfl, g1⟩ := hJ
    rw [Int.zero_add]
    refine ⟨_, rfl, ?_⟩
    try simp only [decide_true, decide_false, Bool.and_self, eq_self, W_loop0, WL_nil, true_or, or_true, or_false, W_seq, W_asg1, W_asgT, W_drop, W_ret, W_if, W_not, W_test, W_andV, W_notV, W_orV, W_andT, W_orT, W_bin, W_cons, W_nm, W_fn, W_fnK0, W_met, W_fld, W_pure, W_bind, W_isB, W_isLT, W_isH, W_add, W_sub, W_neg, W_ord, W_int, W_min, W_max, W_cat, W_part, W_sli, W_cutL, W_listL, W_listT, W_sumL, W_allL, W_itm, W_rng1, W_rng2, W_enu, W_zip', W_for, W_lc, W_app, W_sas, W_aug, W_par, W_lenL, W_lenT, W_lenS, W_iadd, W_isub, W_isBl, W_bit, Wa_newL, Wa_newT, Wa_newC, Wa_mul, Wa_div, Wa_mod, Wa_pow, Wa_ixL, Wa_ixT, Wa_ixC, Wa_lenC, Wa_mk, W_eqL, W_eqI, W_eqB, W_fail, W_cutS, W_cutC, startD, List.map_cons, List.map_nil, List.length_cons, List.length_nil, List.length_map, List.cons_append, List.nil_append, List.getElem?_cons_zero, List.getElem?_cons_succ, List.set_cons_zero, List.set_cons_succ, Option.some.injEq, exists_eq_left', List.replicate, Nat.reduceAdd, Nat.reduceSub, Nat.reduceMul, D.bl.injEq, D.int.injEq, D.hs.injEq, D.lst.injEq, D.ow.injEq, D.tup.injEq, List.cons.injEq, and_true, true_and, reduceCtorEq, Bool.not_true, Bool.not_false, false_implies, true_implies, forall_const, imp_self, Bool.false_eq_true, if_true, if_false, ↓reduceIte, Bool.true_eq_false, ty_ii, ty_bi, ty_li, ty_ti, ty_ib, ty_bb, ty_lb, ty_tb, ty_ll, ty_tl, ty_dl, okd_int, okd_bl, okd_lst, okd_hs, kin_hs, wipeD, Tg.st, setAll, exists_and_left, exists_eq_left, exists_eq', and_assoc, exists_and_right]
    refine fw_draw k l1 _ (get_set hk) g1 (by omega) 61 (by decide) (by decide) fun x l2 hx hx' hl2 => ?_
    rw [List.set_set]
    try simp only [perm210, decide_true, decide_false, Bool.and_self, eq_self, W_loop0, WL_nil, true_or, or_true, or_false, W_seq, W_asg1, W_asgT, W_drop, W_ret, W_if, W_not, W_test, W_andV, W_notV, W_orV, W_andT, W_orT, W_bin, W_cons, W_nm, W_fn, W_fnK0, W_met, W_fld, W_pure, W_bind, W_isB, W_isLT, W_isH, W_add, W_sub, W_neg, W_ord, W_int, W_min, W_max, W_cat, W_part, W_sli, W_cutL, W_listL, W_listT, W_sumL, W_allL, W_itm, W_rng1, W_rng2, W_enu, W_zip', W_for, W_lc, W_app, W_sas, W_aug, W_par, W_lenL, W_lenT, W_lenS, W_iadd, W_isub, W_isBl, W_bit, Wa_newL, Wa_newT, Wa_newC, Wa_mul, Wa_div, Wa_mod, Wa_pow, Wa_ixL, Wa_ixT, Wa_ixC, Wa_lenC, Wa_mk, W_eqL, W_eqI, W_eqB, W_fail, W_cutS, W_cutC, startD, List.map_cons, List.map_nil, List.length_cons, List.length_nil, List.length_map, List.cons_append, List.nil_append, List.getElem?_cons_zero, List.getElem?_cons_succ, List.set_cons_zero, List.set_cons_succ, Option.some.injEq, exists_eq_left', List.replicate, Nat.reduceAdd, Nat.reduceSub, Nat.reduceMul, D.bl.injEq, D.int.injEq, D.hs.injEq, D.lst.injEq, D.ow.injEq, D.tup.injEq, List.cons.injEq, and_true, true_and, reduceCtorEq, Bool.not_true, Bool.not_false, false_implies, true_implies, forall_const, imp_self, Bool.false_eq_true, if_true, if_false, ↓reduceIte, Bool.true_eq_false, ty_ii, ty_bi, ty_li, ty_ti, ty_ib, ty_bb, ty_lb, ty_tb, ty_ll, ty_tl, ty_dl, okd_int, okd_bl, okd_lst, okd_hs, kin_hs, wipeD, Tg.st, setAll, exists_and_left, exists_eq_left, exists_eq', and_assoc, exists_and_right]
    refine fw_with_room b r h i (by omega) x (by omega) ?_
    try simp only [decide_true, decide_false, Bool.and_self, eq_self, W_loop0, WL_nil, true_or, or_true, or_false, W_seq, W_asg1, W_asgT, W_drop, W_ret, W_if, W_not, W_test, W_andV, W_notV, W_orV, W_andT, W_orT, W_bin, W_cons, W_nm, W_fn, W_fnK0, W_met, W_fld, W_pure, W_bind, W_isB, W_isLT, W_isH, W_add, W_sub, W_neg, W_ord, W_int, W_min, W_max, W_cat, W_part, W_sli, W_cutL, W_listL, W_listT, W_sumL, W_allL, W_itm, W_rng1, W_rng2, W_enu, W_zip', W_for, W_lc, W_app, W_sas, W_aug, W_par, W_lenL, W_lenT, W_lenS, W_iadd, W_isub, W_isBl, W_bit, Wa_newL, Wa_newT, Wa_newC, Wa_mul, Wa_div, Wa_mod, Wa_pow, Wa_ixL, Wa_ixT, Wa_ixC, Wa_lenC, Wa_mk, W_eqL, W_eqI, W_eqB, W_fail, W_cutS, W_cutC, startD, List.map_cons, List.map_nil, List.length_cons, List.length_nil, List.length_map, List.cons_append, List.nil_append, List.getElem?_cons_zero, List.getElem?_cons_succ, List.set_cons_zero, List.set_cons_succ, Option.some.injEq, exists_eq_left', List.replicate, Nat.reduceAdd, Nat.reduceSub, Nat.reduceMul, D.bl.injEq, D.int.injEq, D.hs.injEq, D.lst.injEq, D.ow.injEq, D.tup.injEq, List.cons.injEq, and_true, true_and, reduceCtorEq, Bool.not_true, Bool.not_false, false_implies, true_implies, forall_const, imp_self, Bool.false_eq_true, if_true, if_false, ↓reduceIte, Bool.true_eq_false, ty_ii, ty_bi, ty_li, ty_ti, ty_ib, ty_bb, ty_lb, ty_tb, ty_ll, ty_tl, ty_dl, okd_int, okd_bl, okd_lst, okd_hs, kin_hs, wipeD, Tg.st, setAll, exists_and_left, exists_eq_left, exists_eq', and_assoc, exists_and_right]
    have hs : gb b (r.set i x) := set_gb h (by omega)
    refine fw_told_of _ _ hs ?_
    unfold hd
    have hi1 : ((i : Int) + 1) = ((i + 1 : Nat) : Int) := by omega
    try simp only [at0, at1, hi1, decide_true, decide_false, Bool.and_self, eq_self, W_loop0, WL_nil, true_or, or_true, or_false, W_seq, W_asg1, W_asgT, W_drop, W_ret, W_if, W_not, W_test, W_andV, W_notV, W_orV, W_andT, W_orT, W_bin, W_cons, W_nm, W_fn, W_fnK0, W_met, W_fld, W_pure, W_bind, W_isB, W_isLT, W_isH, W_add, W_sub, W_neg, W_ord, W_int, W_min, W_max, W_cat, W_part, W_sli, W_cutL, W_listL, W_listT, W_sumL, W_allL, W_itm, W_rng1, W_rng2, W_enu, W_zip', W_for, W_lc, W_app, W_sas, W_aug, W_par, W_lenL, W_lenT, W_lenS, W_iadd, W_isub, W_isBl, W_bit, Wa_newL, Wa_newT, Wa_newC, Wa_mul, Wa_div, Wa_mod, Wa_pow, Wa_ixL, Wa_ixT, Wa_ixC, Wa_lenC, Wa_mk, W_eqL, W_eqI, W_eqB, W_fail, W_cutS, W_cutC, startD, List.map_cons, List.map_nil, List.length_cons, List.length_nil, List.length_map, List.cons_append, List.nil_append, List.getElem?_cons_zero, List.getElem?_cons_succ, List.set_cons_zero, List.set_cons_succ, Option.some.injEq, exists_eq_left', List.replicate, Nat.reduceAdd, Nat.reduceSub, Nat.reduceMul, D.bl.injEq, D.int.injEq, D.hs.injEq, D.lst.injEq, D.ow.injEq, D.tup.injEq, List.cons.injEq, and_true, true_and, reduceCtorEq, Bool.not_true, Bool.not_false, false_implies, true_implies, forall_const, imp_self, Bool.false_eq_true, if_true, if_false, ↓reduceIte, Bool.true_eq_false, ty_ii, ty_bi, ty_li, ty_ti, ty_ib, ty_bb, ty_lb, ty_tb, ty_ll, ty_tl, ty_dl, okd_int, okd_bl, okd_lst, okd_hs, kin_hs, wipeD, Tg.st, setAll, exists_and_left, exists_eq_left, exists_eq', and_assoc, exists_and_right]
    rw [cutD_to (show i ≤ r.length by omega)]
    refine ⟨szl (by simp; omega), szl (by decide), szl (by simp; omega), ?_⟩
    rw [cutD_from (show i + 1 ≤ r.length by omega)]
    refine ⟨szl (by simp; omega), szl (by simp; omega), szl (by decide), ?_⟩
    rw [List.append_assoc, set_cut (by omega)]
    refine exact_hd hs ?_
    try simp only [decide_true, decide_false, Bool.and_self, eq_self, W_loop0, WL_nil, true_or, or_true, or_false, W_seq, W_asg1, W_asgT, W_drop, W_ret, W_if, W_not, W_test, W_andV, W_notV, W_orV, W_andT, W_orT, W_bin, W_cons, W_nm, W_fn, W_fnK0, W_met, W_fld, W_pure, W_bind, W_isB, W_isLT, W_isH, W_add, W_sub, W_neg, W_ord, W_int, W_min, W_max, W_cat, W_part, W_sli, W_cutL, W_listL, W_listT, W_sumL, W_allL, W_itm, W_rng1, W_rng2, W_enu, W_zip', W_for, W_lc, W_app, W_sas, W_aug, W_par, W_lenL, W_lenT, W_lenS, W_iadd, W_isub, W_isBl, W_bit, Wa_newL, Wa_newT, Wa_newC, Wa_mul, Wa_div, Wa_mod, Wa_pow, Wa_ixL, Wa_ixT, Wa_ixC, Wa_lenC, Wa_mk, W_eqL, W_eqI, W_eqB, W_fail, W_cutS, W_cutC, startD, List.map_cons, List.map_nil, List.length_cons, List.length_nil, List.length_map, List.cons_append, List.nil_append, List.getElem?_cons_zero, List.getElem?_cons_succ, List.set_cons_zero, List.set_cons_succ, Option.some.injEq, exists_eq_left', List.replicate, Nat.reduceAdd, Nat.reduceSub, Nat.reduceMul, D.bl.injEq, D.int.injEq, D.hs.injEq, D.lst.injEq, D.ow.injEq, D.tup.injEq, List.cons.injEq, and_true, true_and, reduceCtorEq, Bool.not_true, Bool.not_false, false_implies, true_implies, forall_const, imp_self, Bool.false_eq_true, if_true, if_false, ↓reduceIte, Bool.true_eq_false, ty_ii, ty_bi, ty_li, ty_ti, ty_ib, ty_bb, ty_lb, ty_tb, ty_ll, ty_tl, ty_dl, okd_int, okd_bl, okd_lst, okd_hs, kin_hs, wipeD, Tg.st, setAll, exists_and_left, exists_eq_left, exists_eq', and_assoc, exists_and_right]
    have tail : ∀ x6' x8', W (forM (rng2M (consM (nmM 2) (consM (nmM 4) (pureM [])))) (.one 7) (ifM (notT (testM (fnM 2 (F__law_exact 9) (consM (fnM 1 F__law_told_of (consM (fnK0M 3 F_stretch perm210 (consM (nmM 7) (consM (nmM 2) (consM (nmM 3) (pureM []))))) (pureM []))) (consM (bindM (consM (sliM newL (binM ixG (nmM 1) (pureM (.int 0))) (partM (nmM 2)) (partM (nmM 7))) (consM (sliM newL (binM ixG (nmM 1) (pureM (.int 1))) (partM (nmM 2)) (partM (binM (addG newL) (nmM 7) (pureM (.int 1))))) (pureM []))) newL) (pureM [])))))) (retS (pureM (.bl false))) (pureM .nx)))
        ⟨[some (.ow k), some (.lst [.lst (b.map D.int), .lst (r.map D.int)]), some (.int i), some (.hs b r), some (.int n), some (.int x), x6', x7, x8'], c.set k (pz l2)⟩ fun c_1 e' => c_1 = .nx ∧ IP c k t n b r (i + 1) e' := by
      intro x6' x8'
      try simp only [decide_true, decide_false, Bool.and_self, eq_self, W_loop0, WL_nil, true_or, or_true, or_false, W_seq, W_asg1, W_asgT, W_drop, W_ret, W_if, W_not, W_test, W_andV, W_notV, W_orV, W_andT, W_orT, W_bin, W_cons, W_nm, W_fn, W_fnK0, W_met, W_fld, W_pure, W_bind, W_isB, W_isLT, W_isH, W_add, W_sub, W_neg, W_ord, W_int, W_min, W_max, W_cat, W_part, W_sli, W_cutL, W_listL, W_listT, W_sumL, W_allL, W_itm, W_rng1, W_rng2, W_enu, W_zip', W_for, W_lc, W_app, W_sas, W_aug, W_par, W_lenL, W_lenT, W_lenS, W_iadd, W_isub, W_isBl, W_bit, Wa_newL, Wa_newT, Wa_newC, Wa_mul, Wa_div, Wa_mod, Wa_pow, Wa_ixL, Wa_ixT, Wa_ixC, Wa_lenC, Wa_mk, W_eqL, W_eqI, W_eqB, W_fail, W_cutS, W_cutC, startD, List.map_cons, List.map_nil, List.length_cons, List.length_nil, List.length_map, List.cons_append, List.nil_append, List.getElem?_cons_zero, List.getElem?_cons_succ, List.set_cons_zero, List.set_cons_succ, Option.some.injEq, exists_eq_left', List.replicate, Nat.reduceAdd, Nat.reduceSub, Nat.reduceMul, D.bl.injEq, D.int.injEq, D.hs.injEq, D.lst.injEq, D.ow.injEq, D.tup.injEq, List.cons.injEq, and_true, true_and, reduceCtorEq, Bool.not_true, Bool.not_false, false_implies, true_implies, forall_const, imp_self, Bool.false_eq_true, if_true, if_false, ↓reduceIte, Bool.true_eq_false, ty_ii, ty_bi, ty_li, ty_ti, ty_ib, ty_bb, ty_lb, ty_tb, ty_ll, ty_tl, ty_dl, okd_int, okd_bl, okd_lst, okd_hs, kin_hs, wipeD, Tg.st, setAll, exists_and_left, exists_eq_left, exists_eq', and_assoc, exists_and_right]
      refine ⟨by omega, by omega, by omega, by omega, ?_⟩
      rw [show ((n : Int) - i).toNat = n - i by omega]
      refine W_seqloop _ (fun j e => ∃ x7, e = ⟨[some (.ow k), some (hd b r), some (.int i), some (.hs b r), some (.int n), some (.int x), x6', x7, x8'], c.set k (pz l2)⟩) _ (fun j d e hj hJ => ?_) ⟨x7, rfl⟩ (fun e hJ => ?_)
      · obtain ⟨hjn, rfl⟩ := rng_get hj
        obtain ⟨y7, rfl⟩ := hJ
        rw [show (i : Int) + (j : Int) = ((i + j : Nat) : Int) from (Int.natCast_add i j).symm]
        refine ⟨_, rfl, ?_⟩
        try simp only [perm210, decide_true, decide_false, Bool.and_self, eq_self, W_loop0, WL_nil, true_or, or_true, or_false, W_seq, W_asg1, W_asgT, W_drop, W_ret, W_if, W_not, W_test, W_andV, W_notV, W_orV, W_andT, W_orT, W_bin, W_cons, W_nm, W_fn, W_fnK0, W_met, W_fld, W_pure, W_bind, W_isB, W_isLT, W_isH, W_add, W_sub, W_neg, W_ord, W_int, W_min, W_max, W_cat, W_part, W_sli, W_cutL, W_listL, W_listT, W_sumL, W_allL, W_itm, W_rng1, W_rng2, W_enu, W_zip', W_for, W_lc, W_app, W_sas, W_aug, W_par, W_lenL, W_lenT, W_lenS, W_iadd, W_isub, W_isBl, W_bit, Wa_newL, Wa_newT, Wa_newC, Wa_mul, Wa_div, Wa_mod, Wa_pow, Wa_ixL, Wa_ixT, Wa_ixC, Wa_lenC, Wa_mk, W_eqL, W_eqI, W_eqB, W_fail, W_cutS, W_cutC, startD, List.map_cons, List.map_nil, List.length_cons, List.length_nil, List.length_map, List.cons_append, List.nil_append, List.getElem?_cons_zero, List.getElem?_cons_succ, List.set_cons_zero, List.set_cons_succ, Option.some.injEq, exists_eq_left', List.replicate, Nat.reduceAdd, Nat.reduceSub, Nat.reduceMul, D.bl.injEq, D.int.injEq, D.hs.injEq, D.lst.injEq, D.ow.injEq, D.tup.injEq, List.cons.injEq, and_true, true_and, reduceCtorEq, Bool.not_true, Bool.not_false, false_implies, true_implies, forall_const, imp_self, Bool.false_eq_true, if_true, if_false, ↓reduceIte, Bool.true_eq_false, ty_ii, ty_bi, ty_li, ty_ti, ty_ib, ty_bb, ty_lb, ty_tb, ty_ll, ty_tl, ty_dl, okd_int, okd_bl, okd_lst, okd_hs, kin_hs, wipeD, Tg.st, setAll, exists_and_left, exists_eq_left, exists_eq', and_assoc, exists_and_right]
        refine fw_stretch b r h i (i + j) (by omega) (by omega) ?_
        have hs := cut_gb h (f := i) (l := i + j) (by omega) (by omega)
        refine fw_told_of _ _ hs ?_
        unfold hd
        have hi2 : (((i + j : Nat) : Int) + 1) = ((i + j + 1 : Nat) : Int) := by omega
        try simp only [at0, at1, hi2, decide_true, decide_false, Bool.and_self, eq_self, W_loop0, WL_nil, true_or, or_true, or_false, W_seq, W_asg1, W_asgT, W_drop, W_ret, W_if, W_not, W_test, W_andV, W_notV, W_orV, W_andT, W_orT, W_bin, W_cons, W_nm, W_fn, W_fnK0, W_met, W_fld, W_pure, W_bind, W_isB, W_isLT, W_isH, W_add, W_sub, W_neg, W_ord, W_int, W_min, W_max, W_cat, W_part, W_sli, W_cutL, W_listL, W_listT, W_sumL, W_allL, W_itm, W_rng1, W_rng2, W_enu, W_zip', W_for, W_lc, W_app, W_sas, W_aug, W_par, W_lenL, W_lenT, W_lenS, W_iadd, W_isub, W_isBl, W_bit, Wa_newL, Wa_newT, Wa_newC, Wa_mul, Wa_div, Wa_mod, Wa_pow, Wa_ixL, Wa_ixT, Wa_ixC, Wa_lenC, Wa_mk, W_eqL, W_eqI, W_eqB, W_fail, W_cutS, W_cutC, startD, List.map_cons, List.map_nil, List.length_cons, List.length_nil, List.length_map, List.cons_append, List.nil_append, List.getElem?_cons_zero, List.getElem?_cons_succ, List.set_cons_zero, List.set_cons_succ, Option.some.injEq, exists_eq_left', List.replicate, Nat.reduceAdd, Nat.reduceSub, Nat.reduceMul, D.bl.injEq, D.int.injEq, D.hs.injEq, D.lst.injEq, D.ow.injEq, D.tup.injEq, List.cons.injEq, and_true, true_and, reduceCtorEq, Bool.not_true, Bool.not_false, false_implies, true_implies, forall_const, imp_self, Bool.false_eq_true, if_true, if_false, ↓reduceIte, Bool.true_eq_false, ty_ii, ty_bi, ty_li, ty_ti, ty_ib, ty_bb, ty_lb, ty_tb, ty_ll, ty_tl, ty_dl, okd_int, okd_bl, okd_lst, okd_hs, kin_hs, wipeD, Tg.st, setAll, exists_and_left, exists_eq_left, exists_eq', and_assoc, exists_and_right]
        rw [cutD_map (show i ≤ b.length by omega) (show i + j ≤ b.length by omega)]
        refine ⟨szl (by have := hs.bl; simpa using this), ?_⟩
        rw [cutD_map (show i ≤ r.length by omega) (show i + j + 1 ≤ r.length by omega)]
        refine ⟨szl (by have := hs.rl; simpa using this), szl (by decide), ?_⟩
        refine exact_hd hs ?_
        try simp only [decide_true, decide_false, Bool.and_self, eq_self, W_loop0, WL_nil, true_or, or_true, or_false, W_seq, W_asg1, W_asgT, W_drop, W_ret, W_if, W_not, W_test, W_andV, W_notV, W_orV, W_andT, W_orT, W_bin, W_cons, W_nm, W_fn, W_fnK0, W_met, W_fld, W_pure, W_bind, W_isB, W_isLT, W_isH, W_add, W_sub, W_neg, W_ord, W_int, W_min, W_max, W_cat, W_part, W_sli, W_cutL, W_listL, W_listT, W_sumL, W_allL, W_itm, W_rng1, W_rng2, W_enu, W_zip', W_for, W_lc, W_app, W_sas, W_aug, W_par, W_lenL, W_lenT, W_lenS, W_iadd, W_isub, W_isBl, W_bit, Wa_newL, Wa_newT, Wa_newC, Wa_mul, Wa_div, Wa_mod, Wa_pow, Wa_ixL, Wa_ixT, Wa_ixC, Wa_lenC, Wa_mk, W_eqL, W_eqI, W_eqB, W_fail, W_cutS, W_cutC, startD, List.map_cons, List.map_nil, List.length_cons, List.length_nil, List.length_map, List.cons_append, List.nil_append, List.getElem?_cons_zero, List.getElem?_cons_succ, List.set_cons_zero, List.set_cons_succ, Option.some.injEq, exists_eq_left', List.replicate, Nat.reduceAdd, Nat.reduceSub, Nat.reduceMul, D.bl.injEq, D.int.injEq, D.hs.injEq, D.lst.injEq, D.ow.injEq, D.tup.injEq, List.cons.injEq, and_true, true_and, reduceCtorEq, Bool.not_true, Bool.not_false, false_implies, true_implies, forall_const, imp_self, Bool.false_eq_true, if_true, if_false, ↓reduceIte, Bool.true_eq_false, ty_ii, ty_bi, ty_li, ty_ti, ty_ib, ty_bb, ty_lb, ty_tb, ty_ll, ty_tl, ty_dl, okd_int, okd_bl, okd_lst, okd_hs, kin_hs, wipeD, Tg.st, setAll, exists_and_left, exists_eq_left, exists_eq', and_assoc, exists_and_right]
        exact ⟨_, rfl⟩
      · obtain ⟨y7, rfl⟩ := hJ
        exact ⟨rfl, l2, _, _, _, _, _, rfl, hl2.mono (by omega)⟩
    refine ⟨fun hlt => ?_, fun _ => ?_⟩
    · have hlt := of_decide_eq_true hlt
      have ib : i < b.length := by omega
      have hy : b[i]? = some b[i] := List.getElem?_eq_getElem ib
      have hz : r[i]? = some (r[i]'(by omega)) := List.getElem?_eq_getElem (by omega)
      have ay : atI (b.map D.int) (i : Int) = some (.int b[i]) := atI_nat (by rw [List.getElem?_map, hy]; rfl)
      have az : atI (r.map D.int) (i : Int) = some (.int (r[i]'(by omega))) := atI_nat (by rw [List.getElem?_map, hz]; rfl)
      try simp only [ay, az, decide_true, decide_false, Bool.and_self, eq_self, W_loop0, WL_nil, true_or, or_true, or_false, W_seq, W_asg1, W_asgT, W_drop, W_ret, W_if, W_not, W_test, W_andV, W_notV, W_orV, W_andT, W_orT, W_bin, W_cons, W_nm, W_fn, W_fnK0, W_met, W_fld, W_pure, W_bind, W_isB, W_isLT, W_isH, W_add, W_sub, W_neg, W_ord, W_int, W_min, W_max, W_cat, W_part, W_sli, W_cutL, W_listL, W_listT, W_sumL, W_allL, W_itm, W_rng1, W_rng2, W_enu, W_zip', W_for, W_lc, W_app, W_sas, W_aug, W_par, W_lenL, W_lenT, W_lenS, W_iadd, W_isub, W_isBl, W_bit, Wa_newL, Wa_newT, Wa_newC, Wa_mul, Wa_div, Wa_mod, Wa_pow, Wa_ixL, Wa_ixT, Wa_ixC, Wa_lenC, Wa_mk, W_eqL, W_eqI, W_eqB, W_fail, W_cutS, W_cutC, startD, List.map_cons, List.map_nil, List.length_cons, List.length_nil, List.length_map, List.cons_append, List.nil_append, List.getElem?_cons_zero, List.getElem?_cons_succ, List.set_cons_zero, List.set_cons_succ, Option.some.injEq, exists_eq_left', List.replicate, Nat.reduceAdd, Nat.reduceSub, Nat.reduceMul, D.bl.injEq, D.int.injEq, D.hs.injEq, D.lst.injEq, D.ow.injEq, D.tup.injEq, List.cons.injEq, and_true, true_and, reduceCtorEq, Bool.not_true, Bool.not_false, false_implies, true_implies, forall_const, imp_self, Bool.false_eq_true, if_true, if_false, ↓reduceIte, Bool.true_eq_false, ty_ii, ty_bi, ty_li, ty_ti, ty_ib, ty_bb, ty_lb, ty_tb, ty_ll, ty_tl, ty_dl, okd_int, okd_bl, okd_lst, okd_hs, kin_hs, wipeD, Tg.st, setAll, exists_and_left, exists_eq_left, exists_eq', and_assoc, exists_and_right]
      have ht' : ∀ R : D → Cells → Prop, R (.hs b (r.set i (mn (r[i]'(by omega)) (b[i] - 1)))) (c.set k (pz l2)) → FW F_tightened [.hs b r, .int i] (c.set k (pz l2)) R := fun R hR => fw_tightened b r h i ib _ _ hz hy hR
      have hm : 0 ≤ mn (r[i]'(by omega)) (b[i] - 1) ∧ mn (r[i]'(by omega)) (b[i] - 1) ≤ 100 := by
        have h1 := hg.2.2.1 _ (List.mem_of_getElem? hy)
        have h2 := hg.2.2.2 _ (List.mem_of_getElem? hz)
        unfold mn
        split <;> omega
      have hs : gb b (r.set i (mn (r[i]'(by omega)) (b[i] - 1))) := set_gb h hm
      refine ⟨fun _ => ?_, fun _ => ?_⟩
      all_goals
        try simp only [perm10, decide_true, decide_false, Bool.and_self, eq_self, W_loop0, WL_nil, true_or, or_true, or_false, W_seq, W_asg1, W_asgT, W_drop, W_ret, W_if, W_not, W_test, W_andV, W_notV, W_orV, W_andT, W_orT, W_bin, W_cons, W_nm, W_fn, W_fnK0, W_met, W_fld, W_pure, W_bind, W_isB, W_isLT, W_isH, W_add, W_sub, W_neg, W_ord, W_int, W_min, W_max, W_cat, W_part, W_sli, W_cutL, W_listL, W_listT, W_sumL, W_allL, W_itm, W_rng1, W_rng2, W_enu, W_zip', W_for, W_lc, W_app, W_sas, W_aug, W_par, W_lenL, W_lenT, W_lenS, W_iadd, W_isub, W_isBl, W_bit, Wa_newL, Wa_newT, Wa_newC, Wa_mul, Wa_div, Wa_mod, Wa_pow, Wa_ixL, Wa_ixT, Wa_ixC, Wa_lenC, Wa_mk, W_eqL, W_eqI, W_eqB, W_fail, W_cutS, W_cutC, startD, List.map_cons, List.map_nil, List.length_cons, List.length_nil, List.length_map, List.cons_append, List.nil_append, List.getElem?_cons_zero, List.getElem?_cons_succ, List.set_cons_zero, List.set_cons_succ, Option.some.injEq, exists_eq_left', List.replicate, Nat.reduceAdd, Nat.reduceSub, Nat.reduceMul, D.bl.injEq, D.int.injEq, D.hs.injEq, D.lst.injEq, D.ow.injEq, D.tup.injEq, List.cons.injEq, and_true, true_and, reduceCtorEq, Bool.not_true, Bool.not_false, false_implies, true_implies, forall_const, imp_self, Bool.false_eq_true, if_true, if_false, ↓reduceIte, Bool.true_eq_false, ty_ii, ty_bi, ty_li, ty_ti, ty_ib, ty_bb, ty_lb, ty_tb, ty_ll, ty_tl, ty_dl, okd_int, okd_bl, okd_lst, okd_hs, kin_hs, wipeD, Tg.st, setAll, exists_and_left, exists_eq_left, exists_eq', and_assoc, exists_and_right]
        refine ht' _ ?_
        refine fw_told_of _ _ hs ?_
        unfold hd
        try simp only [at0, at1, hi1, decide_true, decide_false, Bool.and_self, eq_self, W_loop0, WL_nil, true_or, or_true, or_false, W_seq, W_asg1, W_asgT, W_drop, W_ret, W_if, W_not, W_test, W_andV, W_notV, W_orV, W_andT, W_orT, W_bin, W_cons, W_nm, W_fn, W_fnK0, W_met, W_fld, W_pure, W_bind, W_isB, W_isLT, W_isH, W_add, W_sub, W_neg, W_ord, W_int, W_min, W_max, W_cat, W_part, W_sli, W_cutL, W_listL, W_listT, W_sumL, W_allL, W_itm, W_rng1, W_rng2, W_enu, W_zip', W_for, W_lc, W_app, W_sas, W_aug, W_par, W_lenL, W_lenT, W_lenS, W_iadd, W_isub, W_isBl, W_bit, Wa_newL, Wa_newT, Wa_newC, Wa_mul, Wa_div, Wa_mod, Wa_pow, Wa_ixL, Wa_ixT, Wa_ixC, Wa_lenC, Wa_mk, W_eqL, W_eqI, W_eqB, W_fail, W_cutS, W_cutC, startD, List.map_cons, List.map_nil, List.length_cons, List.length_nil, List.length_map, List.cons_append, List.nil_append, List.getElem?_cons_zero, List.getElem?_cons_succ, List.set_cons_zero, List.set_cons_succ, Option.some.injEq, exists_eq_left', List.replicate, Nat.reduceAdd, Nat.reduceSub, Nat.reduceMul, D.bl.injEq, D.int.injEq, D.hs.injEq, D.lst.injEq, D.ow.injEq, D.tup.injEq, List.cons.injEq, and_true, true_and, reduceCtorEq, Bool.not_true, Bool.not_false, false_implies, true_implies, forall_const, imp_self, Bool.false_eq_true, if_true, if_false, ↓reduceIte, Bool.true_eq_false, ty_ii, ty_bi, ty_li, ty_ti, ty_ib, ty_bb, ty_lb, ty_tb, ty_ll, ty_tl, ty_dl, okd_int, okd_bl, okd_lst, okd_hs, kin_hs, wipeD, Tg.st, setAll, exists_and_left, exists_eq_left, exists_eq', and_assoc, exists_and_right]
        rw [cutD_to (show i ≤ r.length by omega)]
        refine ⟨szl (by simp; omega), szl (by decide), szl (by simp; omega), ?_⟩
        rw [cutD_from (show i + 1 ≤ r.length by omega)]
        refine ⟨szl (by simp; omega), szl (by simp; omega), szl (by decide), ?_⟩
        rw [List.append_assoc, show (if b[i] - 1 < r[i]'(by omega) then b[i] - 1 else r[i]'(by omega)) = mn (r[i]'(by omega)) (b[i] - 1) from rfl, set_cut (by omega)]
        refine exact_hd hs ?_
        try simp only [decide_true, decide_false, Bool.and_self, eq_self, W_loop0, WL_nil, true_or, or_true, or_false, W_seq, W_asg1, W_asgT, W_drop, W_ret, W_if, W_not, W_test, W_andV, W_notV, W_orV, W_andT, W_orT, W_bin, W_cons, W_nm, W_fn, W_fnK0, W_met, W_fld, W_pure, W_bind, W_isB, W_isLT, W_isH, W_add, W_sub, W_neg, W_ord, W_int, W_min, W_max, W_cat, W_part, W_sli, W_cutL, W_listL, W_listT, W_sumL, W_allL, W_itm, W_rng1, W_rng2, W_enu, W_zip', W_for, W_lc, W_app, W_sas, W_aug, W_par, W_lenL, W_lenT, W_lenS, W_iadd, W_isub, W_isBl, W_bit, Wa_newL, Wa_newT, Wa_newC, Wa_mul, Wa_div, Wa_mod, Wa_pow, Wa_ixL, Wa_ixT, Wa_ixC, Wa_lenC, Wa_mk, W_eqL, W_eqI, W_eqB, W_fail, W_cutS, W_cutC, startD, List.map_cons, List.map_nil, List.length_cons, List.length_nil, List.length_map, List.cons_append, List.nil_append, List.getElem?_cons_zero, List.getElem?_cons_succ, List.set_cons_zero, List.set_cons_succ, Option.some.injEq, exists_eq_left', List.replicate, Nat.reduceAdd, Nat.reduceSub, Nat.reduceMul, D.bl.injEq, D.int.injEq, D.hs.injEq, D.lst.injEq, D.ow.injEq, D.tup.injEq, List.cons.injEq, and_true, true_and, reduceCtorEq, Bool.not_true, Bool.not_false, false_implies, true_implies, forall_const, imp_self, Bool.false_eq_true, if_true, if_false, ↓reduceIte, Bool.true_eq_false, ty_ii, ty_bi, ty_li, ty_ti, ty_ib, ty_bb, ty_lb, ty_tb, ty_ll, ty_tl, ty_dl, okd_int, okd_bl, okd_lst, okd_hs, kin_hs, wipeD, Tg.st, setAll, exists_and_left, exists_eq_left, exists_eq', and_assoc, exists_and_right]
        have t1 := tail (some (.hs b (r.set i (mn (r[i]'(by omega)) (b[i] - 1))))) (some (.int (mn (r[i]'(by omega)) (b[i] - 1))))
        simp only [decide_true, decide_false, Bool.and_self, eq_self, W_loop0, WL_nil, true_or, or_true, or_false, W_seq, W_asg1, W_asgT, W_drop, W_ret, W_if, W_not, W_test, W_andV, W_notV, W_orV, W_andT, W_orT, W_bin, W_cons, W_nm, W_fn, W_fnK0, W_met, W_fld, W_pure, W_bind, W_isB, W_isLT, W_isH, W_add, W_sub, W_neg, W_ord, W_int, W_min, W_max, W_cat, W_part, W_sli, W_cutL, W_listL, W_listT, W_sumL, W_allL, W_itm, W_rng1, W_rng2, W_enu, W_zip', W_for, W_lc, W_app, W_sas, W_aug, W_par, W_lenL, W_lenT, W_lenS, W_iadd, W_isub, W_isBl, W_bit, Wa_newL, Wa_newT, Wa_newC, Wa_mul, Wa_div, Wa_mod, Wa_pow, Wa_ixL, Wa_ixT, Wa_ixC, Wa_lenC, Wa_mk, W_eqL, W_eqI, W_eqB, W_fail, W_cutS, W_cutC, startD, List.map_cons, List.map_nil, List.length_cons, List.length_nil, List.length_map, List.cons_append, List.nil_append, List.getElem?_cons_zero, List.getElem?_cons_succ, List.set_cons_zero, List.set_cons_succ, Option.some.injEq, exists_eq_left', List.replicate, Nat.reduceAdd, Nat.reduceSub, Nat.reduceMul, D.bl.injEq, D.int.injEq, D.hs.injEq, D.lst.injEq, D.ow.injEq, D.tup.injEq, List.cons.injEq, and_true, true_and, reduceCtorEq, Bool.not_true, Bool.not_false, false_implies, true_implies, forall_const, imp_self, Bool.false_eq_true, if_true, if_false, ↓reduceIte, Bool.true_eq_false, ty_ii, ty_bi, ty_li, ty_ti, ty_ib, ty_bb, ty_lb, ty_tb, ty_ll, ty_tl, ty_dl, okd_int, okd_bl, okd_lst, okd_hs, kin_hs, wipeD, Tg.st, setAll, exists_and_left, exists_eq_left, exists_eq', and_assoc, exists_and_right] at t1
        exact t1
    · have t1 := tail (some (.hs b (r.set i x))) x8
      simp only [decide_true, decide_false, Bool.and_self, eq_self, W_loop0, WL_nil, true_or, or_true, or_false, W_seq, W_asg1, W_asgT, W_drop, W_ret, W_if, W_not, W_test, W_andV, W_notV, W_orV, W_andT, W_orT, W_bin, W_cons, W_nm, W_fn, W_fnK0, W_met, W_fld, W_pure, W_bind, W_isB, W_isLT, W_isH, W_add, W_sub, W_neg, W_ord, W_int, W_min, W_max, W_cat, W_part, W_sli, W_cutL, W_listL, W_listT, W_sumL, W_allL, W_itm, W_rng1, W_rng2, W_enu, W_zip', W_for, W_lc, W_app, W_sas, W_aug, W_par, W_lenL, W_lenT, W_lenS, W_iadd, W_isub, W_isBl, W_bit, Wa_newL, Wa_newT, Wa_newC, Wa_mul, Wa_div, Wa_mod, Wa_pow, Wa_ixL, Wa_ixT, Wa_ixC, Wa_lenC, Wa_mk, W_eqL, W_eqI, W_eqB, W_fail, W_cutS, W_cutC, startD, List.map_cons, List.map_nil, List.length_cons, List.length_nil, List.length_map, List.cons_append, List.nil_append, List.getElem?_cons_zero, List.getElem?_cons_succ, List.set_cons_zero, List.set_cons_succ, Option.some.injEq, exists_eq_left', List.replicate, Nat.reduceAdd, Nat.reduceSub, Nat.reduceMul, D.bl.injEq, D.int.injEq, D.hs.injEq, D.lst.injEq, D.ow.injEq, D.tup.injEq, List.cons.injEq, and_true, true_and, reduceCtorEq, Bool.not_true, Bool.not_false, false_implies, true_implies, forall_const, imp_self, Bool.false_eq_true, if_true, if_false, ↓reduceIte, Bool.true_eq_false, ty_ii, ty_bi, ty_li, ty_ti, ty_ib, ty_bb, ty_lb, ty_tb, ty_ll, ty_tl, ty_dl, okd_int, okd_bl, okd_lst, okd_hs, kin_hs, wipeD, Tg.st, setAll, exists_and_left, exists_eq_left, exists_eq', and_assoc, exists_and_right] at t1
      exact t1
  · obtain ⟨l1, x2, x5, x6, x7, x8, rfl, g1⟩ := hJ
    try simp only [decide_true, decide_false, Bool.and_self, eq_self, W_loop0, WL_nil, true_or, or_true, or_false, W_seq, W_asg1, W_asgT, W_drop, W_ret, W_if, W_not, W_test, W_andV, W_notV, W_orV, W_andT, W_orT, W_bin, W_cons, W_nm, W_fn, W_fnK0, W_met, W_fld, W_pure, W_bind, W_isB, W_isLT, W_isH, W_add, W_sub, W_neg, W_ord, W_int, W_min, W_max, W_cat, W_part, W_sli, W_cutL, W_listL, W_listT, W_sumL, W_allL, W_itm, W_rng1, W_rng2, W_enu, W_zip', W_for, W_lc, W_app, W_sas, W_aug, W_par, W_lenL, W_lenT, W_lenS, W_iadd, W_isub, W_isBl, W_bit, Wa_newL, Wa_newT, Wa_newC, Wa_mul, Wa_div, Wa_mod, Wa_pow, Wa_ixL, Wa_ixT, Wa_ixC, Wa_lenC, Wa_mk, W_eqL, W_eqI, W_eqB, W_fail, W_cutS, W_cutC, startD, List.map_cons, List.map_nil, List.length_cons, List.length_nil, List.length_map, List.cons_append, List.nil_append, List.getElem?_cons_zero, List.getElem?_cons_succ, List.set_cons_zero, List.set_cons_succ, Option.some.injEq, exists_eq_left', List.replicate, Nat.reduceAdd, Nat.reduceSub, Nat.reduceMul, D.bl.injEq, D.int.injEq, D.hs.injEq, D.lst.injEq, D.ow.injEq, D.tup.injEq, List.cons.injEq, and_true, true_and, reduceCtorEq, Bool.not_true, Bool.not_false, false_implies, true_implies, forall_const, imp_self, Bool.false_eq_true, if_true, if_false, ↓reduceIte, Bool.true_eq_false, ty_ii, ty_bi, ty_li, ty_ti, ty_ib, ty_bb, ty_lb, ty_tb, ty_ll, ty_tl, ty_dl, okd_int, okd_bl, okd_lst, okd_hs, kin_hs, wipeD, Tg.st, setAll, exists_and_left, exists_eq_left, exists_eq', and_assoc, exists_and_right]
    refine fw_told_of _ _ h ?_
    refine exact_hd h ?_
    rw [rng_len] at g1
    exact end_set0 rfl (q l1 (g1.mono (by omega)))
end
end K4

/-! K4Z: houses set behind one another. -/
namespace K4
open PySem PySem.Spec PyProof.Rows L2 CD
section
variable {c : Cells} {Q : D → Cells → Prop}
def lastw (w : Int) : List Int → Int
  | [] => w
  | y :: b => lastw (w * y) b
theorem wts_last (b : List Int) : ∀ w : Int, ∃ pre, wts w b = pre ++ [lastw w b] := by
  induction b with
  | nil => exact fun w => ⟨[], rfl⟩
  | cons y b ih =>
    intro w
    obtain ⟨pre, h⟩ := ih (w * y)
    exact ⟨w :: pre, by rw [wts, h, lastw]; rfl⟩
theorem wts_mul (b : List Int) : ∀ v w : Int, wts (v * w) b = (wts w b).map fun x => v * x := by
  induction b with
  | nil => intro v w; rfl
  | cons y b ih =>
    intro v w
    rw [wts, wts, List.map_cons, Int.mul_assoc, ih]
theorem wts_app (b b' : List Int) (x : Int) : ∀ w : Int, wts w (b ++ [x] ++ b') = wts w b ++ wts (lastw w b * x) b' := by
  induction b with
  | nil => intro w; rfl
  | cons y b ih =>
    intro w
    rw [List.cons_append, List.cons_append, wts, ih, wts, lastw]
    rfl
theorem wts_beh (b b' : List Int) (x : Int) : wts 1 (b ++ [x] ++ b') = wts 1 b ++ (wts 1 b').map fun w => lastw 1 b * x * w := by
  rw [wts_app]
  congr 1
  have := wts_mul b' (lastw 1 b * x) 1
  rw [Int.mul_one] at this
  exact this
theorem cut_one {b b' : List Int} {x : Int} : cut (b ++ [x] ++ b') 0 b.length = b := by simp [cut]
theorem cut_two {b b' : List Int} {x : Int} {m : Nat} (hm : m = b.length + 1 + b'.length) : cut (b ++ [x] ++ b') (b.length + 1) m = b' := by
  subst hm
  unfold cut
  rw [List.drop_left' (by simp)]
  exact List.take_of_length_le (by omega)
theorem cut_r1 {r r' : List Int} {n : Nat} (hn : n = r.length) : cut (r ++ r') 0 n = r := by subst hn; simp [cut]
theorem cut_r2 {r r' : List Int} {n m : Nat} (hn : n = r.length) (hm : m = r.length + r'.length) : cut (r ++ r') n m = r' := by
  subst hn hm
  unfold cut
  rw [List.drop_left' rfl]
  exact List.take_of_length_le (by omega)
theorem fw_behind (k : Nat) (l : List Int) (t : Nat) (hc : c[k]? = some (pz l)) (hl : Pl l t) (ht : t + 40 < 2 ^ 19) (n n' : Nat) (hn : n ≤ 8) (hn' : n' ≤ 8) (h1n : 1 ≤ n) (h1n' : 1 ≤ n') (b r b' r' : List Int) (hg : gh b r n) (hg' : gh b' r' n') (q : ∀ l', Pl l' (t + 1) → Q (.bl true) (c.set k (pz l'))) : FW F__law_behind_right [.ow k, hd b r, hd b' r'] c Q := by
  have hk : k < c.length := (List.getElem?_eq_some_iff.mp hc).1
  have h : gb b r := hg.gb (by omega)
  have h' : gb b' r' := hg'.gb (by omega)
  have hb := hg.1
  have hr := hg.2.1
  have hb' := hg'.1
  have hr' := hg'.2.1
  refine FW_runBx rfl ?_
  unfold b__law_behind_right
  try simp only [decide_true, decide_false, Bool.and_self, eq_self, W_loop0, WL_nil, true_or, or_true, or_false, W_seq, W_asg1, W_asgT, W_drop, W_ret, W_if, W_not, W_test, W_andV, W_notV, W_orV, W_andT, W_orT, W_bin, W_cons, W_nm, W_fn, W_fnK0, W_met, W_fld, W_pure, W_bind, W_isB, W_isLT, W_isH, W_add, W_sub, W_neg, W_ord, W_int, W_min, W_max, W_cat, W_part, W_sli, W_cutL, W_listL, W_listT, W_sumL, W_allL, W_itm, W_rng1, W_rng2, W_enu, W_zip', W_for, W_lc, W_app, W_sas, W_aug, W_par, W_lenL, W_lenT, W_lenS, W_iadd, W_isub, W_isBl, W_bit, Wa_newL, Wa_newT, Wa_newC, Wa_mul, Wa_div, Wa_mod, Wa_pow, Wa_ixL, Wa_ixT, Wa_ixC, Wa_lenC, Wa_mk, W_eqL, W_eqI, W_eqB, W_fail, W_cutS, W_cutC, startD, List.map_cons, List.map_nil, List.length_cons, List.length_nil, List.length_map, List.cons_append, List.nil_append, List.getElem?_cons_zero, List.getElem?_cons_succ, List.set_cons_zero, List.set_cons_succ, Option.some.injEq, exists_eq_left', List.replicate, Nat.reduceAdd, Nat.reduceSub, Nat.reduceMul, D.bl.injEq, D.int.injEq, D.hs.injEq, D.lst.injEq, D.ow.injEq, D.tup.injEq, List.cons.injEq, and_true, true_and, reduceCtorEq, Bool.not_true, Bool.not_false, false_implies, true_implies, forall_const, imp_self, Bool.false_eq_true, if_true, if_false, ↓reduceIte, Bool.true_eq_false, ty_ii, ty_bi, ty_li, ty_ti, ty_ib, ty_bb, ty_lb, ty_tb, ty_ll, ty_tl, ty_dl, okd_int, okd_bl, okd_lst, okd_hs, kin_hs, wipeD, Tg.st, setAll, exists_and_left, exists_eq_left, exists_eq', and_assoc, exists_and_right]
  refine fw_made b r h ?_
  try simp only [decide_true, decide_false, Bool.and_self, eq_self, W_loop0, WL_nil, true_or, or_true, or_false, W_seq, W_asg1, W_asgT, W_drop, W_ret, W_if, W_not, W_test, W_andV, W_notV, W_orV, W_andT, W_orT, W_bin, W_cons, W_nm, W_fn, W_fnK0, W_met, W_fld, W_pure, W_bind, W_isB, W_isLT, W_isH, W_add, W_sub, W_neg, W_ord, W_int, W_min, W_max, W_cat, W_part, W_sli, W_cutL, W_listL, W_listT, W_sumL, W_allL, W_itm, W_rng1, W_rng2, W_enu, W_zip', W_for, W_lc, W_app, W_sas, W_aug, W_par, W_lenL, W_lenT, W_lenS, W_iadd, W_isub, W_isBl, W_bit, Wa_newL, Wa_newT, Wa_newC, Wa_mul, Wa_div, Wa_mod, Wa_pow, Wa_ixL, Wa_ixT, Wa_ixC, Wa_lenC, Wa_mk, W_eqL, W_eqI, W_eqB, W_fail, W_cutS, W_cutC, startD, List.map_cons, List.map_nil, List.length_cons, List.length_nil, List.length_map, List.cons_append, List.nil_append, List.getElem?_cons_zero, List.getElem?_cons_succ, List.set_cons_zero, List.set_cons_succ, Option.some.injEq, exists_eq_left', List.replicate, Nat.reduceAdd, Nat.reduceSub, Nat.reduceMul, D.bl.injEq, D.int.injEq, D.hs.injEq, D.lst.injEq, D.ow.injEq, D.tup.injEq, List.cons.injEq, and_true, true_and, reduceCtorEq, Bool.not_true, Bool.not_false, false_implies, true_implies, forall_const, imp_self, Bool.false_eq_true, if_true, if_false, ↓reduceIte, Bool.true_eq_false, ty_ii, ty_bi, ty_li, ty_ti, ty_ib, ty_bb, ty_lb, ty_tb, ty_ll, ty_tl, ty_dl, okd_int, okd_bl, okd_lst, okd_hs, kin_hs, wipeD, Tg.st, setAll, exists_and_left, exists_eq_left, exists_eq', and_assoc, exists_and_right]
  refine fw_made b' r' h' ?_
  try simp only [decide_true, decide_false, Bool.and_self, eq_self, W_loop0, WL_nil, true_or, or_true, or_false, W_seq, W_asg1, W_asgT, W_drop, W_ret, W_if, W_not, W_test, W_andV, W_notV, W_orV, W_andT, W_orT, W_bin, W_cons, W_nm, W_fn, W_fnK0, W_met, W_fld, W_pure, W_bind, W_isB, W_isLT, W_isH, W_add, W_sub, W_neg, W_ord, W_int, W_min, W_max, W_cat, W_part, W_sli, W_cutL, W_listL, W_listT, W_sumL, W_allL, W_itm, W_rng1, W_rng2, W_enu, W_zip', W_for, W_lc, W_app, W_sas, W_aug, W_par, W_lenL, W_lenT, W_lenS, W_iadd, W_isub, W_isBl, W_bit, Wa_newL, Wa_newT, Wa_newC, Wa_mul, Wa_div, Wa_mod, Wa_pow, Wa_ixL, Wa_ixT, Wa_ixC, Wa_lenC, Wa_mk, W_eqL, W_eqI, W_eqB, W_fail, W_cutS, W_cutC, startD, List.map_cons, List.map_nil, List.length_cons, List.length_nil, List.length_map, List.cons_append, List.nil_append, List.getElem?_cons_zero, List.getElem?_cons_succ, List.set_cons_zero, List.set_cons_succ, Option.some.injEq, exists_eq_left', List.replicate, Nat.reduceAdd, Nat.reduceSub, Nat.reduceMul, D.bl.injEq, D.int.injEq, D.hs.injEq, D.lst.injEq, D.ow.injEq, D.tup.injEq, List.cons.injEq, and_true, true_and, reduceCtorEq, Bool.not_true, Bool.not_false, false_implies, true_implies, forall_const, imp_self, Bool.false_eq_true, if_true, if_false, ↓reduceIte, Bool.true_eq_false, ty_ii, ty_bi, ty_li, ty_ti, ty_ib, ty_bb, ty_lb, ty_tb, ty_ll, ty_tl, ty_dl, okd_int, okd_bl, okd_lst, okd_hs, kin_hs, wipeD, Tg.st, setAll, exists_and_left, exists_eq_left, exists_eq', and_assoc, exists_and_right]
  refine fw_draw k l t hc hl (by omega) 59 (by decide) (by decide) fun i l1 hi hi' hl1 => ?_
  try simp only [perm210, decide_true, decide_false, Bool.and_self, eq_self, W_loop0, WL_nil, true_or, or_true, or_false, W_seq, W_asg1, W_asgT, W_drop, W_ret, W_if, W_not, W_test, W_andV, W_notV, W_orV, W_andT, W_orT, W_bin, W_cons, W_nm, W_fn, W_fnK0, W_met, W_fld, W_pure, W_bind, W_isB, W_isLT, W_isH, W_add, W_sub, W_neg, W_ord, W_int, W_min, W_max, W_cat, W_part, W_sli, W_cutL, W_listL, W_listT, W_sumL, W_allL, W_itm, W_rng1, W_rng2, W_enu, W_zip', W_for, W_lc, W_app, W_sas, W_aug, W_par, W_lenL, W_lenT, W_lenS, W_iadd, W_isub, W_isBl, W_bit, Wa_newL, Wa_newT, Wa_newC, Wa_mul, Wa_div, Wa_mod, Wa_pow, Wa_ixL, Wa_ixT, Wa_ixC, Wa_lenC, Wa_mk, W_eqL, W_eqI, W_eqB, W_fail, W_cutS, W_cutC, startD, List.map_cons, List.map_nil, List.length_cons, List.length_nil, List.length_map, List.cons_append, List.nil_append, List.getElem?_cons_zero, List.getElem?_cons_succ, List.set_cons_zero, List.set_cons_succ, Option.some.injEq, exists_eq_left', List.replicate, Nat.reduceAdd, Nat.reduceSub, Nat.reduceMul, D.bl.injEq, D.int.injEq, D.hs.injEq, D.lst.injEq, D.ow.injEq, D.tup.injEq, List.cons.injEq, and_true, true_and, reduceCtorEq, Bool.not_true, Bool.not_false, false_implies, true_implies, forall_const, imp_self, Bool.false_eq_true, if_true, if_false, ↓reduceIte, Bool.true_eq_false, ty_ii, ty_bi, ty_li, ty_ti, ty_ib, ty_bb, ty_lb, ty_tb, ty_ll, ty_tl, ty_dl, okd_int, okd_bl, okd_lst, okd_hs, kin_hs, wipeD, Tg.st, setAll, exists_and_left, exists_eq_left, exists_eq', and_assoc, exists_and_right]
  refine ⟨szl (by decide), ?_⟩
  try simp only [perm210, decide_true, decide_false, Bool.and_self, eq_self, W_loop0, WL_nil, true_or, or_true, or_false, W_seq, W_asg1, W_asgT, W_drop, W_ret, W_if, W_not, W_test, W_andV, W_notV, W_orV, W_andT, W_orT, W_bin, W_cons, W_nm, W_fn, W_fnK0, W_met, W_fld, W_pure, W_bind, W_isB, W_isLT, W_isH, W_add, W_sub, W_neg, W_ord, W_int, W_min, W_max, W_cat, W_part, W_sli, W_cutL, W_listL, W_listT, W_sumL, W_allL, W_itm, W_rng1, W_rng2, W_enu, W_zip', W_for, W_lc, W_app, W_sas, W_aug, W_par, W_lenL, W_lenT, W_lenS, W_iadd, W_isub, W_isBl, W_bit, Wa_newL, Wa_newT, Wa_newC, Wa_mul, Wa_div, Wa_mod, Wa_pow, Wa_ixL, Wa_ixT, Wa_ixC, Wa_lenC, Wa_mk, W_eqL, W_eqI, W_eqB, W_fail, W_cutS, W_cutC, startD, List.map_cons, List.map_nil, List.length_cons, List.length_nil, List.length_map, List.cons_append, List.nil_append, List.getElem?_cons_zero, List.getElem?_cons_succ, List.set_cons_zero, List.set_cons_succ, Option.some.injEq, exists_eq_left', List.replicate, Nat.reduceAdd, Nat.reduceSub, Nat.reduceMul, D.bl.injEq, D.int.injEq, D.hs.injEq, D.lst.injEq, D.ow.injEq, D.tup.injEq, List.cons.injEq, and_true, true_and, reduceCtorEq, Bool.not_true, Bool.not_false, false_implies, true_implies, forall_const, imp_self, Bool.false_eq_true, if_true, if_false, ↓reduceIte, Bool.true_eq_false, ty_ii, ty_bi, ty_li, ty_ti, ty_ib, ty_bb, ty_lb, ty_tb, ty_ll, ty_tl, ty_dl, okd_int, okd_bl, okd_lst, okd_hs, kin_hs, wipeD, Tg.st, setAll, exists_and_left, exists_eq_left, exists_eq', and_assoc, exists_and_right]
  have hx : 2 ≤ 2 + i ∧ 2 + i ≤ 100 := by omega
  generalize 2 + i = x at hx
  refine fw_set_behind b r b' r' x h h' hx (by omega) ?_
  have hs := beh_gb h h' hx (by omega)
  try simp only [decide_true, decide_false, Bool.and_self, eq_self, W_loop0, WL_nil, true_or, or_true, or_false, W_seq, W_asg1, W_asgT, W_drop, W_ret, W_if, W_not, W_test, W_andV, W_notV, W_orV, W_andT, W_orT, W_bin, W_cons, W_nm, W_fn, W_fnK0, W_met, W_fld, W_pure, W_bind, W_isB, W_isLT, W_isH, W_add, W_sub, W_neg, W_ord, W_int, W_min, W_max, W_cat, W_part, W_sli, W_cutL, W_listL, W_listT, W_sumL, W_allL, W_itm, W_rng1, W_rng2, W_enu, W_zip', W_for, W_lc, W_app, W_sas, W_aug, W_par, W_lenL, W_lenT, W_lenS, W_iadd, W_isub, W_isBl, W_bit, Wa_newL, Wa_newT, Wa_newC, Wa_mul, Wa_div, Wa_mod, Wa_pow, Wa_ixL, Wa_ixT, Wa_ixC, Wa_lenC, Wa_mk, W_eqL, W_eqI, W_eqB, W_fail, W_cutS, W_cutC, startD, List.map_cons, List.map_nil, List.length_cons, List.length_nil, List.length_map, List.cons_append, List.nil_append, List.getElem?_cons_zero, List.getElem?_cons_succ, List.set_cons_zero, List.set_cons_succ, Option.some.injEq, exists_eq_left', List.replicate, Nat.reduceAdd, Nat.reduceSub, Nat.reduceMul, D.bl.injEq, D.int.injEq, D.hs.injEq, D.lst.injEq, D.ow.injEq, D.tup.injEq, List.cons.injEq, and_true, true_and, reduceCtorEq, Bool.not_true, Bool.not_false, false_implies, true_implies, forall_const, imp_self, Bool.false_eq_true, if_true, if_false, ↓reduceIte, Bool.true_eq_false, ty_ii, ty_bi, ty_li, ty_ti, ty_ib, ty_bb, ty_lb, ty_tb, ty_ll, ty_tl, ty_dl, okd_int, okd_bl, okd_lst, okd_hs, kin_hs, wipeD, Tg.st, setAll, exists_and_left, exists_eq_left, exists_eq', and_assoc, exists_and_right]
  refine fw_told_of _ _ hs ?_
  unfold hd
  try simp only [at0, at1, decide_true, decide_false, Bool.and_self, eq_self, W_loop0, WL_nil, true_or, or_true, or_false, W_seq, W_asg1, W_asgT, W_drop, W_ret, W_if, W_not, W_test, W_andV, W_notV, W_orV, W_andT, W_orT, W_bin, W_cons, W_nm, W_fn, W_fnK0, W_met, W_fld, W_pure, W_bind, W_isB, W_isLT, W_isH, W_add, W_sub, W_neg, W_ord, W_int, W_min, W_max, W_cat, W_part, W_sli, W_cutL, W_listL, W_listT, W_sumL, W_allL, W_itm, W_rng1, W_rng2, W_enu, W_zip', W_for, W_lc, W_app, W_sas, W_aug, W_par, W_lenL, W_lenT, W_lenS, W_iadd, W_isub, W_isBl, W_bit, Wa_newL, Wa_newT, Wa_newC, Wa_mul, Wa_div, Wa_mod, Wa_pow, Wa_ixL, Wa_ixT, Wa_ixC, Wa_lenC, Wa_mk, W_eqL, W_eqI, W_eqB, W_fail, W_cutS, W_cutC, startD, List.map_cons, List.map_nil, List.length_cons, List.length_nil, List.length_map, List.cons_append, List.nil_append, List.getElem?_cons_zero, List.getElem?_cons_succ, List.set_cons_zero, List.set_cons_succ, Option.some.injEq, exists_eq_left', List.replicate, Nat.reduceAdd, Nat.reduceSub, Nat.reduceMul, D.bl.injEq, D.int.injEq, D.hs.injEq, D.lst.injEq, D.ow.injEq, D.tup.injEq, List.cons.injEq, and_true, true_and, reduceCtorEq, Bool.not_true, Bool.not_false, false_implies, true_implies, forall_const, imp_self, Bool.false_eq_true, if_true, if_false, ↓reduceIte, Bool.true_eq_false, ty_ii, ty_bi, ty_li, ty_ti, ty_ib, ty_bb, ty_lb, ty_tb, ty_ll, ty_tl, ty_dl, okd_int, okd_bl, okd_lst, okd_hs, kin_hs, wipeD, Tg.st, setAll, exists_and_left, exists_eq_left, exists_eq', and_assoc, exists_and_right]
  refine ⟨szl (by decide), szl (by simp; omega), szl (by simp; omega), szl (by simp; omega), szl (by decide), ?_⟩
  rw [show D.lst [D.lst (b.map D.int ++ [D.int x] ++ b'.map D.int), D.lst (r.map D.int ++ r'.map D.int)] = D.lst [D.lst ((b ++ [x] ++ b').map D.int), D.lst ((r ++ r').map D.int)] by simp]
  refine exact_hd hs ?_
  try simp only [W_hsEq, at0, at1, decide_true, decide_false, Bool.and_self, eq_self, W_loop0, WL_nil, true_or, or_true, or_false, W_seq, W_asg1, W_asgT, W_drop, W_ret, W_if, W_not, W_test, W_andV, W_notV, W_orV, W_andT, W_orT, W_bin, W_cons, W_nm, W_fn, W_fnK0, W_met, W_fld, W_pure, W_bind, W_isB, W_isLT, W_isH, W_add, W_sub, W_neg, W_ord, W_int, W_min, W_max, W_cat, W_part, W_sli, W_cutL, W_listL, W_listT, W_sumL, W_allL, W_itm, W_rng1, W_rng2, W_enu, W_zip', W_for, W_lc, W_app, W_sas, W_aug, W_par, W_lenL, W_lenT, W_lenS, W_iadd, W_isub, W_isBl, W_bit, Wa_newL, Wa_newT, Wa_newC, Wa_mul, Wa_div, Wa_mod, Wa_pow, Wa_ixL, Wa_ixT, Wa_ixC, Wa_lenC, Wa_mk, W_eqL, W_eqI, W_eqB, W_fail, W_cutS, W_cutC, startD, List.map_cons, List.map_nil, List.length_cons, List.length_nil, List.length_map, List.cons_append, List.nil_append, List.getElem?_cons_zero, List.getElem?_cons_succ, List.set_cons_zero, List.set_cons_succ, Option.some.injEq, exists_eq_left', List.replicate, Nat.reduceAdd, Nat.reduceSub, Nat.reduceMul, D.bl.injEq, D.int.injEq, D.hs.injEq, D.lst.injEq, D.ow.injEq, D.tup.injEq, List.cons.injEq, and_true, true_and, reduceCtorEq, Bool.not_true, Bool.not_false, false_implies, true_implies, forall_const, imp_self, Bool.false_eq_true, if_true, if_false, ↓reduceIte, Bool.true_eq_false, ty_ii, ty_bi, ty_li, ty_ti, ty_ib, ty_bb, ty_lb, ty_tb, ty_ll, ty_tl, ty_dl, okd_int, okd_bl, okd_lst, okd_hs, kin_hs, wipeD, Tg.st, setAll, exists_and_left, exists_eq_left, exists_eq', and_assoc, exists_and_right]
  have lb : (b ++ [x] ++ b').length = b.length + 1 + b'.length := by simp; omega
  have lr : (r ++ r').length = r.length + r'.length := by simp
  rw [show ((r.length : Int) - 1) = ((b.length : Nat) : Int) by omega]
  refine fw_stretch _ _ hs 0 b.length (by omega) (by omega) ?_
  rw [cut_one, cut_r1 (by omega)]
  try simp only [W_hsEq, at0, at1, and_self, decide_true, decide_false, Bool.and_self, eq_self, W_loop0, WL_nil, true_or, or_true, or_false, W_seq, W_asg1, W_asgT, W_drop, W_ret, W_if, W_not, W_test, W_andV, W_notV, W_orV, W_andT, W_orT, W_bin, W_cons, W_nm, W_fn, W_fnK0, W_met, W_fld, W_pure, W_bind, W_isB, W_isLT, W_isH, W_add, W_sub, W_neg, W_ord, W_int, W_min, W_max, W_cat, W_part, W_sli, W_cutL, W_listL, W_listT, W_sumL, W_allL, W_itm, W_rng1, W_rng2, W_enu, W_zip', W_for, W_lc, W_app, W_sas, W_aug, W_par, W_lenL, W_lenT, W_lenS, W_iadd, W_isub, W_isBl, W_bit, Wa_newL, Wa_newT, Wa_newC, Wa_mul, Wa_div, Wa_mod, Wa_pow, Wa_ixL, Wa_ixT, Wa_ixC, Wa_lenC, Wa_mk, W_eqL, W_eqI, W_eqB, W_fail, W_cutS, W_cutC, startD, List.map_cons, List.map_nil, List.length_cons, List.length_nil, List.length_map, List.cons_append, List.nil_append, List.getElem?_cons_zero, List.getElem?_cons_succ, List.set_cons_zero, List.set_cons_succ, Option.some.injEq, exists_eq_left', List.replicate, Nat.reduceAdd, Nat.reduceSub, Nat.reduceMul, D.bl.injEq, D.int.injEq, D.hs.injEq, D.lst.injEq, D.ow.injEq, D.tup.injEq, List.cons.injEq, and_true, true_and, reduceCtorEq, Bool.not_true, Bool.not_false, false_implies, true_implies, forall_const, imp_self, Bool.false_eq_true, if_true, if_false, ↓reduceIte, Bool.true_eq_false, ty_ii, ty_bi, ty_li, ty_ti, ty_ib, ty_bb, ty_lb, ty_tb, ty_ll, ty_tl, ty_dl, okd_int, okd_bl, okd_lst, okd_hs, kin_hs, wipeD, Tg.st, setAll, exists_and_left, exists_eq_left, exists_eq', and_assoc, exists_and_right]
  rw [show ((r.length : Int) + r'.length - 1) = ((b.length + 1 + b'.length : Nat) : Int) by omega, show ((r.length : Int)) = ((b.length + 1 : Nat) : Int) by omega]
  refine fw_stretch _ _ hs (b.length + 1) (b.length + 1 + b'.length) (by omega) (by omega) ?_
  rw [cut_two rfl, cut_r2 (by omega) (by omega)]
  try simp only [W_hsEq, at0, at1, and_self, decide_true, decide_false, Bool.and_self, eq_self, W_loop0, WL_nil, true_or, or_true, or_false, W_seq, W_asg1, W_asgT, W_drop, W_ret, W_if, W_not, W_test, W_andV, W_notV, W_orV, W_andT, W_orT, W_bin, W_cons, W_nm, W_fn, W_fnK0, W_met, W_fld, W_pure, W_bind, W_isB, W_isLT, W_isH, W_add, W_sub, W_neg, W_ord, W_int, W_min, W_max, W_cat, W_part, W_sli, W_cutL, W_listL, W_listT, W_sumL, W_allL, W_itm, W_rng1, W_rng2, W_enu, W_zip', W_for, W_lc, W_app, W_sas, W_aug, W_par, W_lenL, W_lenT, W_lenS, W_iadd, W_isub, W_isBl, W_bit, Wa_newL, Wa_newT, Wa_newC, Wa_mul, Wa_div, Wa_mod, Wa_pow, Wa_ixL, Wa_ixT, Wa_ixC, Wa_lenC, Wa_mk, W_eqL, W_eqI, W_eqB, W_fail, W_cutS, W_cutC, startD, List.map_cons, List.map_nil, List.length_cons, List.length_nil, List.length_map, List.cons_append, List.nil_append, List.getElem?_cons_zero, List.getElem?_cons_succ, List.set_cons_zero, List.set_cons_succ, Option.some.injEq, exists_eq_left', List.replicate, Nat.reduceAdd, Nat.reduceSub, Nat.reduceMul, D.bl.injEq, D.int.injEq, D.hs.injEq, D.lst.injEq, D.ow.injEq, D.tup.injEq, List.cons.injEq, and_true, true_and, reduceCtorEq, Bool.not_true, Bool.not_false, false_implies, true_implies, forall_const, imp_self, Bool.false_eq_true, if_true, if_false, ↓reduceIte, Bool.true_eq_false, ty_ii, ty_bi, ty_li, ty_ti, ty_ib, ty_bb, ty_lb, ty_tb, ty_ll, ty_tl, ty_dl, okd_int, okd_bl, okd_lst, okd_hs, kin_hs, wipeD, Tg.st, setAll, exists_and_left, exists_eq_left, exists_eq', and_assoc, exists_and_right]
  refine fw_lweights b r h ?_
  try simp only [decide_true, decide_false, Bool.and_self, eq_self, W_loop0, WL_nil, true_or, or_true, or_false, W_seq, W_asg1, W_asgT, W_drop, W_ret, W_if, W_not, W_test, W_andV, W_notV, W_orV, W_andT, W_orT, W_bin, W_cons, W_nm, W_fn, W_fnK0, W_met, W_fld, W_pure, W_bind, W_isB, W_isLT, W_isH, W_add, W_sub, W_neg, W_ord, W_int, W_min, W_max, W_cat, W_part, W_sli, W_cutL, W_listL, W_listT, W_sumL, W_allL, W_itm, W_rng1, W_rng2, W_enu, W_zip', W_for, W_lc, W_app, W_sas, W_aug, W_par, W_lenL, W_lenT, W_lenS, W_iadd, W_isub, W_isBl, W_bit, Wa_newL, Wa_newT, Wa_newC, Wa_mul, Wa_div, Wa_mod, Wa_pow, Wa_ixL, Wa_ixT, Wa_ixC, Wa_lenC, Wa_mk, W_eqL, W_eqI, W_eqB, W_fail, W_cutS, W_cutC, startD, List.map_cons, List.map_nil, List.length_cons, List.length_nil, List.length_map, List.cons_append, List.nil_append, List.getElem?_cons_zero, List.getElem?_cons_succ, List.set_cons_zero, List.set_cons_succ, Option.some.injEq, exists_eq_left', List.replicate, Nat.reduceAdd, Nat.reduceSub, Nat.reduceMul, D.bl.injEq, D.int.injEq, D.hs.injEq, D.lst.injEq, D.ow.injEq, D.tup.injEq, List.cons.injEq, and_true, true_and, reduceCtorEq, Bool.not_true, Bool.not_false, false_implies, true_implies, forall_const, imp_self, Bool.false_eq_true, if_true, if_false, ↓reduceIte, Bool.true_eq_false, ty_ii, ty_bi, ty_li, ty_ti, ty_ib, ty_bb, ty_lb, ty_tb, ty_ll, ty_tl, ty_dl, okd_int, okd_bl, okd_lst, okd_hs, kin_hs, wipeD, Tg.st, setAll, exists_and_left, exists_eq_left, exists_eq', and_assoc, exists_and_right]
  refine fw_lweights b' r' h' ?_
  try simp only [decide_true, decide_false, Bool.and_self, eq_self, W_loop0, WL_nil, true_or, or_true, or_false, W_seq, W_asg1, W_asgT, W_drop, W_ret, W_if, W_not, W_test, W_andV, W_notV, W_orV, W_andT, W_orT, W_bin, W_cons, W_nm, W_fn, W_fnK0, W_met, W_fld, W_pure, W_bind, W_isB, W_isLT, W_isH, W_add, W_sub, W_neg, W_ord, W_int, W_min, W_max, W_cat, W_part, W_sli, W_cutL, W_listL, W_listT, W_sumL, W_allL, W_itm, W_rng1, W_rng2, W_enu, W_zip', W_for, W_lc, W_app, W_sas, W_aug, W_par, W_lenL, W_lenT, W_lenS, W_iadd, W_isub, W_isBl, W_bit, Wa_newL, Wa_newT, Wa_newC, Wa_mul, Wa_div, Wa_mod, Wa_pow, Wa_ixL, Wa_ixT, Wa_ixC, Wa_lenC, Wa_mk, W_eqL, W_eqI, W_eqB, W_fail, W_cutS, W_cutC, startD, List.map_cons, List.map_nil, List.length_cons, List.length_nil, List.length_map, List.cons_append, List.nil_append, List.getElem?_cons_zero, List.getElem?_cons_succ, List.set_cons_zero, List.set_cons_succ, Option.some.injEq, exists_eq_left', List.replicate, Nat.reduceAdd, Nat.reduceSub, Nat.reduceMul, D.bl.injEq, D.int.injEq, D.hs.injEq, D.lst.injEq, D.ow.injEq, D.tup.injEq, List.cons.injEq, and_true, true_and, reduceCtorEq, Bool.not_true, Bool.not_false, false_implies, true_implies, forall_const, imp_self, Bool.false_eq_true, if_true, if_false, ↓reduceIte, Bool.true_eq_false, ty_ii, ty_bi, ty_li, ty_ti, ty_ib, ty_bb, ty_lb, ty_tb, ty_ll, ty_tl, ty_dl, okd_int, okd_bl, okd_lst, okd_hs, kin_hs, wipeD, Tg.st, setAll, exists_and_left, exists_eq_left, exists_eq', and_assoc, exists_and_right]
  obtain ⟨pre, hp⟩ := wts_last b 1
  have hx2 := lg (k := 7) (x := x) (by omega) (by omega)
  have hlw := h.wle (lastw 1 b) (by rw [hp]; simp)
  have hxl := lg (k := 218) (x := lastw 1 b * x) (Int.mul_nonneg hlw.1 (by omega)) (by
    calc lastw 1 b * x ≤ 2 ^ 211 * 100 := Int.mul_le_mul (Int.le_of_lt hlw.2) hx.2 (by omega) (by decide)
      _ < 2 ^ 218 := by decide)
  have hll := lg hlw.1 hlw.2
  refine WL_ints (fun w => lastw 1 b * x * w) D.int (wts 1 b') (fun w hw => ⟨_, rfl, ?_⟩) ?_
  · try simp only [decide_true, decide_false, Bool.and_self, eq_self, W_loop0, WL_nil, true_or, or_true, or_false, W_seq, W_asg1, W_asgT, W_drop, W_ret, W_if, W_not, W_test, W_andV, W_notV, W_orV, W_andT, W_orT, W_bin, W_cons, W_nm, W_fn, W_fnK0, W_met, W_fld, W_pure, W_bind, W_isB, W_isLT, W_isH, W_add, W_sub, W_neg, W_ord, W_int, W_min, W_max, W_cat, W_part, W_sli, W_cutL, W_listL, W_listT, W_sumL, W_allL, W_itm, W_rng1, W_rng2, W_enu, W_zip', W_for, W_lc, W_app, W_sas, W_aug, W_par, W_lenL, W_lenT, W_lenS, W_iadd, W_isub, W_isBl, W_bit, Wa_newL, Wa_newT, Wa_newC, Wa_mul, Wa_div, Wa_mod, Wa_pow, Wa_ixL, Wa_ixT, Wa_ixC, Wa_lenC, Wa_mk, W_eqL, W_eqI, W_eqB, W_fail, W_cutS, W_cutC, startD, List.map_cons, List.map_nil, List.length_cons, List.length_nil, List.length_map, List.cons_append, List.nil_append, List.getElem?_cons_zero, List.getElem?_cons_succ, List.set_cons_zero, List.set_cons_succ, Option.some.injEq, exists_eq_left', List.replicate, Nat.reduceAdd, Nat.reduceSub, Nat.reduceMul, D.bl.injEq, D.int.injEq, D.hs.injEq, D.lst.injEq, D.ow.injEq, D.tup.injEq, List.cons.injEq, and_true, true_and, reduceCtorEq, Bool.not_true, Bool.not_false, false_implies, true_implies, forall_const, imp_self, Bool.false_eq_true, if_true, if_false, ↓reduceIte, Bool.true_eq_false, ty_ii, ty_bi, ty_li, ty_ti, ty_ib, ty_bb, ty_lb, ty_tb, ty_ll, ty_tl, ty_dl, okd_int, okd_bl, okd_lst, okd_hs, kin_hs, wipeD, Tg.st, setAll, exists_and_left, exists_eq_left, exists_eq', and_assoc, exists_and_right]
    refine ⟨.int (lastw 1 b), by rw [hp]; exact atI_last pre _, ?_⟩
    have hw2 := h'.wle w hw
    have hw3 := lg hw2.1 hw2.2
    try simp only [decide_true, decide_false, Bool.and_self, eq_self, W_loop0, WL_nil, true_or, or_true, or_false, W_seq, W_asg1, W_asgT, W_drop, W_ret, W_if, W_not, W_test, W_andV, W_notV, W_orV, W_andT, W_orT, W_bin, W_cons, W_nm, W_fn, W_fnK0, W_met, W_fld, W_pure, W_bind, W_isB, W_isLT, W_isH, W_add, W_sub, W_neg, W_ord, W_int, W_min, W_max, W_cat, W_part, W_sli, W_cutL, W_listL, W_listT, W_sumL, W_allL, W_itm, W_rng1, W_rng2, W_enu, W_zip', W_for, W_lc, W_app, W_sas, W_aug, W_par, W_lenL, W_lenT, W_lenS, W_iadd, W_isub, W_isBl, W_bit, Wa_newL, Wa_newT, Wa_newC, Wa_mul, Wa_div, Wa_mod, Wa_pow, Wa_ixL, Wa_ixT, Wa_ixC, Wa_lenC, Wa_mk, W_eqL, W_eqI, W_eqB, W_fail, W_cutS, W_cutC, startD, List.map_cons, List.map_nil, List.length_cons, List.length_nil, List.length_map, List.cons_append, List.nil_append, List.getElem?_cons_zero, List.getElem?_cons_succ, List.set_cons_zero, List.set_cons_succ, Option.some.injEq, exists_eq_left', List.replicate, Nat.reduceAdd, Nat.reduceSub, Nat.reduceMul, D.bl.injEq, D.int.injEq, D.hs.injEq, D.lst.injEq, D.ow.injEq, D.tup.injEq, List.cons.injEq, and_true, true_and, reduceCtorEq, Bool.not_true, Bool.not_false, false_implies, true_implies, forall_const, imp_self, Bool.false_eq_true, if_true, if_false, ↓reduceIte, Bool.true_eq_false, ty_ii, ty_bi, ty_li, ty_ti, ty_ib, ty_bb, ty_lb, ty_tb, ty_ll, ty_tl, ty_dl, okd_int, okd_bl, okd_lst, okd_hs, kin_hs, wipeD, Tg.st, setAll, exists_and_left, exists_eq_left, exists_eq', and_assoc, exists_and_right]
    omega
  · have l1' := wts_len 1 b
    have l2' := wts_len 1 b'
    try simp only [decide_true, decide_false, Bool.and_self, eq_self, W_loop0, WL_nil, true_or, or_true, or_false, W_seq, W_asg1, W_asgT, W_drop, W_ret, W_if, W_not, W_test, W_andV, W_notV, W_orV, W_andT, W_orT, W_bin, W_cons, W_nm, W_fn, W_fnK0, W_met, W_fld, W_pure, W_bind, W_isB, W_isLT, W_isH, W_add, W_sub, W_neg, W_ord, W_int, W_min, W_max, W_cat, W_part, W_sli, W_cutL, W_listL, W_listT, W_sumL, W_allL, W_itm, W_rng1, W_rng2, W_enu, W_zip', W_for, W_lc, W_app, W_sas, W_aug, W_par, W_lenL, W_lenT, W_lenS, W_iadd, W_isub, W_isBl, W_bit, Wa_newL, Wa_newT, Wa_newC, Wa_mul, Wa_div, Wa_mod, Wa_pow, Wa_ixL, Wa_ixT, Wa_ixC, Wa_lenC, Wa_mk, W_eqL, W_eqI, W_eqB, W_fail, W_cutS, W_cutC, startD, List.map_cons, List.map_nil, List.length_cons, List.length_nil, List.length_map, List.cons_append, List.nil_append, List.getElem?_cons_zero, List.getElem?_cons_succ, List.set_cons_zero, List.set_cons_succ, Option.some.injEq, exists_eq_left', List.replicate, Nat.reduceAdd, Nat.reduceSub, Nat.reduceMul, D.bl.injEq, D.int.injEq, D.hs.injEq, D.lst.injEq, D.ow.injEq, D.tup.injEq, List.cons.injEq, and_true, true_and, reduceCtorEq, Bool.not_true, Bool.not_false, false_implies, true_implies, forall_const, imp_self, Bool.false_eq_true, if_true, if_false, ↓reduceIte, Bool.true_eq_false, ty_ii, ty_bi, ty_li, ty_ti, ty_ib, ty_bb, ty_lb, ty_tb, ty_ll, ty_tl, ty_dl, okd_int, okd_bl, okd_lst, okd_hs, kin_hs, wipeD, Tg.st, setAll, exists_and_left, exists_eq_left, exists_eq', and_assoc, exists_and_right]
    refine ⟨szl (by omega), szl (by simp; omega), ?_⟩
    refine fw_weights _ _ hs ?_
    rw [← List.map_append, ← wts_beh]
    refine fw_exact 9 _ _ _ (okX_ints _ (by rw [wts_len]; have := hs.1; omega)) ?_
    try simp only [decide_true, decide_false, Bool.and_self, eq_self, W_loop0, WL_nil, true_or, or_true, or_false, W_seq, W_asg1, W_asgT, W_drop, W_ret, W_if, W_not, W_test, W_andV, W_notV, W_orV, W_andT, W_orT, W_bin, W_cons, W_nm, W_fn, W_fnK0, W_met, W_fld, W_pure, W_bind, W_isB, W_isLT, W_isH, W_add, W_sub, W_neg, W_ord, W_int, W_min, W_max, W_cat, W_part, W_sli, W_cutL, W_listL, W_listT, W_sumL, W_allL, W_itm, W_rng1, W_rng2, W_enu, W_zip', W_for, W_lc, W_app, W_sas, W_aug, W_par, W_lenL, W_lenT, W_lenS, W_iadd, W_isub, W_isBl, W_bit, Wa_newL, Wa_newT, Wa_newC, Wa_mul, Wa_div, Wa_mod, Wa_pow, Wa_ixL, Wa_ixT, Wa_ixC, Wa_lenC, Wa_mk, W_eqL, W_eqI, W_eqB, W_fail, W_cutS, W_cutC, startD, List.map_cons, List.map_nil, List.length_cons, List.length_nil, List.length_map, List.cons_append, List.nil_append, List.getElem?_cons_zero, List.getElem?_cons_succ, List.set_cons_zero, List.set_cons_succ, Option.some.injEq, exists_eq_left', List.replicate, Nat.reduceAdd, Nat.reduceSub, Nat.reduceMul, D.bl.injEq, D.int.injEq, D.hs.injEq, D.lst.injEq, D.ow.injEq, D.tup.injEq, List.cons.injEq, and_true, true_and, reduceCtorEq, Bool.not_true, Bool.not_false, false_implies, true_implies, forall_const, imp_self, Bool.false_eq_true, if_true, if_false, ↓reduceIte, Bool.true_eq_false, ty_ii, ty_bi, ty_li, ty_ti, ty_ib, ty_bb, ty_lb, ty_tb, ty_ll, ty_tl, ty_dl, okd_int, okd_bl, okd_lst, okd_hs, kin_hs, wipeD, Tg.st, setAll, exists_and_left, exists_eq_left, exists_eq', and_assoc, exists_and_right]
    refine fw_told_of _ _ h ?_
    refine fw_told_of _ _ h' ?_
    try simp only [decide_true, decide_false, Bool.and_self, eq_self, W_loop0, WL_nil, true_or, or_true, or_false, W_seq, W_asg1, W_asgT, W_drop, W_ret, W_if, W_not, W_test, W_andV, W_notV, W_orV, W_andT, W_orT, W_bin, W_cons, W_nm, W_fn, W_fnK0, W_met, W_fld, W_pure, W_bind, W_isB, W_isLT, W_isH, W_add, W_sub, W_neg, W_ord, W_int, W_min, W_max, W_cat, W_part, W_sli, W_cutL, W_listL, W_listT, W_sumL, W_allL, W_itm, W_rng1, W_rng2, W_enu, W_zip', W_for, W_lc, W_app, W_sas, W_aug, W_par, W_lenL, W_lenT, W_lenS, W_iadd, W_isub, W_isBl, W_bit, Wa_newL, Wa_newT, Wa_newC, Wa_mul, Wa_div, Wa_mod, Wa_pow, Wa_ixL, Wa_ixT, Wa_ixC, Wa_lenC, Wa_mk, W_eqL, W_eqI, W_eqB, W_fail, W_cutS, W_cutC, startD, List.map_cons, List.map_nil, List.length_cons, List.length_nil, List.length_map, List.cons_append, List.nil_append, List.getElem?_cons_zero, List.getElem?_cons_succ, List.set_cons_zero, List.set_cons_succ, Option.some.injEq, exists_eq_left', List.replicate, Nat.reduceAdd, Nat.reduceSub, Nat.reduceMul, D.bl.injEq, D.int.injEq, D.hs.injEq, D.lst.injEq, D.ow.injEq, D.tup.injEq, List.cons.injEq, and_true, true_and, reduceCtorEq, Bool.not_true, Bool.not_false, false_implies, true_implies, forall_const, imp_self, Bool.false_eq_true, if_true, if_false, ↓reduceIte, Bool.true_eq_false, ty_ii, ty_bi, ty_li, ty_ti, ty_ib, ty_bb, ty_lb, ty_tb, ty_ll, ty_tl, ty_dl, okd_int, okd_bl, okd_lst, okd_hs, kin_hs, wipeD, Tg.st, setAll, exists_and_left, exists_eq_left, exists_eq', and_assoc, exists_and_right]
    refine ⟨szl (by decide), szl (by decide), ?_⟩
    refine fw_exact 9 _ _ _ ⟨by simp, fun d hd' => ?_⟩ ?_
    · simp at hd'
      rcases hd' with rfl | rfl
      · exact okX_hd (n := 5) h
      · exact okX_hd (n := 5) h'
    · exact end_set0 rfl (q l1 hl1)
end
end K4

/-! K4ZA: two houses of the same bases. -/
namespace K4
open PySem PySem.Spec PyProof.Rows L2 CD
section
variable {c : Cells} {Q : D → Cells → Prop}
def IQ (c : Cells) (k t n : Nat) (rest done : List D) (c' : Cells) : Prop := ∃ (l ns ms : List Int), c' = c.set k (pz l) ∧ Pl l (t + 2 * ns.length) ∧ done = ns.map D.int ∧ rest = ms.map D.int ∧ (∀ x ∈ ns, 0 ≤ x ∧ x ≤ 61) ∧ (∀ x ∈ ms, 0 ≤ x ∧ x ≤ 60) ∧ ns.length + ms.length = n
theorem leAll_refl (r : List Int) : leAll r r = true := by
  unfold leAll
  rw [List.all_eq_true]
  intro x hx
  obtain ⟨i, hi, rfl⟩ := List.mem_iff_getElem.mp hx
  simp
theorem leAll_mn (r s : List Int) : leAll (List.zipWith mn r s) r = true := by
  unfold leAll
  rw [List.all_eq_true]
  intro x hx
  obtain ⟨i, hi, rfl⟩ := List.mem_iff_getElem.mp hx
  simp only [List.getElem_zipWith, id, mn, decide_eq_true_eq]
  split <;> omega
theorem leAll_mx (r s : List Int) : leAll s (List.zipWith mx r s) = true := by
  unfold leAll
  rw [List.all_eq_true]
  intro x hx
  obtain ⟨i, hi, rfl⟩ := List.mem_iff_getElem.mp hx
  simp only [List.getElem_zipWith, id, mx, decide_eq_true_eq]
  split <;> omega
theorem mn_comm (r s : List Int) : List.zipWith mn s r = List.zipWith mn r s := by
  rw [List.zipWith_comm]
  congr 1
  funext a b
  unfold mn
  split <;> split <;> omega
theorem mn_eq : (fun i j : Int => if j < i then j else i) = mn := rfl
def IS (c : Cells) (k t : Nat) (b r : List Int) (i : Nat) (e : En) : Prop := ∃ (l : List Int) (x3 x4 x5 x6 x7 x8 x9 : Option D), e = ⟨[some (.ow k), some (.lst [.lst (b.map D.int), .lst (r.map D.int)]), some (.hs b r), x3, x4, x5, x6, x7, x8, x9, none, none, none, none, none, none, none], c.set k (pz l)⟩ ∧ Pl l (t + 20 * i)
theorem fw_two (k : Nat) (l : List Int) (t : Nat) (hc : c[k]? = some (pz l)) (hl : Pl l t) (ht : t + 200 < 2 ^ 19) (n : Nat) (hn : 1 ≤ n) (hn' : n ≤ 8) (b r : List Int) (hg : gh b r n) (q : ∀ l', Pl l' (t + 80) → Q (.bl true) (c.set k (pz l'))) : FW F__law_two_right [.ow k, hd b r] c Q := by
  have hk : k < c.length := (List.getElem?_eq_some_iff.mp hc).1
  have h : gb b r := hg.gb (by omega)
  have hb := hg.1
  have hr := hg.2.1
  refine FW_runBx rfl ?_
  unfold b__law_two_right
  try simp only [decide_true, decide_false, Bool.and_self, eq_self, W_loop0, WL_nil, true_or, or_true, or_false, W_seq, W_asg1, W_asgT, W_drop, W_ret, W_if, W_not, W_test, W_andV, W_notV, W_orV, W_andT, W_orT, W_bin, W_cons, W_nm, W_fn, W_fnK0, W_met, W_fld, W_pure, W_bind, W_isB, W_isLT, W_isH, W_add, W_sub, W_neg, W_ord, W_int, W_min, W_max, W_cat, W_part, W_sli, W_cutL, W_listL, W_listT, W_sumL, W_allL, W_itm, W_rng1, W_rng2, W_enu, W_zip', W_for, W_lc, W_app, W_sas, W_aug, W_par, W_lenL, W_lenT, W_lenS, W_iadd, W_isub, W_isBl, W_bit, Wa_newL, Wa_newT, Wa_newC, Wa_mul, Wa_div, Wa_mod, Wa_pow, Wa_ixL, Wa_ixT, Wa_ixC, Wa_lenC, Wa_mk, W_eqL, W_eqI, W_eqB, W_fail, W_cutS, W_cutC, startD, List.map_cons, List.map_nil, List.length_cons, List.length_nil, List.length_map, List.cons_append, List.nil_append, List.getElem?_cons_zero, List.getElem?_cons_succ, List.set_cons_zero, List.set_cons_succ, Option.some.injEq, exists_eq_left', List.replicate, Nat.reduceAdd, Nat.reduceSub, Nat.reduceMul, D.bl.injEq, D.int.injEq, D.hs.injEq, D.lst.injEq, D.ow.injEq, D.tup.injEq, List.cons.injEq, and_true, true_and, reduceCtorEq, Bool.not_true, Bool.not_false, false_implies, true_implies, forall_const, imp_self, Bool.false_eq_true, if_true, if_false, ↓reduceIte, Bool.true_eq_false, ty_ii, ty_bi, ty_li, ty_ti, ty_ib, ty_bb, ty_lb, ty_tb, ty_ll, ty_tl, ty_dl, okd_int, okd_bl, okd_lst, okd_hs, kin_hs, wipeD, Tg.st, setAll, exists_and_left, exists_eq_left, exists_eq', and_assoc, exists_and_right]
  refine fw_made b r h ?_
  try simp only [decide_true, decide_false, Bool.and_self, eq_self, W_loop0, WL_nil, true_or, or_true, or_false, W_seq, W_asg1, W_asgT, W_drop, W_ret, W_if, W_not, W_test, W_andV, W_notV, W_orV, W_andT, W_orT, W_bin, W_cons, W_nm, W_fn, W_fnK0, W_met, W_fld, W_pure, W_bind, W_isB, W_isLT, W_isH, W_add, W_sub, W_neg, W_ord, W_int, W_min, W_max, W_cat, W_part, W_sli, W_cutL, W_listL, W_listT, W_sumL, W_allL, W_itm, W_rng1, W_rng2, W_enu, W_zip', W_for, W_lc, W_app, W_sas, W_aug, W_par, W_lenL, W_lenT, W_lenS, W_iadd, W_isub, W_isBl, W_bit, Wa_newL, Wa_newT, Wa_newC, Wa_mul, Wa_div, Wa_mod, Wa_pow, Wa_ixL, Wa_ixT, Wa_ixC, Wa_lenC, Wa_mk, W_eqL, W_eqI, W_eqB, W_fail, W_cutS, W_cutC, startD, List.map_cons, List.map_nil, List.length_cons, List.length_nil, List.length_map, List.cons_append, List.nil_append, List.getElem?_cons_zero, List.getElem?_cons_succ, List.set_cons_zero, List.set_cons_succ, Option.some.injEq, exists_eq_left', List.replicate, Nat.reduceAdd, Nat.reduceSub, Nat.reduceMul, D.bl.injEq, D.int.injEq, D.hs.injEq, D.lst.injEq, D.ow.injEq, D.tup.injEq, List.cons.injEq, and_true, true_and, reduceCtorEq, Bool.not_true, Bool.not_false, false_implies, true_implies, forall_const, imp_self, Bool.false_eq_true, if_true, if_false, ↓reduceIte, Bool.true_eq_false, ty_ii, ty_bi, ty_li, ty_ti, ty_ib, ty_bb, ty_lb, ty_tb, ty_ll, ty_tl, ty_dl, okd_int, okd_bl, okd_lst, okd_hs, kin_hs, wipeD, Tg.st, setAll, exists_and_left, exists_eq_left, exists_eq', and_assoc, exists_and_right]
  refine ⟨by omega, by decide, ?_⟩
  unfold hd
  rw [show ((4 : Int)).toNat = 4 from rfl]
  refine W_seqloop _ (IS c k t b r) _ (fun i d e hi hJ => ?_) ⟨l, none, none, none, none, none, none, none, by rw [set_same hc], hl⟩ (fun e hJ => ?_)
  · obtain ⟨hin, rfl⟩ := rng_get hi
    obtain ⟨l1, x3, x4, x5, x6, x7, x8, x9, rfl, g1⟩ := hJ
    refine ⟨_, rfl, ?_⟩
    try simp only [at0, at1, decide_true, decide_false, Bool.and_self, eq_self, W_loop0, WL_nil, true_or, or_true, or_false, W_seq, W_asg1, W_asgT, W_drop, W_ret, W_if, W_not, W_test, W_andV, W_notV, W_orV, W_andT, W_orT, W_bin, W_cons, W_nm, W_fn, W_fnK0, W_met, W_fld, W_pure, W_bind, W_isB, W_isLT, W_isH, W_add, W_sub, W_neg, W_ord, W_int, W_min, W_max, W_cat, W_part, W_sli, W_cutL, W_listL, W_listT, W_sumL, W_allL, W_itm, W_rng1, W_rng2, W_enu, W_zip', W_for, W_lc, W_app, W_sas, W_aug, W_par, W_lenL, W_lenT, W_lenS, W_iadd, W_isub, W_isBl, W_bit, Wa_newL, Wa_newT, Wa_newC, Wa_mul, Wa_div, Wa_mod, Wa_pow, Wa_ixL, Wa_ixT, Wa_ixC, Wa_lenC, Wa_mk, W_eqL, W_eqI, W_eqB, W_fail, W_cutS, W_cutC, startD, List.map_cons, List.map_nil, List.length_cons, List.length_nil, List.length_map, List.cons_append, List.nil_append, List.getElem?_cons_zero, List.getElem?_cons_succ, List.set_cons_zero, List.set_cons_succ, Option.some.injEq, exists_eq_left', List.replicate, Nat.reduceAdd, Nat.reduceSub, Nat.reduceMul, D.bl.injEq, D.int.injEq, D.hs.injEq, D.lst.injEq, D.ow.injEq, D.tup.injEq, List.cons.injEq, and_true, true_and, reduceCtorEq, Bool.not_true, Bool.not_false, false_implies, true_implies, forall_const, imp_self, Bool.false_eq_true, if_true, if_false, ↓reduceIte, Bool.true_eq_false, ty_ii, ty_bi, ty_li, ty_ti, ty_ib, ty_bb, ty_lb, ty_tb, ty_ll, ty_tl, ty_dl, okd_int, okd_bl, okd_lst, okd_hs, kin_hs, wipeD, Tg.st, setAll, exists_and_left, exists_eq_left, exists_eq', and_assoc, exists_and_right]
    refine WL_inv (IQ c k (t + 20 * i) n) _ [] _ (fun d rest done c' hI => ?_) ⟨l1, [], r, rfl, g1, rfl, rfl, by simp, hg.2.2.2, by simpa using hr⟩ (fun ys c' hI => ?_)
    · obtain ⟨l2, ns, ms, rfl, q1, rfl, q2, q3, q4, q5⟩ := hI
      cases ms with
      | nil => cases q2
      | cons y ms =>
        rw [List.map_cons] at q2
        cases q2
        have hy := q4 y (List.mem_cons_self ..)
        simp only [List.length_cons] at q5
        refine ⟨_, rfl, ?_⟩
        try simp only [decide_true, decide_false, Bool.and_self, eq_self, W_loop0, WL_nil, true_or, or_true, or_false, W_seq, W_asg1, W_asgT, W_drop, W_ret, W_if, W_not, W_test, W_andV, W_notV, W_orV, W_andT, W_orT, W_bin, W_cons, W_nm, W_fn, W_fnK0, W_met, W_fld, W_pure, W_bind, W_isB, W_isLT, W_isH, W_add, W_sub, W_neg, W_ord, W_int, W_min, W_max, W_cat, W_part, W_sli, W_cutL, W_listL, W_listT, W_sumL, W_allL, W_itm, W_rng1, W_rng2, W_enu, W_zip', W_for, W_lc, W_app, W_sas, W_aug, W_par, W_lenL, W_lenT, W_lenS, W_iadd, W_isub, W_isBl, W_bit, Wa_newL, Wa_newT, Wa_newC, Wa_mul, Wa_div, Wa_mod, Wa_pow, Wa_ixL, Wa_ixT, Wa_ixC, Wa_lenC, Wa_mk, W_eqL, W_eqI, W_eqB, W_fail, W_cutS, W_cutC, startD, List.map_cons, List.map_nil, List.length_cons, List.length_nil, List.length_map, List.cons_append, List.nil_append, List.getElem?_cons_zero, List.getElem?_cons_succ, List.set_cons_zero, List.set_cons_succ, Option.some.injEq, exists_eq_left', List.replicate, Nat.reduceAdd, Nat.reduceSub, Nat.reduceMul, D.bl.injEq, D.int.injEq, D.hs.injEq, D.lst.injEq, D.ow.injEq, D.tup.injEq, List.cons.injEq, and_true, true_and, reduceCtorEq, Bool.not_true, Bool.not_false, false_implies, true_implies, forall_const, imp_self, Bool.false_eq_true, if_true, if_false, ↓reduceIte, Bool.true_eq_false, ty_ii, ty_bi, ty_li, ty_ti, ty_ib, ty_bb, ty_lb, ty_tb, ty_ll, ty_tl, ty_dl, okd_int, okd_bl, okd_lst, okd_hs, kin_hs, wipeD, Tg.st, setAll, exists_and_left, exists_eq_left, exists_eq', and_assoc, exists_and_right]
        refine fw_draw k l2 _ (get_set hk) q1 (by omega) 60 (by decide) (by decide) fun x l3 hx hx' hl3 => ?_
        rw [List.set_set]
        try simp only [decide_true, decide_false, Bool.and_self, eq_self, W_loop0, WL_nil, true_or, or_true, or_false, W_seq, W_asg1, W_asgT, W_drop, W_ret, W_if, W_not, W_test, W_andV, W_notV, W_orV, W_andT, W_orT, W_bin, W_cons, W_nm, W_fn, W_fnK0, W_met, W_fld, W_pure, W_bind, W_isB, W_isLT, W_isH, W_add, W_sub, W_neg, W_ord, W_int, W_min, W_max, W_cat, W_part, W_sli, W_cutL, W_listL, W_listT, W_sumL, W_allL, W_itm, W_rng1, W_rng2, W_enu, W_zip', W_for, W_lc, W_app, W_sas, W_aug, W_par, W_lenL, W_lenT, W_lenS, W_iadd, W_isub, W_isBl, W_bit, Wa_newL, Wa_newT, Wa_newC, Wa_mul, Wa_div, Wa_mod, Wa_pow, Wa_ixL, Wa_ixT, Wa_ixC, Wa_lenC, Wa_mk, W_eqL, W_eqI, W_eqB, W_fail, W_cutS, W_cutC, startD, List.map_cons, List.map_nil, List.length_cons, List.length_nil, List.length_map, List.cons_append, List.nil_append, List.getElem?_cons_zero, List.getElem?_cons_succ, List.set_cons_zero, List.set_cons_succ, Option.some.injEq, exists_eq_left', List.replicate, Nat.reduceAdd, Nat.reduceSub, Nat.reduceMul, D.bl.injEq, D.int.injEq, D.hs.injEq, D.lst.injEq, D.ow.injEq, D.tup.injEq, List.cons.injEq, and_true, true_and, reduceCtorEq, Bool.not_true, Bool.not_false, false_implies, true_implies, forall_const, imp_self, Bool.false_eq_true, if_true, if_false, ↓reduceIte, Bool.true_eq_false, ty_ii, ty_bi, ty_li, ty_ti, ty_ib, ty_bb, ty_lb, ty_tb, ty_ll, ty_tl, ty_dl, okd_int, okd_bl, okd_lst, okd_hs, kin_hs, wipeD, Tg.st, setAll, exists_and_left, exists_eq_left, exists_eq', and_assoc, exists_and_right]
        refine ⟨szl (by decide), ?_⟩
        refine fw_one_of k l3 _ (get_set hk) hl3 (by omega) [y, if 0 < y - 1 then y - 1 else 0, y + 1, x] (by simp) (by simp) fun z l4 hz hl4 => ?_
        rw [List.set_set]
        refine ⟨l4, ns ++ [z], ms, rfl, by simpa [Nat.mul_add, Nat.add_assoc] using hl4, by simp, rfl, fun v hv => ?_, fun v hv => q4 v (List.mem_cons_of_mem _ hv), by simp; omega⟩
        rcases List.mem_append.mp hv with hv | hv
        · exact q3 v hv
        · simp only [List.mem_singleton] at hv
          subst hv
          simp only [List.mem_cons, List.not_mem_nil, or_false] at hz
          rcases hz with rfl | rfl | rfl | rfl
          · omega
          · split <;> omega
          · omega
          · omega
    · obtain ⟨l2, ns, ms, rfl, q1, q0, q2, q3, q4, q5⟩ := hI
      simp only [List.nil_append] at q0
      subst q0
      have em : ms = [] := by cases ms with | nil => rfl | cons => cases q2
      subst em
      simp only [List.length_nil, Nat.add_zero] at q5
      try simp only [decide_true, decide_false, Bool.and_self, eq_self, W_loop0, WL_nil, true_or, or_true, or_false, W_seq, W_asg1, W_asgT, W_drop, W_ret, W_if, W_not, W_test, W_andV, W_notV, W_orV, W_andT, W_orT, W_bin, W_cons, W_nm, W_fn, W_fnK0, W_met, W_fld, W_pure, W_bind, W_isB, W_isLT, W_isH, W_add, W_sub, W_neg, W_ord, W_int, W_min, W_max, W_cat, W_part, W_sli, W_cutL, W_listL, W_listT, W_sumL, W_allL, W_itm, W_rng1, W_rng2, W_enu, W_zip', W_for, W_lc, W_app, W_sas, W_aug, W_par, W_lenL, W_lenT, W_lenS, W_iadd, W_isub, W_isBl, W_bit, Wa_newL, Wa_newT, Wa_newC, Wa_mul, Wa_div, Wa_mod, Wa_pow, Wa_ixL, Wa_ixT, Wa_ixC, Wa_lenC, Wa_mk, W_eqL, W_eqI, W_eqB, W_fail, W_cutS, W_cutC, startD, List.map_cons, List.map_nil, List.length_cons, List.length_nil, List.length_map, List.cons_append, List.nil_append, List.getElem?_cons_zero, List.getElem?_cons_succ, List.set_cons_zero, List.set_cons_succ, Option.some.injEq, exists_eq_left', List.replicate, Nat.reduceAdd, Nat.reduceSub, Nat.reduceMul, D.bl.injEq, D.int.injEq, D.hs.injEq, D.lst.injEq, D.ow.injEq, D.tup.injEq, List.cons.injEq, and_true, true_and, reduceCtorEq, Bool.not_true, Bool.not_false, false_implies, true_implies, forall_const, imp_self, Bool.false_eq_true, if_true, if_false, ↓reduceIte, Bool.true_eq_false, ty_ii, ty_bi, ty_li, ty_ti, ty_ib, ty_bb, ty_lb, ty_tb, ty_ll, ty_tl, ty_dl, okd_int, okd_bl, okd_lst, okd_hs, kin_hs, wipeD, Tg.st, setAll, exists_and_left, exists_eq_left, exists_eq', and_assoc, exists_and_right]
      refine ⟨szl (by omega), ?_⟩
      refine WL_ints (fun x => if x < 60 then x else 60) D.int ns (fun x hx => ⟨_, rfl, ?_⟩) ?_
      · try simp only [decide_true, decide_false, Bool.and_self, eq_self, W_loop0, WL_nil, true_or, or_true, or_false, W_seq, W_asg1, W_asgT, W_drop, W_ret, W_if, W_not, W_test, W_andV, W_notV, W_orV, W_andT, W_orT, W_bin, W_cons, W_nm, W_fn, W_fnK0, W_met, W_fld, W_pure, W_bind, W_isB, W_isLT, W_isH, W_add, W_sub, W_neg, W_ord, W_int, W_min, W_max, W_cat, W_part, W_sli, W_cutL, W_listL, W_listT, W_sumL, W_allL, W_itm, W_rng1, W_rng2, W_enu, W_zip', W_for, W_lc, W_app, W_sas, W_aug, W_par, W_lenL, W_lenT, W_lenS, W_iadd, W_isub, W_isBl, W_bit, Wa_newL, Wa_newT, Wa_newC, Wa_mul, Wa_div, Wa_mod, Wa_pow, Wa_ixL, Wa_ixT, Wa_ixC, Wa_lenC, Wa_mk, W_eqL, W_eqI, W_eqB, W_fail, W_cutS, W_cutC, startD, List.map_cons, List.map_nil, List.length_cons, List.length_nil, List.length_map, List.cons_append, List.nil_append, List.getElem?_cons_zero, List.getElem?_cons_succ, List.set_cons_zero, List.set_cons_succ, Option.some.injEq, exists_eq_left', List.replicate, Nat.reduceAdd, Nat.reduceSub, Nat.reduceMul, D.bl.injEq, D.int.injEq, D.hs.injEq, D.lst.injEq, D.ow.injEq, D.tup.injEq, List.cons.injEq, and_true, true_and, reduceCtorEq, Bool.not_true, Bool.not_false, false_implies, true_implies, forall_const, imp_self, Bool.false_eq_true, if_true, if_false, ↓reduceIte, Bool.true_eq_false, ty_ii, ty_bi, ty_li, ty_ti, ty_ib, ty_bb, ty_lb, ty_tb, ty_ll, ty_tl, ty_dl, okd_int, okd_bl, okd_lst, okd_hs, kin_hs, wipeD, Tg.st, setAll, exists_and_left, exists_eq_left, exists_eq', and_assoc, exists_and_right]
      generalize hrr : ns.map (fun x => if x < 60 then x else 60) = rr
      have hlr : rr.length = n := by rw [← hrr, List.length_map, q5]
      have hg2 : gh b rr n := by
        refine ⟨hb, hlr, hg.2.2.1, fun x hx => ?_⟩
        rw [← hrr] at hx
        obtain ⟨y, hy, rfl⟩ := List.mem_map.mp hx
        have := q3 y hy
        split <;> omega
      have h2 : gb b rr := hg2.gb (by omega)
      try simp only [at0, at1, decide_true, decide_false, Bool.and_self, eq_self, W_loop0, WL_nil, true_or, or_true, or_false, W_seq, W_asg1, W_asgT, W_drop, W_ret, W_if, W_not, W_test, W_andV, W_notV, W_orV, W_andT, W_orT, W_bin, W_cons, W_nm, W_fn, W_fnK0, W_met, W_fld, W_pure, W_bind, W_isB, W_isLT, W_isH, W_add, W_sub, W_neg, W_ord, W_int, W_min, W_max, W_cat, W_part, W_sli, W_cutL, W_listL, W_listT, W_sumL, W_allL, W_itm, W_rng1, W_rng2, W_enu, W_zip', W_for, W_lc, W_app, W_sas, W_aug, W_par, W_lenL, W_lenT, W_lenS, W_iadd, W_isub, W_isBl, W_bit, Wa_newL, Wa_newT, Wa_newC, Wa_mul, Wa_div, Wa_mod, Wa_pow, Wa_ixL, Wa_ixT, Wa_ixC, Wa_lenC, Wa_mk, W_eqL, W_eqI, W_eqB, W_fail, W_cutS, W_cutC, startD, List.map_cons, List.map_nil, List.length_cons, List.length_nil, List.length_map, List.cons_append, List.nil_append, List.getElem?_cons_zero, List.getElem?_cons_succ, List.set_cons_zero, List.set_cons_succ, Option.some.injEq, exists_eq_left', List.replicate, Nat.reduceAdd, Nat.reduceSub, Nat.reduceMul, D.bl.injEq, D.int.injEq, D.hs.injEq, D.lst.injEq, D.ow.injEq, D.tup.injEq, List.cons.injEq, and_true, true_and, reduceCtorEq, Bool.not_true, Bool.not_false, false_implies, true_implies, forall_const, imp_self, Bool.false_eq_true, if_true, if_false, ↓reduceIte, Bool.true_eq_false, ty_ii, ty_bi, ty_li, ty_ti, ty_ib, ty_bb, ty_lb, ty_tb, ty_ll, ty_tl, ty_dl, okd_int, okd_bl, okd_lst, okd_hs, kin_hs, wipeD, Tg.st, setAll, exists_and_left, exists_eq_left, exists_eq', and_assoc, exists_and_right]
      refine ⟨szl (by omega), szl h.bl, szl h2.rl, b, rr, F_House_ok h2, ?_⟩
      refine WL_zip (fun i j => decide (i ≤ j)) D.bl r rr (fun i j _ => ⟨_, rfl, ?_⟩) ?_
      · try simp only [decide_true, decide_false, Bool.and_self, eq_self, W_loop0, WL_nil, true_or, or_true, or_false, W_seq, W_asg1, W_asgT, W_drop, W_ret, W_if, W_not, W_test, W_andV, W_notV, W_orV, W_andT, W_orT, W_bin, W_cons, W_nm, W_fn, W_fnK0, W_met, W_fld, W_pure, W_bind, W_isB, W_isLT, W_isH, W_add, W_sub, W_neg, W_ord, W_int, W_min, W_max, W_cat, W_part, W_sli, W_cutL, W_listL, W_listT, W_sumL, W_allL, W_itm, W_rng1, W_rng2, W_enu, W_zip', W_for, W_lc, W_app, W_sas, W_aug, W_par, W_lenL, W_lenT, W_lenS, W_iadd, W_isub, W_isBl, W_bit, Wa_newL, Wa_newT, Wa_newC, Wa_mul, Wa_div, Wa_mod, Wa_pow, Wa_ixL, Wa_ixT, Wa_ixC, Wa_lenC, Wa_mk, W_eqL, W_eqI, W_eqB, W_fail, W_cutS, W_cutC, startD, List.map_cons, List.map_nil, List.length_cons, List.length_nil, List.length_map, List.cons_append, List.nil_append, List.getElem?_cons_zero, List.getElem?_cons_succ, List.set_cons_zero, List.set_cons_succ, Option.some.injEq, exists_eq_left', List.replicate, Nat.reduceAdd, Nat.reduceSub, Nat.reduceMul, D.bl.injEq, D.int.injEq, D.hs.injEq, D.lst.injEq, D.ow.injEq, D.tup.injEq, List.cons.injEq, and_true, true_and, reduceCtorEq, Bool.not_true, Bool.not_false, false_implies, true_implies, forall_const, imp_self, Bool.false_eq_true, if_true, if_false, ↓reduceIte, Bool.true_eq_false, ty_ii, ty_bi, ty_li, ty_ti, ty_ib, ty_bb, ty_lb, ty_tb, ty_ll, ty_tl, ty_dl, okd_int, okd_bl, okd_lst, okd_hs, kin_hs, wipeD, Tg.st, setAll, exists_and_left, exists_eq_left, exists_eq', and_assoc, exists_and_right]
      try simp only [decide_true, decide_false, Bool.and_self, eq_self, W_loop0, WL_nil, true_or, or_true, or_false, W_seq, W_asg1, W_asgT, W_drop, W_ret, W_if, W_not, W_test, W_andV, W_notV, W_orV, W_andT, W_orT, W_bin, W_cons, W_nm, W_fn, W_fnK0, W_met, W_fld, W_pure, W_bind, W_isB, W_isLT, W_isH, W_add, W_sub, W_neg, W_ord, W_int, W_min, W_max, W_cat, W_part, W_sli, W_cutL, W_listL, W_listT, W_sumL, W_allL, W_itm, W_rng1, W_rng2, W_enu, W_zip', W_for, W_lc, W_app, W_sas, W_aug, W_par, W_lenL, W_lenT, W_lenS, W_iadd, W_isub, W_isBl, W_bit, Wa_newL, Wa_newT, Wa_newC, Wa_mul, Wa_div, Wa_mod, Wa_pow, Wa_ixL, Wa_ixT, Wa_ixC, Wa_lenC, Wa_mk, W_eqL, W_eqI, W_eqB, W_fail, W_cutS, W_cutC, startD, List.map_cons, List.map_nil, List.length_cons, List.length_nil, List.length_map, List.cons_append, List.nil_append, List.getElem?_cons_zero, List.getElem?_cons_succ, List.set_cons_zero, List.set_cons_succ, Option.some.injEq, exists_eq_left', List.replicate, Nat.reduceAdd, Nat.reduceSub, Nat.reduceMul, D.bl.injEq, D.int.injEq, D.hs.injEq, D.lst.injEq, D.ow.injEq, D.tup.injEq, List.cons.injEq, and_true, true_and, reduceCtorEq, Bool.not_true, Bool.not_false, false_implies, true_implies, forall_const, imp_self, Bool.false_eq_true, if_true, if_false, ↓reduceIte, Bool.true_eq_false, ty_ii, ty_bi, ty_li, ty_ti, ty_ib, ty_bb, ty_lb, ty_tb, ty_ll, ty_tl, ty_dl, okd_int, okd_bl, okd_lst, okd_hs, kin_hs, wipeD, Tg.st, setAll, exists_and_left, exists_eq_left, exists_eq', and_assoc, exists_and_right]
      refine ⟨szl (by simp; omega), ?_⟩
      try simp only [at0, at1, decide_true, decide_false, Bool.and_self, eq_self, W_loop0, WL_nil, true_or, or_true, or_false, W_seq, W_asg1, W_asgT, W_drop, W_ret, W_if, W_not, W_test, W_andV, W_notV, W_orV, W_andT, W_orT, W_bin, W_cons, W_nm, W_fn, W_fnK0, W_met, W_fld, W_pure, W_bind, W_isB, W_isLT, W_isH, W_add, W_sub, W_neg, W_ord, W_int, W_min, W_max, W_cat, W_part, W_sli, W_cutL, W_listL, W_listT, W_sumL, W_allL, W_itm, W_rng1, W_rng2, W_enu, W_zip', W_for, W_lc, W_app, W_sas, W_aug, W_par, W_lenL, W_lenT, W_lenS, W_iadd, W_isub, W_isBl, W_bit, Wa_newL, Wa_newT, Wa_newC, Wa_mul, Wa_div, Wa_mod, Wa_pow, Wa_ixL, Wa_ixT, Wa_ixC, Wa_lenC, Wa_mk, W_eqL, W_eqI, W_eqB, W_fail, W_cutS, W_cutC, startD, List.map_cons, List.map_nil, List.length_cons, List.length_nil, List.length_map, List.cons_append, List.nil_append, List.getElem?_cons_zero, List.getElem?_cons_succ, List.set_cons_zero, List.set_cons_succ, Option.some.injEq, exists_eq_left', List.replicate, Nat.reduceAdd, Nat.reduceSub, Nat.reduceMul, D.bl.injEq, D.int.injEq, D.hs.injEq, D.lst.injEq, D.ow.injEq, D.tup.injEq, List.cons.injEq, and_true, true_and, reduceCtorEq, Bool.not_true, Bool.not_false, false_implies, true_implies, forall_const, imp_self, Bool.false_eq_true, if_true, if_false, ↓reduceIte, Bool.true_eq_false, ty_ii, ty_bi, ty_li, ty_ti, ty_ib, ty_bb, ty_lb, ty_tb, ty_ll, ty_tl, ty_dl, okd_int, okd_bl, okd_lst, okd_hs, kin_hs, wipeD, Tg.st, setAll, exists_and_left, exists_eq_left, exists_eq', and_assoc, exists_and_right]
      refine WL_zip (fun i j => decide (i ≤ j)) D.bl rr r (fun i j _ => ⟨_, rfl, ?_⟩) ?_
      · try simp only [decide_true, decide_false, Bool.and_self, eq_self, W_loop0, WL_nil, true_or, or_true, or_false, W_seq, W_asg1, W_asgT, W_drop, W_ret, W_if, W_not, W_test, W_andV, W_notV, W_orV, W_andT, W_orT, W_bin, W_cons, W_nm, W_fn, W_fnK0, W_met, W_fld, W_pure, W_bind, W_isB, W_isLT, W_isH, W_add, W_sub, W_neg, W_ord, W_int, W_min, W_max, W_cat, W_part, W_sli, W_cutL, W_listL, W_listT, W_sumL, W_allL, W_itm, W_rng1, W_rng2, W_enu, W_zip', W_for, W_lc, W_app, W_sas, W_aug, W_par, W_lenL, W_lenT, W_lenS, W_iadd, W_isub, W_isBl, W_bit, Wa_newL, Wa_newT, Wa_newC, Wa_mul, Wa_div, Wa_mod, Wa_pow, Wa_ixL, Wa_ixT, Wa_ixC, Wa_lenC, Wa_mk, W_eqL, W_eqI, W_eqB, W_fail, W_cutS, W_cutC, startD, List.map_cons, List.map_nil, List.length_cons, List.length_nil, List.length_map, List.cons_append, List.nil_append, List.getElem?_cons_zero, List.getElem?_cons_succ, List.set_cons_zero, List.set_cons_succ, Option.some.injEq, exists_eq_left', List.replicate, Nat.reduceAdd, Nat.reduceSub, Nat.reduceMul, D.bl.injEq, D.int.injEq, D.hs.injEq, D.lst.injEq, D.ow.injEq, D.tup.injEq, List.cons.injEq, and_true, true_and, reduceCtorEq, Bool.not_true, Bool.not_false, false_implies, true_implies, forall_const, imp_self, Bool.false_eq_true, if_true, if_false, ↓reduceIte, Bool.true_eq_false, ty_ii, ty_bi, ty_li, ty_ti, ty_ib, ty_bb, ty_lb, ty_tb, ty_ll, ty_tl, ty_dl, okd_int, okd_bl, okd_lst, okd_hs, kin_hs, wipeD, Tg.st, setAll, exists_and_left, exists_eq_left, exists_eq', and_assoc, exists_and_right]
      try simp only [decide_true, decide_false, Bool.and_self, eq_self, W_loop0, WL_nil, true_or, or_true, or_false, W_seq, W_asg1, W_asgT, W_drop, W_ret, W_if, W_not, W_test, W_andV, W_notV, W_orV, W_andT, W_orT, W_bin, W_cons, W_nm, W_fn, W_fnK0, W_met, W_fld, W_pure, W_bind, W_isB, W_isLT, W_isH, W_add, W_sub, W_neg, W_ord, W_int, W_min, W_max, W_cat, W_part, W_sli, W_cutL, W_listL, W_listT, W_sumL, W_allL, W_itm, W_rng1, W_rng2, W_enu, W_zip', W_for, W_lc, W_app, W_sas, W_aug, W_par, W_lenL, W_lenT, W_lenS, W_iadd, W_isub, W_isBl, W_bit, Wa_newL, Wa_newT, Wa_newC, Wa_mul, Wa_div, Wa_mod, Wa_pow, Wa_ixL, Wa_ixT, Wa_ixC, Wa_lenC, Wa_mk, W_eqL, W_eqI, W_eqB, W_fail, W_cutS, W_cutC, startD, List.map_cons, List.map_nil, List.length_cons, List.length_nil, List.length_map, List.cons_append, List.nil_append, List.getElem?_cons_zero, List.getElem?_cons_succ, List.set_cons_zero, List.set_cons_succ, Option.some.injEq, exists_eq_left', List.replicate, Nat.reduceAdd, Nat.reduceSub, Nat.reduceMul, D.bl.injEq, D.int.injEq, D.hs.injEq, D.lst.injEq, D.ow.injEq, D.tup.injEq, List.cons.injEq, and_true, true_and, reduceCtorEq, Bool.not_true, Bool.not_false, false_implies, true_implies, forall_const, imp_self, Bool.false_eq_true, if_true, if_false, ↓reduceIte, Bool.true_eq_false, ty_ii, ty_bi, ty_li, ty_ti, ty_ib, ty_bb, ty_lb, ty_tb, ty_ll, ty_tl, ty_dl, okd_int, okd_bl, okd_lst, okd_hs, kin_hs, wipeD, Tg.st, setAll, exists_and_left, exists_eq_left, exists_eq', and_assoc, exists_and_right]
      refine ⟨szl (by simp; omega), ?_⟩
      try simp only [perm10, decide_true, decide_false, Bool.and_self, eq_self, W_loop0, WL_nil, true_or, or_true, or_false, W_seq, W_asg1, W_asgT, W_drop, W_ret, W_if, W_not, W_test, W_andV, W_notV, W_orV, W_andT, W_orT, W_bin, W_cons, W_nm, W_fn, W_fnK0, W_met, W_fld, W_pure, W_bind, W_isB, W_isLT, W_isH, W_add, W_sub, W_neg, W_ord, W_int, W_min, W_max, W_cat, W_part, W_sli, W_cutL, W_listL, W_listT, W_sumL, W_allL, W_itm, W_rng1, W_rng2, W_enu, W_zip', W_for, W_lc, W_app, W_sas, W_aug, W_par, W_lenL, W_lenT, W_lenS, W_iadd, W_isub, W_isBl, W_bit, Wa_newL, Wa_newT, Wa_newC, Wa_mul, Wa_div, Wa_mod, Wa_pow, Wa_ixL, Wa_ixT, Wa_ixC, Wa_lenC, Wa_mk, W_eqL, W_eqI, W_eqB, W_fail, W_cutS, W_cutC, startD, List.map_cons, List.map_nil, List.length_cons, List.length_nil, List.length_map, List.cons_append, List.nil_append, List.getElem?_cons_zero, List.getElem?_cons_succ, List.set_cons_zero, List.set_cons_succ, Option.some.injEq, exists_eq_left', List.replicate, Nat.reduceAdd, Nat.reduceSub, Nat.reduceMul, D.bl.injEq, D.int.injEq, D.hs.injEq, D.lst.injEq, D.ow.injEq, D.tup.injEq, List.cons.injEq, and_true, true_and, reduceCtorEq, Bool.not_true, Bool.not_false, false_implies, true_implies, forall_const, imp_self, Bool.false_eq_true, if_true, if_false, ↓reduceIte, Bool.true_eq_false, ty_ii, ty_bi, ty_li, ty_ti, ty_ib, ty_bb, ty_lb, ty_tb, ty_ll, ty_tl, ty_dl, okd_int, okd_bl, okd_lst, okd_hs, kin_hs, wipeD, Tg.st, setAll, exists_and_left, exists_eq_left, exists_eq', and_assoc, exists_and_right]
      refine fw_is_within b r b rr h h2 ?_
      refine fw_is_within b rr b r h2 h ?_
      try simp only [decide_true, decide_false, Bool.and_self, eq_self, W_loop0, WL_nil, true_or, or_true, or_false, W_seq, W_asg1, W_asgT, W_drop, W_ret, W_if, W_not, W_test, W_andV, W_notV, W_orV, W_andT, W_orT, W_bin, W_cons, W_nm, W_fn, W_fnK0, W_met, W_fld, W_pure, W_bind, W_isB, W_isLT, W_isH, W_add, W_sub, W_neg, W_ord, W_int, W_min, W_max, W_cat, W_part, W_sli, W_cutL, W_listL, W_listT, W_sumL, W_allL, W_itm, W_rng1, W_rng2, W_enu, W_zip', W_for, W_lc, W_app, W_sas, W_aug, W_par, W_lenL, W_lenT, W_lenS, W_iadd, W_isub, W_isBl, W_bit, Wa_newL, Wa_newT, Wa_newC, Wa_mul, Wa_div, Wa_mod, Wa_pow, Wa_ixL, Wa_ixT, Wa_ixC, Wa_lenC, Wa_mk, W_eqL, W_eqI, W_eqB, W_fail, W_cutS, W_cutC, startD, List.map_cons, List.map_nil, List.length_cons, List.length_nil, List.length_map, List.cons_append, List.nil_append, List.getElem?_cons_zero, List.getElem?_cons_succ, List.set_cons_zero, List.set_cons_succ, Option.some.injEq, exists_eq_left', List.replicate, Nat.reduceAdd, Nat.reduceSub, Nat.reduceMul, D.bl.injEq, D.int.injEq, D.hs.injEq, D.lst.injEq, D.ow.injEq, D.tup.injEq, List.cons.injEq, and_true, true_and, reduceCtorEq, Bool.not_true, Bool.not_false, false_implies, true_implies, forall_const, imp_self, Bool.false_eq_true, if_true, if_false, ↓reduceIte, Bool.true_eq_false, ty_ii, ty_bi, ty_li, ty_ti, ty_ib, ty_bb, ty_lb, ty_tb, ty_ll, ty_tl, ty_dl, okd_int, okd_bl, okd_lst, okd_hs, kin_hs, wipeD, Tg.st, setAll, exists_and_left, exists_eq_left, exists_eq', and_assoc, exists_and_right]
      refine ⟨szl (by decide), szl (by decide), ?_⟩
      simp only [Bool.true_and]
      rw [show (List.zipWith (fun i j => decide (i ≤ j)) r rr).all id = leAll r rr from rfl, show (List.zipWith (fun i j => decide (i ≤ j)) rr r).all id = leAll rr r from rfl]
      refine fw_exact 9 _ _ _ ⟨by simp, fun d hd' => ?_⟩ ?_
      · simp at hd'
        rcases hd' with rfl | rfl <;> trivial
      try simp only [perm10, decide_true, decide_false, Bool.and_self, eq_self, W_loop0, WL_nil, true_or, or_true, or_false, W_seq, W_asg1, W_asgT, W_drop, W_ret, W_if, W_not, W_test, W_andV, W_notV, W_orV, W_andT, W_orT, W_bin, W_cons, W_nm, W_fn, W_fnK0, W_met, W_fld, W_pure, W_bind, W_isB, W_isLT, W_isH, W_add, W_sub, W_neg, W_ord, W_int, W_min, W_max, W_cat, W_part, W_sli, W_cutL, W_listL, W_listT, W_sumL, W_allL, W_itm, W_rng1, W_rng2, W_enu, W_zip', W_for, W_lc, W_app, W_sas, W_aug, W_par, W_lenL, W_lenT, W_lenS, W_iadd, W_isub, W_isBl, W_bit, Wa_newL, Wa_newT, Wa_newC, Wa_mul, Wa_div, Wa_mod, Wa_pow, Wa_ixL, Wa_ixT, Wa_ixC, Wa_lenC, Wa_mk, W_eqL, W_eqI, W_eqB, W_fail, W_cutS, W_cutC, startD, List.map_cons, List.map_nil, List.length_cons, List.length_nil, List.length_map, List.cons_append, List.nil_append, List.getElem?_cons_zero, List.getElem?_cons_succ, List.set_cons_zero, List.set_cons_succ, Option.some.injEq, exists_eq_left', List.replicate, Nat.reduceAdd, Nat.reduceSub, Nat.reduceMul, D.bl.injEq, D.int.injEq, D.hs.injEq, D.lst.injEq, D.ow.injEq, D.tup.injEq, List.cons.injEq, and_true, true_and, reduceCtorEq, Bool.not_true, Bool.not_false, false_implies, true_implies, forall_const, imp_self, Bool.false_eq_true, if_true, if_false, ↓reduceIte, Bool.true_eq_false, ty_ii, ty_bi, ty_li, ty_ti, ty_ib, ty_bb, ty_lb, ty_tb, ty_ll, ty_tl, ty_dl, okd_int, okd_bl, okd_lst, okd_hs, kin_hs, wipeD, Tg.st, setAll, exists_and_left, exists_eq_left, exists_eq', and_assoc, exists_and_right]
      refine fw_lesser b r rr h h2 ?_
      refine fw_greater b r rr h h2 ?_
      try simp only [decide_true, decide_false, Bool.and_self, eq_self, W_loop0, WL_nil, true_or, or_true, or_false, W_seq, W_asg1, W_asgT, W_drop, W_ret, W_if, W_not, W_test, W_andV, W_notV, W_orV, W_andT, W_orT, W_bin, W_cons, W_nm, W_fn, W_fnK0, W_met, W_fld, W_pure, W_bind, W_isB, W_isLT, W_isH, W_add, W_sub, W_neg, W_ord, W_int, W_min, W_max, W_cat, W_part, W_sli, W_cutL, W_listL, W_listT, W_sumL, W_allL, W_itm, W_rng1, W_rng2, W_enu, W_zip', W_for, W_lc, W_app, W_sas, W_aug, W_par, W_lenL, W_lenT, W_lenS, W_iadd, W_isub, W_isBl, W_bit, Wa_newL, Wa_newT, Wa_newC, Wa_mul, Wa_div, Wa_mod, Wa_pow, Wa_ixL, Wa_ixT, Wa_ixC, Wa_lenC, Wa_mk, W_eqL, W_eqI, W_eqB, W_fail, W_cutS, W_cutC, startD, List.map_cons, List.map_nil, List.length_cons, List.length_nil, List.length_map, List.cons_append, List.nil_append, List.getElem?_cons_zero, List.getElem?_cons_succ, List.set_cons_zero, List.set_cons_succ, Option.some.injEq, exists_eq_left', List.replicate, Nat.reduceAdd, Nat.reduceSub, Nat.reduceMul, D.bl.injEq, D.int.injEq, D.hs.injEq, D.lst.injEq, D.ow.injEq, D.tup.injEq, List.cons.injEq, and_true, true_and, reduceCtorEq, Bool.not_true, Bool.not_false, false_implies, true_implies, forall_const, imp_self, Bool.false_eq_true, if_true, if_false, ↓reduceIte, Bool.true_eq_false, ty_ii, ty_bi, ty_li, ty_ti, ty_ib, ty_bb, ty_lb, ty_tb, ty_ll, ty_tl, ty_dl, okd_int, okd_bl, okd_lst, okd_hs, kin_hs, wipeD, Tg.st, setAll, exists_and_left, exists_eq_left, exists_eq', and_assoc, exists_and_right]
      refine fw_lesser b rr r h2 h ?_
      try simp only [decide_true, decide_false, Bool.and_self, eq_self, W_loop0, WL_nil, true_or, or_true, or_false, W_seq, W_asg1, W_asgT, W_drop, W_ret, W_if, W_not, W_test, W_andV, W_notV, W_orV, W_andT, W_orT, W_bin, W_cons, W_nm, W_fn, W_fnK0, W_met, W_fld, W_pure, W_bind, W_isB, W_isLT, W_isH, W_add, W_sub, W_neg, W_ord, W_int, W_min, W_max, W_cat, W_part, W_sli, W_cutL, W_listL, W_listT, W_sumL, W_allL, W_itm, W_rng1, W_rng2, W_enu, W_zip', W_for, W_lc, W_app, W_sas, W_aug, W_par, W_lenL, W_lenT, W_lenS, W_iadd, W_isub, W_isBl, W_bit, Wa_newL, Wa_newT, Wa_newC, Wa_mul, Wa_div, Wa_mod, Wa_pow, Wa_ixL, Wa_ixT, Wa_ixC, Wa_lenC, Wa_mk, W_eqL, W_eqI, W_eqB, W_fail, W_cutS, W_cutC, startD, List.map_cons, List.map_nil, List.length_cons, List.length_nil, List.length_map, List.cons_append, List.nil_append, List.getElem?_cons_zero, List.getElem?_cons_succ, List.set_cons_zero, List.set_cons_succ, Option.some.injEq, exists_eq_left', List.replicate, Nat.reduceAdd, Nat.reduceSub, Nat.reduceMul, D.bl.injEq, D.int.injEq, D.hs.injEq, D.lst.injEq, D.ow.injEq, D.tup.injEq, List.cons.injEq, and_true, true_and, reduceCtorEq, Bool.not_true, Bool.not_false, false_implies, true_implies, forall_const, imp_self, Bool.false_eq_true, if_true, if_false, ↓reduceIte, Bool.true_eq_false, ty_ii, ty_bi, ty_li, ty_ti, ty_ib, ty_bb, ty_lb, ty_tb, ty_ll, ty_tl, ty_dl, okd_int, okd_bl, okd_lst, okd_hs, kin_hs, wipeD, Tg.st, setAll, exists_and_left, exists_eq_left, exists_eq', and_assoc, exists_and_right]
      refine ⟨szl (by decide), ?_⟩
      try simp only [at0, at1, decide_true, decide_false, Bool.and_self, eq_self, W_loop0, WL_nil, true_or, or_true, or_false, W_seq, W_asg1, W_asgT, W_drop, W_ret, W_if, W_not, W_test, W_andV, W_notV, W_orV, W_andT, W_orT, W_bin, W_cons, W_nm, W_fn, W_fnK0, W_met, W_fld, W_pure, W_bind, W_isB, W_isLT, W_isH, W_add, W_sub, W_neg, W_ord, W_int, W_min, W_max, W_cat, W_part, W_sli, W_cutL, W_listL, W_listT, W_sumL, W_allL, W_itm, W_rng1, W_rng2, W_enu, W_zip', W_for, W_lc, W_app, W_sas, W_aug, W_par, W_lenL, W_lenT, W_lenS, W_iadd, W_isub, W_isBl, W_bit, Wa_newL, Wa_newT, Wa_newC, Wa_mul, Wa_div, Wa_mod, Wa_pow, Wa_ixL, Wa_ixT, Wa_ixC, Wa_lenC, Wa_mk, W_eqL, W_eqI, W_eqB, W_fail, W_cutS, W_cutC, startD, List.map_cons, List.map_nil, List.length_cons, List.length_nil, List.length_map, List.cons_append, List.nil_append, List.getElem?_cons_zero, List.getElem?_cons_succ, List.set_cons_zero, List.set_cons_succ, Option.some.injEq, exists_eq_left', List.replicate, Nat.reduceAdd, Nat.reduceSub, Nat.reduceMul, D.bl.injEq, D.int.injEq, D.hs.injEq, D.lst.injEq, D.ow.injEq, D.tup.injEq, List.cons.injEq, and_true, true_and, reduceCtorEq, Bool.not_true, Bool.not_false, false_implies, true_implies, forall_const, imp_self, Bool.false_eq_true, if_true, if_false, ↓reduceIte, Bool.true_eq_false, ty_ii, ty_bi, ty_li, ty_ti, ty_ib, ty_bb, ty_lb, ty_tb, ty_ll, ty_tl, ty_dl, okd_int, okd_bl, okd_lst, okd_hs, kin_hs, wipeD, Tg.st, setAll, exists_and_left, exists_eq_left, exists_eq', and_assoc, exists_and_right]
      refine WL_zip mn D.int r rr (fun i j _ => ⟨_, rfl, ?_⟩) ?_
      · try simp only [W_min1, mn, decide_true, decide_false, Bool.and_self, eq_self, W_loop0, WL_nil, true_or, or_true, or_false, W_seq, W_asg1, W_asgT, W_drop, W_ret, W_if, W_not, W_test, W_andV, W_notV, W_orV, W_andT, W_orT, W_bin, W_cons, W_nm, W_fn, W_fnK0, W_met, W_fld, W_pure, W_bind, W_isB, W_isLT, W_isH, W_add, W_sub, W_neg, W_ord, W_int, W_min, W_max, W_cat, W_part, W_sli, W_cutL, W_listL, W_listT, W_sumL, W_allL, W_itm, W_rng1, W_rng2, W_enu, W_zip', W_for, W_lc, W_app, W_sas, W_aug, W_par, W_lenL, W_lenT, W_lenS, W_iadd, W_isub, W_isBl, W_bit, Wa_newL, Wa_newT, Wa_newC, Wa_mul, Wa_div, Wa_mod, Wa_pow, Wa_ixL, Wa_ixT, Wa_ixC, Wa_lenC, Wa_mk, W_eqL, W_eqI, W_eqB, W_fail, W_cutS, W_cutC, startD, List.map_cons, List.map_nil, List.length_cons, List.length_nil, List.length_map, List.cons_append, List.nil_append, List.getElem?_cons_zero, List.getElem?_cons_succ, List.set_cons_zero, List.set_cons_succ, Option.some.injEq, exists_eq_left', List.replicate, Nat.reduceAdd, Nat.reduceSub, Nat.reduceMul, D.bl.injEq, D.int.injEq, D.hs.injEq, D.lst.injEq, D.ow.injEq, D.tup.injEq, List.cons.injEq, and_true, true_and, reduceCtorEq, Bool.not_true, Bool.not_false, false_implies, true_implies, forall_const, imp_self, Bool.false_eq_true, if_true, if_false, ↓reduceIte, Bool.true_eq_false, ty_ii, ty_bi, ty_li, ty_ti, ty_ib, ty_bb, ty_lb, ty_tb, ty_ll, ty_tl, ty_dl, okd_int, okd_bl, okd_lst, okd_hs, kin_hs, wipeD, Tg.st, setAll, exists_and_left, exists_eq_left, exists_eq', and_assoc, exists_and_right]
      refine ⟨szl (by simp; omega), ?_⟩
      refine WL_zip mx D.int r rr (fun i j _ => ⟨_, rfl, ?_⟩) ?_
      · try simp only [W_max1, mx, decide_true, decide_false, Bool.and_self, eq_self, W_loop0, WL_nil, true_or, or_true, or_false, W_seq, W_asg1, W_asgT, W_drop, W_ret, W_if, W_not, W_test, W_andV, W_notV, W_orV, W_andT, W_orT, W_bin, W_cons, W_nm, W_fn, W_fnK0, W_met, W_fld, W_pure, W_bind, W_isB, W_isLT, W_isH, W_add, W_sub, W_neg, W_ord, W_int, W_min, W_max, W_cat, W_part, W_sli, W_cutL, W_listL, W_listT, W_sumL, W_allL, W_itm, W_rng1, W_rng2, W_enu, W_zip', W_for, W_lc, W_app, W_sas, W_aug, W_par, W_lenL, W_lenT, W_lenS, W_iadd, W_isub, W_isBl, W_bit, Wa_newL, Wa_newT, Wa_newC, Wa_mul, Wa_div, Wa_mod, Wa_pow, Wa_ixL, Wa_ixT, Wa_ixC, Wa_lenC, Wa_mk, W_eqL, W_eqI, W_eqB, W_fail, W_cutS, W_cutC, startD, List.map_cons, List.map_nil, List.length_cons, List.length_nil, List.length_map, List.cons_append, List.nil_append, List.getElem?_cons_zero, List.getElem?_cons_succ, List.set_cons_zero, List.set_cons_succ, Option.some.injEq, exists_eq_left', List.replicate, Nat.reduceAdd, Nat.reduceSub, Nat.reduceMul, D.bl.injEq, D.int.injEq, D.hs.injEq, D.lst.injEq, D.ow.injEq, D.tup.injEq, List.cons.injEq, and_true, true_and, reduceCtorEq, Bool.not_true, Bool.not_false, false_implies, true_implies, forall_const, imp_self, Bool.false_eq_true, if_true, if_false, ↓reduceIte, Bool.true_eq_false, ty_ii, ty_bi, ty_li, ty_ti, ty_ib, ty_bb, ty_lb, ty_tb, ty_ll, ty_tl, ty_dl, okd_int, okd_bl, okd_lst, okd_hs, kin_hs, wipeD, Tg.st, setAll, exists_and_left, exists_eq_left, exists_eq', and_assoc, exists_and_right]
      have gmn : gb b (List.zipWith mn r rr) := zip_gb (fun i j => by unfold mn; split <;> simp) h h2
      have gmx : gb b (List.zipWith mx r rr) := zip_gb (fun i j => by unfold mx; split <;> simp) h h2
      rw [mn_comm r rr]
      refine ⟨szl (by simp; omega), szl (by decide), ?_⟩
      refine WL_cons rfl ?_
      try simp only [decide_true, decide_false, Bool.and_self, eq_self, W_loop0, WL_nil, true_or, or_true, or_false, W_seq, W_asg1, W_asgT, W_drop, W_ret, W_if, W_not, W_test, W_andV, W_notV, W_orV, W_andT, W_orT, W_bin, W_cons, W_nm, W_fn, W_fnK0, W_met, W_fld, W_pure, W_bind, W_isB, W_isLT, W_isH, W_add, W_sub, W_neg, W_ord, W_int, W_min, W_max, W_cat, W_part, W_sli, W_cutL, W_listL, W_listT, W_sumL, W_allL, W_itm, W_rng1, W_rng2, W_enu, W_zip', W_for, W_lc, W_app, W_sas, W_aug, W_par, W_lenL, W_lenT, W_lenS, W_iadd, W_isub, W_isBl, W_bit, Wa_newL, Wa_newT, Wa_newC, Wa_mul, Wa_div, Wa_mod, Wa_pow, Wa_ixL, Wa_ixT, Wa_ixC, Wa_lenC, Wa_mk, W_eqL, W_eqI, W_eqB, W_fail, W_cutS, W_cutC, startD, List.map_cons, List.map_nil, List.length_cons, List.length_nil, List.length_map, List.cons_append, List.nil_append, List.getElem?_cons_zero, List.getElem?_cons_succ, List.set_cons_zero, List.set_cons_succ, Option.some.injEq, exists_eq_left', List.replicate, Nat.reduceAdd, Nat.reduceSub, Nat.reduceMul, D.bl.injEq, D.int.injEq, D.hs.injEq, D.lst.injEq, D.ow.injEq, D.tup.injEq, List.cons.injEq, and_true, true_and, reduceCtorEq, Bool.not_true, Bool.not_false, false_implies, true_implies, forall_const, imp_self, Bool.false_eq_true, if_true, if_false, ↓reduceIte, Bool.true_eq_false, ty_ii, ty_bi, ty_li, ty_ti, ty_ib, ty_bb, ty_lb, ty_tb, ty_ll, ty_tl, ty_dl, okd_int, okd_bl, okd_lst, okd_hs, kin_hs, wipeD, Tg.st, setAll, exists_and_left, exists_eq_left, exists_eq', and_assoc, exists_and_right]
      refine fw_told_of _ _ gmn ?_
      refine WL_cons rfl ?_
      try simp only [decide_true, decide_false, Bool.and_self, eq_self, W_loop0, WL_nil, true_or, or_true, or_false, W_seq, W_asg1, W_asgT, W_drop, W_ret, W_if, W_not, W_test, W_andV, W_notV, W_orV, W_andT, W_orT, W_bin, W_cons, W_nm, W_fn, W_fnK0, W_met, W_fld, W_pure, W_bind, W_isB, W_isLT, W_isH, W_add, W_sub, W_neg, W_ord, W_int, W_min, W_max, W_cat, W_part, W_sli, W_cutL, W_listL, W_listT, W_sumL, W_allL, W_itm, W_rng1, W_rng2, W_enu, W_zip', W_for, W_lc, W_app, W_sas, W_aug, W_par, W_lenL, W_lenT, W_lenS, W_iadd, W_isub, W_isBl, W_bit, Wa_newL, Wa_newT, Wa_newC, Wa_mul, Wa_div, Wa_mod, Wa_pow, Wa_ixL, Wa_ixT, Wa_ixC, Wa_lenC, Wa_mk, W_eqL, W_eqI, W_eqB, W_fail, W_cutS, W_cutC, startD, List.map_cons, List.map_nil, List.length_cons, List.length_nil, List.length_map, List.cons_append, List.nil_append, List.getElem?_cons_zero, List.getElem?_cons_succ, List.set_cons_zero, List.set_cons_succ, Option.some.injEq, exists_eq_left', List.replicate, Nat.reduceAdd, Nat.reduceSub, Nat.reduceMul, D.bl.injEq, D.int.injEq, D.hs.injEq, D.lst.injEq, D.ow.injEq, D.tup.injEq, List.cons.injEq, and_true, true_and, reduceCtorEq, Bool.not_true, Bool.not_false, false_implies, true_implies, forall_const, imp_self, Bool.false_eq_true, if_true, if_false, ↓reduceIte, Bool.true_eq_false, ty_ii, ty_bi, ty_li, ty_ti, ty_ib, ty_bb, ty_lb, ty_tb, ty_ll, ty_tl, ty_dl, okd_int, okd_bl, okd_lst, okd_hs, kin_hs, wipeD, Tg.st, setAll, exists_and_left, exists_eq_left, exists_eq', and_assoc, exists_and_right]
      refine fw_told_of _ _ gmx ?_
      refine WL_cons rfl ?_
      try simp only [decide_true, decide_false, Bool.and_self, eq_self, W_loop0, WL_nil, true_or, or_true, or_false, W_seq, W_asg1, W_asgT, W_drop, W_ret, W_if, W_not, W_test, W_andV, W_notV, W_orV, W_andT, W_orT, W_bin, W_cons, W_nm, W_fn, W_fnK0, W_met, W_fld, W_pure, W_bind, W_isB, W_isLT, W_isH, W_add, W_sub, W_neg, W_ord, W_int, W_min, W_max, W_cat, W_part, W_sli, W_cutL, W_listL, W_listT, W_sumL, W_allL, W_itm, W_rng1, W_rng2, W_enu, W_zip', W_for, W_lc, W_app, W_sas, W_aug, W_par, W_lenL, W_lenT, W_lenS, W_iadd, W_isub, W_isBl, W_bit, Wa_newL, Wa_newT, Wa_newC, Wa_mul, Wa_div, Wa_mod, Wa_pow, Wa_ixL, Wa_ixT, Wa_ixC, Wa_lenC, Wa_mk, W_eqL, W_eqI, W_eqB, W_fail, W_cutS, W_cutC, startD, List.map_cons, List.map_nil, List.length_cons, List.length_nil, List.length_map, List.cons_append, List.nil_append, List.getElem?_cons_zero, List.getElem?_cons_succ, List.set_cons_zero, List.set_cons_succ, Option.some.injEq, exists_eq_left', List.replicate, Nat.reduceAdd, Nat.reduceSub, Nat.reduceMul, D.bl.injEq, D.int.injEq, D.hs.injEq, D.lst.injEq, D.ow.injEq, D.tup.injEq, List.cons.injEq, and_true, true_and, reduceCtorEq, Bool.not_true, Bool.not_false, false_implies, true_implies, forall_const, imp_self, Bool.false_eq_true, if_true, if_false, ↓reduceIte, Bool.true_eq_false, ty_ii, ty_bi, ty_li, ty_ti, ty_ib, ty_bb, ty_lb, ty_tb, ty_ll, ty_tl, ty_dl, okd_int, okd_bl, okd_lst, okd_hs, kin_hs, wipeD, Tg.st, setAll, exists_and_left, exists_eq_left, exists_eq', and_assoc, exists_and_right]
      refine fw_told_of _ _ gmn ?_
      try simp only [decide_true, decide_false, Bool.and_self, eq_self, W_loop0, WL_nil, true_or, or_true, or_false, W_seq, W_asg1, W_asgT, W_drop, W_ret, W_if, W_not, W_test, W_andV, W_notV, W_orV, W_andT, W_orT, W_bin, W_cons, W_nm, W_fn, W_fnK0, W_met, W_fld, W_pure, W_bind, W_isB, W_isLT, W_isH, W_add, W_sub, W_neg, W_ord, W_int, W_min, W_max, W_cat, W_part, W_sli, W_cutL, W_listL, W_listT, W_sumL, W_allL, W_itm, W_rng1, W_rng2, W_enu, W_zip', W_for, W_lc, W_app, W_sas, W_aug, W_par, W_lenL, W_lenT, W_lenS, W_iadd, W_isub, W_isBl, W_bit, Wa_newL, Wa_newT, Wa_newC, Wa_mul, Wa_div, Wa_mod, Wa_pow, Wa_ixL, Wa_ixT, Wa_ixC, Wa_lenC, Wa_mk, W_eqL, W_eqI, W_eqB, W_fail, W_cutS, W_cutC, startD, List.map_cons, List.map_nil, List.length_cons, List.length_nil, List.length_map, List.cons_append, List.nil_append, List.getElem?_cons_zero, List.getElem?_cons_succ, List.set_cons_zero, List.set_cons_succ, Option.some.injEq, exists_eq_left', List.replicate, Nat.reduceAdd, Nat.reduceSub, Nat.reduceMul, D.bl.injEq, D.int.injEq, D.hs.injEq, D.lst.injEq, D.ow.injEq, D.tup.injEq, List.cons.injEq, and_true, true_and, reduceCtorEq, Bool.not_true, Bool.not_false, false_implies, true_implies, forall_const, imp_self, Bool.false_eq_true, if_true, if_false, ↓reduceIte, Bool.true_eq_false, ty_ii, ty_bi, ty_li, ty_ti, ty_ib, ty_bb, ty_lb, ty_tb, ty_ll, ty_tl, ty_dl, okd_int, okd_bl, okd_lst, okd_hs, kin_hs, wipeD, Tg.st, setAll, exists_and_left, exists_eq_left, exists_eq', and_assoc, exists_and_right]
      refine ⟨szl (by decide), szl (by decide), szl (by decide), szl (by decide), szl (by decide), ?_⟩
      refine fw_exact 9 _ _ _ ⟨by simp, fun d hd' => ?_⟩ ?_
      · simp at hd'
        rcases hd' with rfl | rfl | rfl
        · exact okX_hd (n := 5) gmn
        · exact okX_hd (n := 5) gmx
        · exact okX_hd (n := 5) gmn
      try simp only [decide_true, decide_false, Bool.and_self, eq_self, W_loop0, WL_nil, true_or, or_true, or_false, W_seq, W_asg1, W_asgT, W_drop, W_ret, W_if, W_not, W_test, W_andV, W_notV, W_orV, W_andT, W_orT, W_bin, W_cons, W_nm, W_fn, W_fnK0, W_met, W_fld, W_pure, W_bind, W_isB, W_isLT, W_isH, W_add, W_sub, W_neg, W_ord, W_int, W_min, W_max, W_cat, W_part, W_sli, W_cutL, W_listL, W_listT, W_sumL, W_allL, W_itm, W_rng1, W_rng2, W_enu, W_zip', W_for, W_lc, W_app, W_sas, W_aug, W_par, W_lenL, W_lenT, W_lenS, W_iadd, W_isub, W_isBl, W_bit, Wa_newL, Wa_newT, Wa_newC, Wa_mul, Wa_div, Wa_mod, Wa_pow, Wa_ixL, Wa_ixT, Wa_ixC, Wa_lenC, Wa_mk, W_eqL, W_eqI, W_eqB, W_fail, W_cutS, W_cutC, startD, List.map_cons, List.map_nil, List.length_cons, List.length_nil, List.length_map, List.cons_append, List.nil_append, List.getElem?_cons_zero, List.getElem?_cons_succ, List.set_cons_zero, List.set_cons_succ, Option.some.injEq, exists_eq_left', List.replicate, Nat.reduceAdd, Nat.reduceSub, Nat.reduceMul, D.bl.injEq, D.int.injEq, D.hs.injEq, D.lst.injEq, D.ow.injEq, D.tup.injEq, List.cons.injEq, and_true, true_and, reduceCtorEq, Bool.not_true, Bool.not_false, false_implies, true_implies, forall_const, imp_self, Bool.false_eq_true, if_true, if_false, ↓reduceIte, Bool.true_eq_false, ty_ii, ty_bi, ty_li, ty_ti, ty_ib, ty_bb, ty_lb, ty_tb, ty_ll, ty_tl, ty_dl, okd_int, okd_bl, okd_lst, okd_hs, kin_hs, wipeD, Tg.st, setAll, exists_and_left, exists_eq_left, exists_eq', and_assoc, exists_and_right]
      refine ⟨_, rfl, ?_⟩
      refine fw_is_within _ _ b r gmn h ?_
      rw [leAll_mn]
      try simp only [decide_true, decide_false, Bool.and_self, eq_self, W_loop0, WL_nil, true_or, or_true, or_false, W_seq, W_asg1, W_asgT, W_drop, W_ret, W_if, W_not, W_test, W_andV, W_notV, W_orV, W_andT, W_orT, W_bin, W_cons, W_nm, W_fn, W_fnK0, W_met, W_fld, W_pure, W_bind, W_isB, W_isLT, W_isH, W_add, W_sub, W_neg, W_ord, W_int, W_min, W_max, W_cat, W_part, W_sli, W_cutL, W_listL, W_listT, W_sumL, W_allL, W_itm, W_rng1, W_rng2, W_enu, W_zip', W_for, W_lc, W_app, W_sas, W_aug, W_par, W_lenL, W_lenT, W_lenS, W_iadd, W_isub, W_isBl, W_bit, Wa_newL, Wa_newT, Wa_newC, Wa_mul, Wa_div, Wa_mod, Wa_pow, Wa_ixL, Wa_ixT, Wa_ixC, Wa_lenC, Wa_mk, W_eqL, W_eqI, W_eqB, W_fail, W_cutS, W_cutC, startD, List.map_cons, List.map_nil, List.length_cons, List.length_nil, List.length_map, List.cons_append, List.nil_append, List.getElem?_cons_zero, List.getElem?_cons_succ, List.set_cons_zero, List.set_cons_succ, Option.some.injEq, exists_eq_left', List.replicate, Nat.reduceAdd, Nat.reduceSub, Nat.reduceMul, D.bl.injEq, D.int.injEq, D.hs.injEq, D.lst.injEq, D.ow.injEq, D.tup.injEq, List.cons.injEq, and_true, true_and, reduceCtorEq, Bool.not_true, Bool.not_false, false_implies, true_implies, forall_const, imp_self, Bool.false_eq_true, if_true, if_false, ↓reduceIte, Bool.true_eq_false, ty_ii, ty_bi, ty_li, ty_ti, ty_ib, ty_bb, ty_lb, ty_tb, ty_ll, ty_tl, ty_dl, okd_int, okd_bl, okd_lst, okd_hs, kin_hs, wipeD, Tg.st, setAll, exists_and_left, exists_eq_left, exists_eq', and_assoc, exists_and_right]
      refine ⟨_, rfl, ?_⟩
      refine fw_is_within b rr _ _ h2 gmx ?_
      rw [leAll_mx]
      try simp only [decide_true, decide_false, Bool.and_self, eq_self, W_loop0, WL_nil, true_or, or_true, or_false, W_seq, W_asg1, W_asgT, W_drop, W_ret, W_if, W_not, W_test, W_andV, W_notV, W_orV, W_andT, W_orT, W_bin, W_cons, W_nm, W_fn, W_fnK0, W_met, W_fld, W_pure, W_bind, W_isB, W_isLT, W_isH, W_add, W_sub, W_neg, W_ord, W_int, W_min, W_max, W_cat, W_part, W_sli, W_cutL, W_listL, W_listT, W_sumL, W_allL, W_itm, W_rng1, W_rng2, W_enu, W_zip', W_for, W_lc, W_app, W_sas, W_aug, W_par, W_lenL, W_lenT, W_lenS, W_iadd, W_isub, W_isBl, W_bit, Wa_newL, Wa_newT, Wa_newC, Wa_mul, Wa_div, Wa_mod, Wa_pow, Wa_ixL, Wa_ixT, Wa_ixC, Wa_lenC, Wa_mk, W_eqL, W_eqI, W_eqB, W_fail, W_cutS, W_cutC, startD, List.map_cons, List.map_nil, List.length_cons, List.length_nil, List.length_map, List.cons_append, List.nil_append, List.getElem?_cons_zero, List.getElem?_cons_succ, List.set_cons_zero, List.set_cons_succ, Option.some.injEq, exists_eq_left', List.replicate, Nat.reduceAdd, Nat.reduceSub, Nat.reduceMul, D.bl.injEq, D.int.injEq, D.hs.injEq, D.lst.injEq, D.ow.injEq, D.tup.injEq, List.cons.injEq, and_true, true_and, reduceCtorEq, Bool.not_true, Bool.not_false, false_implies, true_implies, forall_const, imp_self, Bool.false_eq_true, if_true, if_false, ↓reduceIte, Bool.true_eq_false, ty_ii, ty_bi, ty_li, ty_ti, ty_ib, ty_bb, ty_lb, ty_tb, ty_ll, ty_tl, ty_dl, okd_int, okd_bl, okd_lst, okd_hs, kin_hs, wipeD, Tg.st, setAll, exists_and_left, exists_eq_left, exists_eq', and_assoc, exists_and_right]
      refine fw_told_of _ _ h ?_
      refine exact_hd h ?_
      try simp only [decide_true, decide_false, Bool.and_self, eq_self, W_loop0, WL_nil, true_or, or_true, or_false, W_seq, W_asg1, W_asgT, W_drop, W_ret, W_if, W_not, W_test, W_andV, W_notV, W_orV, W_andT, W_orT, W_bin, W_cons, W_nm, W_fn, W_fnK0, W_met, W_fld, W_pure, W_bind, W_isB, W_isLT, W_isH, W_add, W_sub, W_neg, W_ord, W_int, W_min, W_max, W_cat, W_part, W_sli, W_cutL, W_listL, W_listT, W_sumL, W_allL, W_itm, W_rng1, W_rng2, W_enu, W_zip', W_for, W_lc, W_app, W_sas, W_aug, W_par, W_lenL, W_lenT, W_lenS, W_iadd, W_isub, W_isBl, W_bit, Wa_newL, Wa_newT, Wa_newC, Wa_mul, Wa_div, Wa_mod, Wa_pow, Wa_ixL, Wa_ixT, Wa_ixC, Wa_lenC, Wa_mk, W_eqL, W_eqI, W_eqB, W_fail, W_cutS, W_cutC, startD, List.map_cons, List.map_nil, List.length_cons, List.length_nil, List.length_map, List.cons_append, List.nil_append, List.getElem?_cons_zero, List.getElem?_cons_succ, List.set_cons_zero, List.set_cons_succ, Option.some.injEq, exists_eq_left', List.replicate, Nat.reduceAdd, Nat.reduceSub, Nat.reduceMul, D.bl.injEq, D.int.injEq, D.hs.injEq, D.lst.injEq, D.ow.injEq, D.tup.injEq, List.cons.injEq, and_true, true_and, reduceCtorEq, Bool.not_true, Bool.not_false, false_implies, true_implies, forall_const, imp_self, Bool.false_eq_true, if_true, if_false, ↓reduceIte, Bool.true_eq_false, ty_ii, ty_bi, ty_li, ty_ti, ty_ib, ty_bb, ty_lb, ty_tb, ty_ll, ty_tl, ty_dl, okd_int, okd_bl, okd_lst, okd_hs, kin_hs, wipeD, Tg.st, setAll, exists_and_left, exists_eq_left, exists_eq', and_assoc, exists_and_right]
      exact ⟨l2, _, _, _, _, _, _, _, rfl, q1.mono (by omega)⟩
  · obtain ⟨l1, x3, x4, x5, x6, x7, x8, x9, rfl, g1⟩ := hJ
    rw [rng_len] at g1
    try simp only [at0, at1, decide_true, decide_false, Bool.and_self, eq_self, W_loop0, WL_nil, true_or, or_true, or_false, W_seq, W_asg1, W_asgT, W_drop, W_ret, W_if, W_not, W_test, W_andV, W_notV, W_orV, W_andT, W_orT, W_bin, W_cons, W_nm, W_fn, W_fnK0, W_met, W_fld, W_pure, W_bind, W_isB, W_isLT, W_isH, W_add, W_sub, W_neg, W_ord, W_int, W_min, W_max, W_cat, W_part, W_sli, W_cutL, W_listL, W_listT, W_sumL, W_allL, W_itm, W_rng1, W_rng2, W_enu, W_zip', W_for, W_lc, W_app, W_sas, W_aug, W_par, W_lenL, W_lenT, W_lenS, W_iadd, W_isub, W_isBl, W_bit, Wa_newL, Wa_newT, Wa_newC, Wa_mul, Wa_div, Wa_mod, Wa_pow, Wa_ixL, Wa_ixT, Wa_ixC, Wa_lenC, Wa_mk, W_eqL, W_eqI, W_eqB, W_fail, W_cutS, W_cutC, startD, List.map_cons, List.map_nil, List.length_cons, List.length_nil, List.length_map, List.cons_append, List.nil_append, List.getElem?_cons_zero, List.getElem?_cons_succ, List.set_cons_zero, List.set_cons_succ, Option.some.injEq, exists_eq_left', List.replicate, Nat.reduceAdd, Nat.reduceSub, Nat.reduceMul, D.bl.injEq, D.int.injEq, D.hs.injEq, D.lst.injEq, D.ow.injEq, D.tup.injEq, List.cons.injEq, and_true, true_and, reduceCtorEq, Bool.not_true, Bool.not_false, false_implies, true_implies, forall_const, imp_self, Bool.false_eq_true, if_true, if_false, ↓reduceIte, Bool.true_eq_false, ty_ii, ty_bi, ty_li, ty_ti, ty_ib, ty_bb, ty_lb, ty_tb, ty_ll, ty_tl, ty_dl, okd_int, okd_bl, okd_lst, okd_hs, kin_hs, wipeD, Tg.st, setAll, exists_and_left, exists_eq_left, exists_eq', and_assoc, exists_and_right]
    refine W_seqloop _ (fun _ e => ∃ y5 y10 y11 : Option D, e = ⟨[some (.ow k), some (.lst [.lst (b.map D.int), .lst (r.map D.int)]), some (.hs b r), x3, x4, y5, x6, x7, x8, x9, y10, y11, none, none, none, none, none], c.set k (pz l1)⟩) _ (fun i d e hi hJ => ?_) ⟨x5, none, none, rfl⟩ (fun e hJ => ?_)
    · obtain ⟨y, hy, rfl⟩ := enu_get _ _ _ _ hi
      obtain ⟨y5, y10, y11, rfl⟩ := hJ
      rw [List.getElem?_map] at hy
      cases hbi : b[i]? with
      | none => rw [hbi] at hy; cases hy
      | some v =>
        rw [hbi] at hy
        cases hy
        have ib : i < b.length := (List.getElem?_eq_some_iff.mp hbi).1
        have hv := hg.2.2.1 v (List.mem_of_getElem? hbi)
        rw [Nat.zero_add]
        refine ⟨_, rfl, ?_⟩
        have hi1 : ((i : Int) + 1) = ((i + 1 : Nat) : Int) := by omega
        try simp only [at0, at1, hi1, decide_true, decide_false, Bool.and_self, eq_self, W_loop0, WL_nil, true_or, or_true, or_false, W_seq, W_asg1, W_asgT, W_drop, W_ret, W_if, W_not, W_test, W_andV, W_notV, W_orV, W_andT, W_orT, W_bin, W_cons, W_nm, W_fn, W_fnK0, W_met, W_fld, W_pure, W_bind, W_isB, W_isLT, W_isH, W_add, W_sub, W_neg, W_ord, W_int, W_min, W_max, W_cat, W_part, W_sli, W_cutL, W_listL, W_listT, W_sumL, W_allL, W_itm, W_rng1, W_rng2, W_enu, W_zip', W_for, W_lc, W_app, W_sas, W_aug, W_par, W_lenL, W_lenT, W_lenS, W_iadd, W_isub, W_isBl, W_bit, Wa_newL, Wa_newT, Wa_newC, Wa_mul, Wa_div, Wa_mod, Wa_pow, Wa_ixL, Wa_ixT, Wa_ixC, Wa_lenC, Wa_mk, W_eqL, W_eqI, W_eqB, W_fail, W_cutS, W_cutC, startD, List.map_cons, List.map_nil, List.length_cons, List.length_nil, List.length_map, List.cons_append, List.nil_append, List.getElem?_cons_zero, List.getElem?_cons_succ, List.set_cons_zero, List.set_cons_succ, Option.some.injEq, exists_eq_left', List.replicate, Nat.reduceAdd, Nat.reduceSub, Nat.reduceMul, D.bl.injEq, D.int.injEq, D.hs.injEq, D.lst.injEq, D.ow.injEq, D.tup.injEq, List.cons.injEq, and_true, true_and, reduceCtorEq, Bool.not_true, Bool.not_false, false_implies, true_implies, forall_const, imp_self, Bool.false_eq_true, if_true, if_false, ↓reduceIte, Bool.true_eq_false, ty_ii, ty_bi, ty_li, ty_ti, ty_ib, ty_bb, ty_lb, ty_tb, ty_ll, ty_tl, ty_dl, okd_int, okd_bl, okd_lst, okd_hs, kin_hs, wipeD, Tg.st, setAll, exists_and_left, exists_eq_left, exists_eq', and_assoc, exists_and_right]
        rw [cutD_to (show i ≤ b.length by omega)]
        refine ⟨szl (by simp; omega), ?_⟩
        have fin : ∀ z : Int, 2 ≤ z → z ≤ 100 → z ≠ v → ∃ b2 : List Int, gb b2 r ∧ b2 ≠ b ∧ b2 = b.set i z := fun z h1 h2 h3 => by
          refine ⟨b.set i z, ⟨by simpa using h.1, by simpa using h.2.1, fun x hx => ?_, h.2.2.2⟩, fun e => ?_, rfl⟩
          · rcases List.mem_or_eq_of_mem_set hx with hx | rfl
            · exact h.2.2.1 x hx
            · exact ⟨h1, h2⟩
          · have := congrArg (fun l => l[i]?) e
            simp only [hbi] at this
            rw [List.getElem?_set_self ib] at this
            exact h3 (Option.some.inj this)
        refine ⟨fun hlt => ?_, fun hlt => ?_⟩
        all_goals
          first
            | (have hlt' := of_decide_eq_true hlt
               obtain ⟨b2, gb2, nb2, eb2⟩ := fin (v + 1) (by omega) (by omega) (by omega))
            | (have hlt' := of_decide_eq_false hlt
               obtain ⟨b2, gb2, nb2, eb2⟩ := fin 59 (by omega) (by omega) (by omega))
          refine ⟨szl (by decide), szl (by simp; omega), ?_⟩
          try simp only [at0, at1, decide_true, decide_false, Bool.and_self, eq_self, W_loop0, WL_nil, true_or, or_true, or_false, W_seq, W_asg1, W_asgT, W_drop, W_ret, W_if, W_not, W_test, W_andV, W_notV, W_orV, W_andT, W_orT, W_bin, W_cons, W_nm, W_fn, W_fnK0, W_met, W_fld, W_pure, W_bind, W_isB, W_isLT, W_isH, W_add, W_sub, W_neg, W_ord, W_int, W_min, W_max, W_cat, W_part, W_sli, W_cutL, W_listL, W_listT, W_sumL, W_allL, W_itm, W_rng1, W_rng2, W_enu, W_zip', W_for, W_lc, W_app, W_sas, W_aug, W_par, W_lenL, W_lenT, W_lenS, W_iadd, W_isub, W_isBl, W_bit, Wa_newL, Wa_newT, Wa_newC, Wa_mul, Wa_div, Wa_mod, Wa_pow, Wa_ixL, Wa_ixT, Wa_ixC, Wa_lenC, Wa_mk, W_eqL, W_eqI, W_eqB, W_fail, W_cutS, W_cutC, startD, List.map_cons, List.map_nil, List.length_cons, List.length_nil, List.length_map, List.cons_append, List.nil_append, List.getElem?_cons_zero, List.getElem?_cons_succ, List.set_cons_zero, List.set_cons_succ, Option.some.injEq, exists_eq_left', List.replicate, Nat.reduceAdd, Nat.reduceSub, Nat.reduceMul, D.bl.injEq, D.int.injEq, D.hs.injEq, D.lst.injEq, D.ow.injEq, D.tup.injEq, List.cons.injEq, and_true, true_and, reduceCtorEq, Bool.not_true, Bool.not_false, false_implies, true_implies, forall_const, imp_self, Bool.false_eq_true, if_true, if_false, ↓reduceIte, Bool.true_eq_false, ty_ii, ty_bi, ty_li, ty_ti, ty_ib, ty_bb, ty_lb, ty_tb, ty_ll, ty_tl, ty_dl, okd_int, okd_bl, okd_lst, okd_hs, kin_hs, wipeD, Tg.st, setAll, exists_and_left, exists_eq_left, exists_eq', and_assoc, exists_and_right]
          rw [cutD_from (show i + 1 ≤ b.length by omega)]
          refine ⟨szl (by simp; omega), szl (by simp; omega), b2, r, ?_, ?_⟩
          · rw [List.append_assoc, set_cut ib, ← eb2]
            exact F_House_ok gb2
          refine fw_is_within b r b2 r h gb2 ?_
          refine fw_is_within b2 r b r gb2 h ?_
          rw [decide_eq_false (show ¬ b = b2 from fun e => nb2 e.symm), decide_eq_false nb2]
          try simp only [decide_true, decide_false, Bool.and_self, eq_self, W_loop0, WL_nil, true_or, or_true, or_false, W_seq, W_asg1, W_asgT, W_drop, W_ret, W_if, W_not, W_test, W_andV, W_notV, W_orV, W_andT, W_orT, W_bin, W_cons, W_nm, W_fn, W_fnK0, W_met, W_fld, W_pure, W_bind, W_isB, W_isLT, W_isH, W_add, W_sub, W_neg, W_ord, W_int, W_min, W_max, W_cat, W_part, W_sli, W_cutL, W_listL, W_listT, W_sumL, W_allL, W_itm, W_rng1, W_rng2, W_enu, W_zip', W_for, W_lc, W_app, W_sas, W_aug, W_par, W_lenL, W_lenT, W_lenS, W_iadd, W_isub, W_isBl, W_bit, Wa_newL, Wa_newT, Wa_newC, Wa_mul, Wa_div, Wa_mod, Wa_pow, Wa_ixL, Wa_ixT, Wa_ixC, Wa_lenC, Wa_mk, W_eqL, W_eqI, W_eqB, W_fail, W_cutS, W_cutC, startD, List.map_cons, List.map_nil, List.length_cons, List.length_nil, List.length_map, List.cons_append, List.nil_append, List.getElem?_cons_zero, List.getElem?_cons_succ, List.set_cons_zero, List.set_cons_succ, Option.some.injEq, exists_eq_left', List.replicate, Nat.reduceAdd, Nat.reduceSub, Nat.reduceMul, D.bl.injEq, D.int.injEq, D.hs.injEq, D.lst.injEq, D.ow.injEq, D.tup.injEq, List.cons.injEq, and_true, true_and, reduceCtorEq, Bool.not_true, Bool.not_false, false_implies, true_implies, forall_const, imp_self, Bool.false_eq_true, if_true, if_false, ↓reduceIte, Bool.true_eq_false, ty_ii, ty_bi, ty_li, ty_ti, ty_ib, ty_bb, ty_lb, ty_tb, ty_ll, ty_tl, ty_dl, okd_int, okd_bl, okd_lst, okd_hs, kin_hs, wipeD, Tg.st, setAll, exists_and_left, exists_eq_left, exists_eq', and_assoc, exists_and_right]
          refine ⟨szl (by decide), szl (by decide), ?_⟩
          refine fw_exact 9 _ _ _ ⟨by simp, fun d hd' => ?_⟩ ?_
          · simp at hd'
            subst hd'
            trivial
          try simp only [decide_true, decide_false, Bool.and_self, eq_self, W_loop0, WL_nil, true_or, or_true, or_false, W_seq, W_asg1, W_asgT, W_drop, W_ret, W_if, W_not, W_test, W_andV, W_notV, W_orV, W_andT, W_orT, W_bin, W_cons, W_nm, W_fn, W_fnK0, W_met, W_fld, W_pure, W_bind, W_isB, W_isLT, W_isH, W_add, W_sub, W_neg, W_ord, W_int, W_min, W_max, W_cat, W_part, W_sli, W_cutL, W_listL, W_listT, W_sumL, W_allL, W_itm, W_rng1, W_rng2, W_enu, W_zip', W_for, W_lc, W_app, W_sas, W_aug, W_par, W_lenL, W_lenT, W_lenS, W_iadd, W_isub, W_isBl, W_bit, Wa_newL, Wa_newT, Wa_newC, Wa_mul, Wa_div, Wa_mod, Wa_pow, Wa_ixL, Wa_ixT, Wa_ixC, Wa_lenC, Wa_mk, W_eqL, W_eqI, W_eqB, W_fail, W_cutS, W_cutC, startD, List.map_cons, List.map_nil, List.length_cons, List.length_nil, List.length_map, List.cons_append, List.nil_append, List.getElem?_cons_zero, List.getElem?_cons_succ, List.set_cons_zero, List.set_cons_succ, Option.some.injEq, exists_eq_left', List.replicate, Nat.reduceAdd, Nat.reduceSub, Nat.reduceMul, D.bl.injEq, D.int.injEq, D.hs.injEq, D.lst.injEq, D.ow.injEq, D.tup.injEq, List.cons.injEq, and_true, true_and, reduceCtorEq, Bool.not_true, Bool.not_false, false_implies, true_implies, forall_const, imp_self, Bool.false_eq_true, if_true, if_false, ↓reduceIte, Bool.true_eq_false, ty_ii, ty_bi, ty_li, ty_ti, ty_ib, ty_bb, ty_lb, ty_tb, ty_ll, ty_tl, ty_dl, okd_int, okd_bl, okd_lst, okd_hs, kin_hs, wipeD, Tg.st, setAll, exists_and_left, exists_eq_left, exists_eq', and_assoc, exists_and_right]
          exact ⟨_, _, _, rfl⟩
    · obtain ⟨y5, y10, y11, rfl⟩ := hJ
      have hl2 : ∀ R : D → Cells → Prop, R (.bl true) (c.set k (pz l1)) → FW F_is_within [.hs b r, .hs b r] (c.set k (pz l1)) R := fun R hR => fw_is_within b r b r h h (by rw [leAll_refl]; simpa using hR)
      try simp only [at0, at1, decide_true, decide_false, Bool.and_self, eq_self, W_loop0, WL_nil, true_or, or_true, or_false, W_seq, W_asg1, W_asgT, W_drop, W_ret, W_if, W_not, W_test, W_andV, W_notV, W_orV, W_andT, W_orT, W_bin, W_cons, W_nm, W_fn, W_fnK0, W_met, W_fld, W_pure, W_bind, W_isB, W_isLT, W_isH, W_add, W_sub, W_neg, W_ord, W_int, W_min, W_max, W_cat, W_part, W_sli, W_cutL, W_listL, W_listT, W_sumL, W_allL, W_itm, W_rng1, W_rng2, W_enu, W_zip', W_for, W_lc, W_app, W_sas, W_aug, W_par, W_lenL, W_lenT, W_lenS, W_iadd, W_isub, W_isBl, W_bit, Wa_newL, Wa_newT, Wa_newC, Wa_mul, Wa_div, Wa_mod, Wa_pow, Wa_ixL, Wa_ixT, Wa_ixC, Wa_lenC, Wa_mk, W_eqL, W_eqI, W_eqB, W_fail, W_cutS, W_cutC, startD, List.map_cons, List.map_nil, List.length_cons, List.length_nil, List.length_map, List.cons_append, List.nil_append, List.getElem?_cons_zero, List.getElem?_cons_succ, List.set_cons_zero, List.set_cons_succ, Option.some.injEq, exists_eq_left', List.replicate, Nat.reduceAdd, Nat.reduceSub, Nat.reduceMul, D.bl.injEq, D.int.injEq, D.hs.injEq, D.lst.injEq, D.ow.injEq, D.tup.injEq, List.cons.injEq, and_true, true_and, reduceCtorEq, Bool.not_true, Bool.not_false, false_implies, true_implies, forall_const, imp_self, Bool.false_eq_true, if_true, if_false, ↓reduceIte, Bool.true_eq_false, ty_ii, ty_bi, ty_li, ty_ti, ty_ib, ty_bb, ty_lb, ty_tb, ty_ll, ty_tl, ty_dl, okd_int, okd_bl, okd_lst, okd_hs, kin_hs, wipeD, Tg.st, setAll, exists_and_left, exists_eq_left, exists_eq', and_assoc, exists_and_right]
      refine ⟨fun hlt => ?_, fun hlt => ?_⟩
      · have gx : gb (b ++ [2]) (r ++ [60]) := by
          refine ⟨by simp; omega, by simp; omega, fun x hx => ?_, fun x hx => ?_⟩
          · rcases List.mem_append.mp hx with hx | hx
            · exact h.2.2.1 x hx
            · simp at hx; omega
          · rcases List.mem_append.mp hx with hx | hx
            · exact h.2.2.2 x hx
            · simp at hx; omega
        refine ⟨szl (by decide), szl (by simp; omega), szl (by decide), szl (by simp; omega), b ++ [2], r ++ [60], ?_, ?_⟩
        · rw [show b.map D.int ++ [D.int 2] = (b ++ [2]).map D.int by simp, show r.map D.int ++ [D.int 60] = (r ++ [60]).map D.int by simp]
          exact F_House_ok gx
        refine fw_is_within b r _ _ h gx ?_
        rw [decide_eq_false (show ¬ b = b ++ [2] from fun e => by have := congrArg List.length e; simp at this), Bool.false_and]
        try simp only [decide_true, decide_false, Bool.and_self, eq_self, W_loop0, WL_nil, true_or, or_true, or_false, W_seq, W_asg1, W_asgT, W_drop, W_ret, W_if, W_not, W_test, W_andV, W_notV, W_orV, W_andT, W_orT, W_bin, W_cons, W_nm, W_fn, W_fnK0, W_met, W_fld, W_pure, W_bind, W_isB, W_isLT, W_isH, W_add, W_sub, W_neg, W_ord, W_int, W_min, W_max, W_cat, W_part, W_sli, W_cutL, W_listL, W_listT, W_sumL, W_allL, W_itm, W_rng1, W_rng2, W_enu, W_zip', W_for, W_lc, W_app, W_sas, W_aug, W_par, W_lenL, W_lenT, W_lenS, W_iadd, W_isub, W_isBl, W_bit, Wa_newL, Wa_newT, Wa_newC, Wa_mul, Wa_div, Wa_mod, Wa_pow, Wa_ixL, Wa_ixT, Wa_ixC, Wa_lenC, Wa_mk, W_eqL, W_eqI, W_eqB, W_fail, W_cutS, W_cutC, startD, List.map_cons, List.map_nil, List.length_cons, List.length_nil, List.length_map, List.cons_append, List.nil_append, List.getElem?_cons_zero, List.getElem?_cons_succ, List.set_cons_zero, List.set_cons_succ, Option.some.injEq, exists_eq_left', List.replicate, Nat.reduceAdd, Nat.reduceSub, Nat.reduceMul, D.bl.injEq, D.int.injEq, D.hs.injEq, D.lst.injEq, D.ow.injEq, D.tup.injEq, List.cons.injEq, and_true, true_and, reduceCtorEq, Bool.not_true, Bool.not_false, false_implies, true_implies, forall_const, imp_self, Bool.false_eq_true, if_true, if_false, ↓reduceIte, Bool.true_eq_false, ty_ii, ty_bi, ty_li, ty_ti, ty_ib, ty_bb, ty_lb, ty_tb, ty_ll, ty_tl, ty_dl, okd_int, okd_bl, okd_lst, okd_hs, kin_hs, wipeD, Tg.st, setAll, exists_and_left, exists_eq_left, exists_eq', and_assoc, exists_and_right]
        refine hl2 _ ?_
        try simp only [decide_true, decide_false, Bool.and_self, eq_self, W_loop0, WL_nil, true_or, or_true, or_false, W_seq, W_asg1, W_asgT, W_drop, W_ret, W_if, W_not, W_test, W_andV, W_notV, W_orV, W_andT, W_orT, W_bin, W_cons, W_nm, W_fn, W_fnK0, W_met, W_fld, W_pure, W_bind, W_isB, W_isLT, W_isH, W_add, W_sub, W_neg, W_ord, W_int, W_min, W_max, W_cat, W_part, W_sli, W_cutL, W_listL, W_listT, W_sumL, W_allL, W_itm, W_rng1, W_rng2, W_enu, W_zip', W_for, W_lc, W_app, W_sas, W_aug, W_par, W_lenL, W_lenT, W_lenS, W_iadd, W_isub, W_isBl, W_bit, Wa_newL, Wa_newT, Wa_newC, Wa_mul, Wa_div, Wa_mod, Wa_pow, Wa_ixL, Wa_ixT, Wa_ixC, Wa_lenC, Wa_mk, W_eqL, W_eqI, W_eqB, W_fail, W_cutS, W_cutC, startD, List.map_cons, List.map_nil, List.length_cons, List.length_nil, List.length_map, List.cons_append, List.nil_append, List.getElem?_cons_zero, List.getElem?_cons_succ, List.set_cons_zero, List.set_cons_succ, Option.some.injEq, exists_eq_left', List.replicate, Nat.reduceAdd, Nat.reduceSub, Nat.reduceMul, D.bl.injEq, D.int.injEq, D.hs.injEq, D.lst.injEq, D.ow.injEq, D.tup.injEq, List.cons.injEq, and_true, true_and, reduceCtorEq, Bool.not_true, Bool.not_false, false_implies, true_implies, forall_const, imp_self, Bool.false_eq_true, if_true, if_false, ↓reduceIte, Bool.true_eq_false, ty_ii, ty_bi, ty_li, ty_ti, ty_ib, ty_bb, ty_lb, ty_tb, ty_ll, ty_tl, ty_dl, okd_int, okd_bl, okd_lst, okd_hs, kin_hs, wipeD, Tg.st, setAll, exists_and_left, exists_eq_left, exists_eq', and_assoc, exists_and_right]
        exact end_set0 rfl (q l1 g1)
      · refine hl2 _ ?_
        try simp only [decide_true, decide_false, Bool.and_self, eq_self, W_loop0, WL_nil, true_or, or_true, or_false, W_seq, W_asg1, W_asgT, W_drop, W_ret, W_if, W_not, W_test, W_andV, W_notV, W_orV, W_andT, W_orT, W_bin, W_cons, W_nm, W_fn, W_fnK0, W_met, W_fld, W_pure, W_bind, W_isB, W_isLT, W_isH, W_add, W_sub, W_neg, W_ord, W_int, W_min, W_max, W_cat, W_part, W_sli, W_cutL, W_listL, W_listT, W_sumL, W_allL, W_itm, W_rng1, W_rng2, W_enu, W_zip', W_for, W_lc, W_app, W_sas, W_aug, W_par, W_lenL, W_lenT, W_lenS, W_iadd, W_isub, W_isBl, W_bit, Wa_newL, Wa_newT, Wa_newC, Wa_mul, Wa_div, Wa_mod, Wa_pow, Wa_ixL, Wa_ixT, Wa_ixC, Wa_lenC, Wa_mk, W_eqL, W_eqI, W_eqB, W_fail, W_cutS, W_cutC, startD, List.map_cons, List.map_nil, List.length_cons, List.length_nil, List.length_map, List.cons_append, List.nil_append, List.getElem?_cons_zero, List.getElem?_cons_succ, List.set_cons_zero, List.set_cons_succ, Option.some.injEq, exists_eq_left', List.replicate, Nat.reduceAdd, Nat.reduceSub, Nat.reduceMul, D.bl.injEq, D.int.injEq, D.hs.injEq, D.lst.injEq, D.ow.injEq, D.tup.injEq, List.cons.injEq, and_true, true_and, reduceCtorEq, Bool.not_true, Bool.not_false, false_implies, true_implies, forall_const, imp_self, Bool.false_eq_true, if_true, if_false, ↓reduceIte, Bool.true_eq_false, ty_ii, ty_bi, ty_li, ty_ti, ty_ib, ty_bb, ty_lb, ty_tb, ty_ll, ty_tl, ty_dl, okd_int, okd_bl, okd_lst, okd_hs, kin_hs, wipeD, Tg.st, setAll, exists_and_left, exists_eq_left, exists_eq', and_assoc, exists_and_right]
        exact end_set0 rfl (q l1 g1)
end
end K4

/-! K4ZB: the law. -/
namespace K4
open PySem PySem.Spec PyProof.Rows L2 CD
section
variable {c : Cells} {Q : D → Cells → Prop}
def IU (c : Cells) (m : Nat) (rest done : List D) (c' : Cells) : Prop := ∃ (ls : List (List Int)), c' = c ++ ls.map pz ∧ (∀ l ∈ ls, Pl l 0) ∧ done = (List.range ls.length).map (fun i => D.ow (c.length + i)) ∧ rest = (rngD 0 m).drop ls.length ∧ ls.length ≤ m
theorem mapO_ows {m n : Nat} {c : Cells} (k : Nat) : ∀ j, k + j ≤ m → mapO (fz m c (n + 1)) ((List.range j).map fun i => D.ow (k + i)) = some ((List.range j).map fun i => D.ow (k + i)) := fun j hj => by
  refine mapO_self _ fun d hd => ?_
  obtain ⟨i, hi, rfl⟩ := List.mem_map.mp hd
  have := List.mem_range.mp hi
  rw [fz, if_pos (by omega)]
theorem fw_purses (ns : List Int) (hns : ns.length < 2 ^ 19) (q : ∀ (ls : List (List Int)), (∀ l ∈ ls, Pl l 0) → ls.length ≤ 2 → Q (.lst ((List.range ls.length).map fun i => D.ow (c.length + i))) (c ++ ls.map pz)) : FW F__law_purses [.scr ns, .int 2] c Q := by
  refine FW_runBx rfl ?_
  unfold b__law_purses
  try simp only [decide_true, decide_false, Bool.and_self, eq_self, W_loop0, WL_nil, true_or, or_true, or_false, W_seq, W_asg1, W_asgT, W_drop, W_ret, W_if, W_not, W_test, W_andV, W_notV, W_orV, W_andT, W_orT, W_bin, W_cons, W_nm, W_fn, W_fnK0, W_met, W_fld, W_pure, W_bind, W_isB, W_isLT, W_isH, W_add, W_sub, W_neg, W_ord, W_int, W_min, W_max, W_cat, W_part, W_sli, W_cutL, W_listL, W_listT, W_sumL, W_allL, W_itm, W_rng1, W_rng2, W_enu, W_zip', W_for, W_lc, W_app, W_sas, W_aug, W_par, W_lenL, W_lenT, W_lenS, W_iadd, W_isub, W_isBl, W_bit, Wa_newL, Wa_newT, Wa_newC, Wa_mul, Wa_div, Wa_mod, Wa_pow, Wa_ixL, Wa_ixT, Wa_ixC, Wa_lenC, Wa_mk, W_eqL, W_eqI, W_eqB, W_fail, W_cutS, W_cutC, startD, List.map_cons, List.map_nil, List.length_cons, List.length_nil, List.length_map, List.cons_append, List.nil_append, List.getElem?_cons_zero, List.getElem?_cons_succ, List.set_cons_zero, List.set_cons_succ, Option.some.injEq, exists_eq_left', List.replicate, Nat.reduceAdd, Nat.reduceSub, Nat.reduceMul, D.bl.injEq, D.int.injEq, D.hs.injEq, D.lst.injEq, D.ow.injEq, D.tup.injEq, List.cons.injEq, and_true, true_and, reduceCtorEq, Bool.not_true, Bool.not_false, false_implies, true_implies, forall_const, imp_self, Bool.false_eq_true, if_true, if_false, ↓reduceIte, Bool.true_eq_false, ty_ii, ty_bi, ty_li, ty_ti, ty_ib, ty_bb, ty_lb, ty_tb, ty_ll, ty_tl, ty_dl, okd_int, okd_bl, okd_lst, okd_hs, kin_hs, wipeD, Tg.st, setAll, exists_and_left, exists_eq_left, exists_eq', and_assoc, exists_and_right]
  generalize hm0 : mxPurses [D.scr ns, D.int 2] = m
  have hm : (if (1 : Int) < (if (ns.length : Int) < 2 then (ns.length : Int) else 2) then (if (ns.length : Int) < 2 then (ns.length : Int) else 2) else 1) = (m : Int) := by
    subst hm0
    unfold mxPurses
    split <;> split at * <;> simp only [Int.toNat] <;> omega
  have hm2 : m ≤ 2 := by
    subst hm0
    unfold mxPurses
    simp only [Int.toNat]
    omega
  simp only [gt_iff_lt] at *
  rw [hm]
  refine ⟨by omega, by omega, ?_⟩
  rw [Int.toNat_natCast]
  refine WL_inv (IU c m) _ [] _ (fun d rest done c' hI => ?_) ⟨[], by simp, by simp, rfl, rfl, Nat.zero_le _⟩ (fun ys c' hI => ?_)
  · obtain ⟨ls, rfl, h1, rfl, h2, h3⟩ := hI
    have hlt : ls.length < m := by
      have := congrArg List.length h2
      simp [rngD] at this
      omega
    rw [List.drop_eq_getElem_cons (by rw [rng_len]; exact hlt)] at h2
    obtain ⟨e1, e2⟩ := List.cons.inj h2
    have e3 := (rng_get (List.getElem?_eq_getElem (l := rngD 0 m) (i := ls.length) (by rw [rng_len]; exact hlt))).2
    rw [e3] at e1
    subst e1
    rw [Int.zero_add]
    refine ⟨_, rfl, ?_⟩
    try simp only [decide_true, decide_false, Bool.and_self, eq_self, W_loop0, WL_nil, true_or, or_true, or_false, W_seq, W_asg1, W_asgT, W_drop, W_ret, W_if, W_not, W_test, W_andV, W_notV, W_orV, W_andT, W_orT, W_bin, W_cons, W_nm, W_fn, W_fnK0, W_met, W_fld, W_pure, W_bind, W_isB, W_isLT, W_isH, W_add, W_sub, W_neg, W_ord, W_int, W_min, W_max, W_cat, W_part, W_sli, W_cutL, W_listL, W_listT, W_sumL, W_allL, W_itm, W_rng1, W_rng2, W_enu, W_zip', W_for, W_lc, W_app, W_sas, W_aug, W_par, W_lenL, W_lenT, W_lenS, W_iadd, W_isub, W_isBl, W_bit, Wa_newL, Wa_newT, Wa_newC, Wa_mul, Wa_div, Wa_mod, Wa_pow, Wa_ixL, Wa_ixT, Wa_ixC, Wa_lenC, Wa_mk, W_eqL, W_eqI, W_eqB, W_fail, W_cutS, W_cutC, startD, List.map_cons, List.map_nil, List.length_cons, List.length_nil, List.length_map, List.cons_append, List.nil_append, List.getElem?_cons_zero, List.getElem?_cons_succ, List.set_cons_zero, List.set_cons_succ, Option.some.injEq, exists_eq_left', List.replicate, Nat.reduceAdd, Nat.reduceSub, Nat.reduceMul, D.bl.injEq, D.int.injEq, D.hs.injEq, D.lst.injEq, D.ow.injEq, D.tup.injEq, List.cons.injEq, and_true, true_and, reduceCtorEq, Bool.not_true, Bool.not_false, false_implies, true_implies, forall_const, imp_self, Bool.false_eq_true, if_true, if_false, ↓reduceIte, Bool.true_eq_false, ty_ii, ty_bi, ty_li, ty_ti, ty_ib, ty_bb, ty_lb, ty_tb, ty_ll, ty_tl, ty_dl, okd_int, okd_bl, okd_lst, okd_hs, kin_hs, wipeD, Tg.st, setAll, exists_and_left, exists_eq_left, exists_eq', and_assoc, exists_and_right]
    refine fw_purse_x ns ls.length (by omega) fun l hl => ?_
    refine ⟨ls ++ [l], by simp, fun x hx => ?_, ?_, by simpa using e2, by simp; omega⟩
    · rcases List.mem_append.mp hx with hx | hx
      · exact h1 x hx
      · simp at hx; subst hx; exact hl
    · simp [List.range_succ]
  · obtain ⟨ls, rfl, h1, h0, h2, h3⟩ := hI
    simp only [List.nil_append] at h0
    subst h0
    have hlm : ls.length = m := by
      have := congrArg List.length h2
      simp [rngD] at this
      omega
    try simp only [decide_true, decide_false, Bool.and_self, eq_self, W_loop0, WL_nil, true_or, or_true, or_false, W_seq, W_asg1, W_asgT, W_drop, W_ret, W_if, W_not, W_test, W_andV, W_notV, W_orV, W_andT, W_orT, W_bin, W_cons, W_nm, W_fn, W_fnK0, W_met, W_fld, W_pure, W_bind, W_isB, W_isLT, W_isH, W_add, W_sub, W_neg, W_ord, W_int, W_min, W_max, W_cat, W_part, W_sli, W_cutL, W_listL, W_listT, W_sumL, W_allL, W_itm, W_rng1, W_rng2, W_enu, W_zip', W_for, W_lc, W_app, W_sas, W_aug, W_par, W_lenL, W_lenT, W_lenS, W_iadd, W_isub, W_isBl, W_bit, Wa_newL, Wa_newT, Wa_newC, Wa_mul, Wa_div, Wa_mod, Wa_pow, Wa_ixL, Wa_ixT, Wa_ixC, Wa_lenC, Wa_mk, W_eqL, W_eqI, W_eqB, W_fail, W_cutS, W_cutC, startD, List.map_cons, List.map_nil, List.length_cons, List.length_nil, List.length_map, List.cons_append, List.nil_append, List.getElem?_cons_zero, List.getElem?_cons_succ, List.set_cons_zero, List.set_cons_succ, Option.some.injEq, exists_eq_left', List.replicate, Nat.reduceAdd, Nat.reduceSub, Nat.reduceMul, D.bl.injEq, D.int.injEq, D.hs.injEq, D.lst.injEq, D.ow.injEq, D.tup.injEq, List.cons.injEq, and_true, true_and, reduceCtorEq, Bool.not_true, Bool.not_false, false_implies, true_implies, forall_const, imp_self, Bool.false_eq_true, if_true, if_false, ↓reduceIte, Bool.true_eq_false, ty_ii, ty_bi, ty_li, ty_ti, ty_ib, ty_bb, ty_lb, ty_tb, ty_ll, ty_tl, ty_dl, okd_int, okd_bl, okd_lst, okd_hs, kin_hs, wipeD, Tg.st, setAll, exists_and_left, exists_eq_left, exists_eq', and_assoc, exists_and_right]
    refine ⟨szl (by simp; omega), ?_⟩
    refine ⟨c ++ ls.map pz, [some ((List.range ls.length).map fun i => D.ow (c.length + i))], .lst ((List.range ls.length).map fun i => D.ow (c.length + i)), rfl, by simp [hlm], fun k hk => ?_, .inr ⟨_, rfl, ?_⟩, q ls h1 (by omega)⟩
    · by_cases hk' : k < c.length
      · exact .inl ⟨hk', by rw [List.getElem?_append_left hk']⟩
      · refine .inr (.inr ⟨(ls[k - c.length]'(by omega)).map D.int, ?_, lowL_ints _ _⟩)
        rw [List.getElem?_append_right (by omega), List.getElem?_map, List.getElem?_eq_getElem (by omega)]
        rfl
    · rw [fz, if_neg (by simp; omega)]
      dsimp only
      rw [get_last]
      dsimp only
      rw [mapO_ows c.length ls.length (by omega)]
      rfl
def IL (m : Nat) (ns : List Int) (i : Nat) (e : En) : Prop := ∃ (x1 x2 x3 : Option D) (C : Cells), e = ⟨[some (.scr ns), x1, x2, x3], C⟩ ∧ C.length = m ∧ ∀ j, i ≤ j → j < m → ∃ l, C[j]? = some (pz l) ∧ Pl l 0
def IJ (ns : List Int) (i : Nat) (h : D) (C : Cells) (j : Nat) (e : En) : Prop := ∃ (l : List Int) (x3 : Option D), e = ⟨[some (.scr ns), some (.ow i), some h, x3], C.set i (pz l)⟩ ∧ Pl l (200 + 100 * j)
theorem fw_law (ns : List Int) (hns : ns.length < 2 ^ 19) : FW F_law [.scr ns] [] fun d _ => d = .bl true := by
  refine FW_runBx rfl ?_
  unfold b_law
  try simp only [decide_true, decide_false, Bool.and_self, eq_self, W_loop0, WL_nil, true_or, or_true, or_false, W_seq, W_asg1, W_asgT, W_drop, W_ret, W_if, W_not, W_test, W_andV, W_notV, W_orV, W_andT, W_orT, W_bin, W_cons, W_nm, W_fn, W_fnK0, W_met, W_fld, W_pure, W_bind, W_isB, W_isLT, W_isH, W_add, W_sub, W_neg, W_ord, W_int, W_min, W_max, W_cat, W_part, W_sli, W_cutL, W_listL, W_listT, W_sumL, W_allL, W_itm, W_rng1, W_rng2, W_enu, W_zip', W_for, W_lc, W_app, W_sas, W_aug, W_par, W_lenL, W_lenT, W_lenS, W_iadd, W_isub, W_isBl, W_bit, Wa_newL, Wa_newT, Wa_newC, Wa_mul, Wa_div, Wa_mod, Wa_pow, Wa_ixL, Wa_ixT, Wa_ixC, Wa_lenC, Wa_mk, W_eqL, W_eqI, W_eqB, W_fail, W_cutS, W_cutC, startD, List.map_cons, List.map_nil, List.length_cons, List.length_nil, List.length_map, List.cons_append, List.nil_append, List.getElem?_cons_zero, List.getElem?_cons_succ, List.set_cons_zero, List.set_cons_succ, Option.some.injEq, exists_eq_left', List.replicate, Nat.reduceAdd, Nat.reduceSub, Nat.reduceMul, D.bl.injEq, D.int.injEq, D.hs.injEq, D.lst.injEq, D.ow.injEq, D.tup.injEq, List.cons.injEq, and_true, true_and, reduceCtorEq, Bool.not_true, Bool.not_false, false_implies, true_implies, forall_const, imp_self, Bool.false_eq_true, if_true, if_false, ↓reduceIte, Bool.true_eq_false, ty_ii, ty_bi, ty_li, ty_ti, ty_ib, ty_bb, ty_lb, ty_tb, ty_ll, ty_tl, ty_dl, okd_int, okd_bl, okd_lst, okd_hs, kin_hs, wipeD, Tg.st, setAll, exists_and_left, exists_eq_left, exists_eq', and_assoc, exists_and_right]
  refine fw_purses ns hns fun ls hls hl2 => ?_
  try simp only [decide_true, decide_false, Bool.and_self, eq_self, W_loop0, WL_nil, true_or, or_true, or_false, W_seq, W_asg1, W_asgT, W_drop, W_ret, W_if, W_not, W_test, W_andV, W_notV, W_orV, W_andT, W_orT, W_bin, W_cons, W_nm, W_fn, W_fnK0, W_met, W_fld, W_pure, W_bind, W_isB, W_isLT, W_isH, W_add, W_sub, W_neg, W_ord, W_int, W_min, W_max, W_cat, W_part, W_sli, W_cutL, W_listL, W_listT, W_sumL, W_allL, W_itm, W_rng1, W_rng2, W_enu, W_zip', W_for, W_lc, W_app, W_sas, W_aug, W_par, W_lenL, W_lenT, W_lenS, W_iadd, W_isub, W_isBl, W_bit, Wa_newL, Wa_newT, Wa_newC, Wa_mul, Wa_div, Wa_mod, Wa_pow, Wa_ixL, Wa_ixT, Wa_ixC, Wa_lenC, Wa_mk, W_eqL, W_eqI, W_eqB, W_fail, W_cutS, W_cutC, startD, List.map_cons, List.map_nil, List.length_cons, List.length_nil, List.length_map, List.cons_append, List.nil_append, List.getElem?_cons_zero, List.getElem?_cons_succ, List.set_cons_zero, List.set_cons_succ, Option.some.injEq, exists_eq_left', List.replicate, Nat.reduceAdd, Nat.reduceSub, Nat.reduceMul, D.bl.injEq, D.int.injEq, D.hs.injEq, D.lst.injEq, D.ow.injEq, D.tup.injEq, List.cons.injEq, and_true, true_and, reduceCtorEq, Bool.not_true, Bool.not_false, false_implies, true_implies, forall_const, imp_self, Bool.false_eq_true, if_true, if_false, ↓reduceIte, Bool.true_eq_false, ty_ii, ty_bi, ty_li, ty_ti, ty_ib, ty_bb, ty_lb, ty_tb, ty_ll, ty_tl, ty_dl, okd_int, okd_bl, okd_lst, okd_hs, kin_hs, wipeD, Tg.st, setAll, exists_and_left, exists_eq_left, exists_eq', and_assoc, exists_and_right]
  refine W_seqloop _ (IL ls.length ns) _ (fun i d e hi hJ => ?_) ⟨none, none, none, _, rfl, by simp, fun j _ hj => ⟨ls[j], by simp [hj], hls _ (List.getElem_mem _)⟩⟩ (fun e hJ => ?_)
  · obtain ⟨x1, x2, x3, C, rfl, hC, hc⟩ := hJ
    rw [List.getElem?_map] at hi
    have hil : i < ls.length := by
      by_cases h : i < ls.length
      · exact h
      · rw [List.getElem?_eq_none (by simpa using h)] at hi; cases hi
    rw [List.getElem?_range hil] at hi
    cases hi
    obtain ⟨l, hl, hp⟩ := hc i (Nat.le_refl _) hil
    simp only [Nat.zero_add]
    have hk : i < C.length := by omega
    refine ⟨_, rfl, ?_⟩
    try simp only [decide_true, decide_false, Bool.and_self, eq_self, W_loop0, WL_nil, true_or, or_true, or_false, W_seq, W_asg1, W_asgT, W_drop, W_ret, W_if, W_not, W_test, W_andV, W_notV, W_orV, W_andT, W_orT, W_bin, W_cons, W_nm, W_fn, W_fnK0, W_met, W_fld, W_pure, W_bind, W_isB, W_isLT, W_isH, W_add, W_sub, W_neg, W_ord, W_int, W_min, W_max, W_cat, W_part, W_sli, W_cutL, W_listL, W_listT, W_sumL, W_allL, W_itm, W_rng1, W_rng2, W_enu, W_zip', W_for, W_lc, W_app, W_sas, W_aug, W_par, W_lenL, W_lenT, W_lenS, W_iadd, W_isub, W_isBl, W_bit, Wa_newL, Wa_newT, Wa_newC, Wa_mul, Wa_div, Wa_mod, Wa_pow, Wa_ixL, Wa_ixT, Wa_ixC, Wa_lenC, Wa_mk, W_eqL, W_eqI, W_eqB, W_fail, W_cutS, W_cutC, startD, List.map_cons, List.map_nil, List.length_cons, List.length_nil, List.length_map, List.cons_append, List.nil_append, List.getElem?_cons_zero, List.getElem?_cons_succ, List.set_cons_zero, List.set_cons_succ, Option.some.injEq, exists_eq_left', List.replicate, Nat.reduceAdd, Nat.reduceSub, Nat.reduceMul, D.bl.injEq, D.int.injEq, D.hs.injEq, D.lst.injEq, D.ow.injEq, D.tup.injEq, List.cons.injEq, and_true, true_and, reduceCtorEq, Bool.not_true, Bool.not_false, false_implies, true_implies, forall_const, imp_self, Bool.false_eq_true, if_true, if_false, ↓reduceIte, Bool.true_eq_false, ty_ii, ty_bi, ty_li, ty_ti, ty_ib, ty_bb, ty_lb, ty_tb, ty_ll, ty_tl, ty_dl, okd_int, okd_bl, okd_lst, okd_hs, kin_hs, wipeD, Tg.st, setAll, exists_and_left, exists_eq_left, exists_eq', and_assoc, exists_and_right]
    refine fw_draw i l 0 hl hp (by decide) 4 (by decide) (by decide) fun y1 l1 hy1 hy1' hl1 => ?_
    obtain ⟨n1, rfl⟩ := Int.eq_ofNat_of_zero_le hy1
    try simp only [decide_true, decide_false, Bool.and_self, eq_self, W_loop0, WL_nil, true_or, or_true, or_false, W_seq, W_asg1, W_asgT, W_drop, W_ret, W_if, W_not, W_test, W_andV, W_notV, W_orV, W_andT, W_orT, W_bin, W_cons, W_nm, W_fn, W_fnK0, W_met, W_fld, W_pure, W_bind, W_isB, W_isLT, W_isH, W_add, W_sub, W_neg, W_ord, W_int, W_min, W_max, W_cat, W_part, W_sli, W_cutL, W_listL, W_listT, W_sumL, W_allL, W_itm, W_rng1, W_rng2, W_enu, W_zip', W_for, W_lc, W_app, W_sas, W_aug, W_par, W_lenL, W_lenT, W_lenS, W_iadd, W_isub, W_isBl, W_bit, Wa_newL, Wa_newT, Wa_newC, Wa_mul, Wa_div, Wa_mod, Wa_pow, Wa_ixL, Wa_ixT, Wa_ixC, Wa_lenC, Wa_mk, W_eqL, W_eqI, W_eqB, W_fail, W_cutS, W_cutC, startD, List.map_cons, List.map_nil, List.length_cons, List.length_nil, List.length_map, List.cons_append, List.nil_append, List.getElem?_cons_zero, List.getElem?_cons_succ, List.set_cons_zero, List.set_cons_succ, Option.some.injEq, exists_eq_left', List.replicate, Nat.reduceAdd, Nat.reduceSub, Nat.reduceMul, D.bl.injEq, D.int.injEq, D.hs.injEq, D.lst.injEq, D.ow.injEq, D.tup.injEq, List.cons.injEq, and_true, true_and, reduceCtorEq, Bool.not_true, Bool.not_false, false_implies, true_implies, forall_const, imp_self, Bool.false_eq_true, if_true, if_false, ↓reduceIte, Bool.true_eq_false, ty_ii, ty_bi, ty_li, ty_ti, ty_ib, ty_bb, ty_lb, ty_tb, ty_ll, ty_tl, ty_dl, okd_int, okd_bl, okd_lst, okd_hs, kin_hs, wipeD, Tg.st, setAll, exists_and_left, exists_eq_left, exists_eq', and_assoc, exists_and_right]
    rw [show (1 : Int) + (n1 : Int) = ((1 + n1 : Nat) : Int) by omega]
    refine fw_house i l1 _ (get_set hk) hl1 (by decide) (1 + n1) (by omega) (by omega) fun b1 r1 l2 hg1 hl2' => ?_
    rw [List.set_set]
    try simp only [decide_true, decide_false, Bool.and_self, eq_self, W_loop0, WL_nil, true_or, or_true, or_false, W_seq, W_asg1, W_asgT, W_drop, W_ret, W_if, W_not, W_test, W_andV, W_notV, W_orV, W_andT, W_orT, W_bin, W_cons, W_nm, W_fn, W_fnK0, W_met, W_fld, W_pure, W_bind, W_isB, W_isLT, W_isH, W_add, W_sub, W_neg, W_ord, W_int, W_min, W_max, W_cat, W_part, W_sli, W_cutL, W_listL, W_listT, W_sumL, W_allL, W_itm, W_rng1, W_rng2, W_enu, W_zip', W_for, W_lc, W_app, W_sas, W_aug, W_par, W_lenL, W_lenT, W_lenS, W_iadd, W_isub, W_isBl, W_bit, Wa_newL, Wa_newT, Wa_newC, Wa_mul, Wa_div, Wa_mod, Wa_pow, Wa_ixL, Wa_ixT, Wa_ixC, Wa_lenC, Wa_mk, W_eqL, W_eqI, W_eqB, W_fail, W_cutS, W_cutC, startD, List.map_cons, List.map_nil, List.length_cons, List.length_nil, List.length_map, List.cons_append, List.nil_append, List.getElem?_cons_zero, List.getElem?_cons_succ, List.set_cons_zero, List.set_cons_succ, Option.some.injEq, exists_eq_left', List.replicate, Nat.reduceAdd, Nat.reduceSub, Nat.reduceMul, D.bl.injEq, D.int.injEq, D.hs.injEq, D.lst.injEq, D.ow.injEq, D.tup.injEq, List.cons.injEq, and_true, true_and, reduceCtorEq, Bool.not_true, Bool.not_false, false_implies, true_implies, forall_const, imp_self, Bool.false_eq_true, if_true, if_false, ↓reduceIte, Bool.true_eq_false, ty_ii, ty_bi, ty_li, ty_ti, ty_ib, ty_bb, ty_lb, ty_tb, ty_ll, ty_tl, ty_dl, okd_int, okd_bl, okd_lst, okd_hs, kin_hs, wipeD, Tg.st, setAll, exists_and_left, exists_eq_left, exists_eq', and_assoc, exists_and_right]
    refine fw_draw i l2 _ (get_set hk) hl2' (by decide) 4 (by decide) (by decide) fun y2 l3 hy2 hy2' hl3 => ?_
    rw [List.set_set]
    obtain ⟨n2, rfl⟩ := Int.eq_ofNat_of_zero_le hy2
    try simp only [decide_true, decide_false, Bool.and_self, eq_self, W_loop0, WL_nil, true_or, or_true, or_false, W_seq, W_asg1, W_asgT, W_drop, W_ret, W_if, W_not, W_test, W_andV, W_notV, W_orV, W_andT, W_orT, W_bin, W_cons, W_nm, W_fn, W_fnK0, W_met, W_fld, W_pure, W_bind, W_isB, W_isLT, W_isH, W_add, W_sub, W_neg, W_ord, W_int, W_min, W_max, W_cat, W_part, W_sli, W_cutL, W_listL, W_listT, W_sumL, W_allL, W_itm, W_rng1, W_rng2, W_enu, W_zip', W_for, W_lc, W_app, W_sas, W_aug, W_par, W_lenL, W_lenT, W_lenS, W_iadd, W_isub, W_isBl, W_bit, Wa_newL, Wa_newT, Wa_newC, Wa_mul, Wa_div, Wa_mod, Wa_pow, Wa_ixL, Wa_ixT, Wa_ixC, Wa_lenC, Wa_mk, W_eqL, W_eqI, W_eqB, W_fail, W_cutS, W_cutC, startD, List.map_cons, List.map_nil, List.length_cons, List.length_nil, List.length_map, List.cons_append, List.nil_append, List.getElem?_cons_zero, List.getElem?_cons_succ, List.set_cons_zero, List.set_cons_succ, Option.some.injEq, exists_eq_left', List.replicate, Nat.reduceAdd, Nat.reduceSub, Nat.reduceMul, D.bl.injEq, D.int.injEq, D.hs.injEq, D.lst.injEq, D.ow.injEq, D.tup.injEq, List.cons.injEq, and_true, true_and, reduceCtorEq, Bool.not_true, Bool.not_false, false_implies, true_implies, forall_const, imp_self, Bool.false_eq_true, if_true, if_false, ↓reduceIte, Bool.true_eq_false, ty_ii, ty_bi, ty_li, ty_ti, ty_ib, ty_bb, ty_lb, ty_tb, ty_ll, ty_tl, ty_dl, okd_int, okd_bl, okd_lst, okd_hs, kin_hs, wipeD, Tg.st, setAll, exists_and_left, exists_eq_left, exists_eq', and_assoc, exists_and_right]
    rw [show (1 : Int) + (n2 : Int) = ((1 + n2 : Nat) : Int) by omega]
    refine fw_house i l3 _ (get_set hk) hl3 (by decide) (1 + n2) (by omega) (by omega) fun b2 r2 l4 hg2 hl4 => ?_
    rw [List.set_set]
    try simp only [decide_true, decide_false, Bool.and_self, eq_self, W_loop0, WL_nil, true_or, or_true, or_false, W_seq, W_asg1, W_asgT, W_drop, W_ret, W_if, W_not, W_test, W_andV, W_notV, W_orV, W_andT, W_orT, W_bin, W_cons, W_nm, W_fn, W_fnK0, W_met, W_fld, W_pure, W_bind, W_isB, W_isLT, W_isH, W_add, W_sub, W_neg, W_ord, W_int, W_min, W_max, W_cat, W_part, W_sli, W_cutL, W_listL, W_listT, W_sumL, W_allL, W_itm, W_rng1, W_rng2, W_enu, W_zip', W_for, W_lc, W_app, W_sas, W_aug, W_par, W_lenL, W_lenT, W_lenS, W_iadd, W_isub, W_isBl, W_bit, Wa_newL, Wa_newT, Wa_newC, Wa_mul, Wa_div, Wa_mod, Wa_pow, Wa_ixL, Wa_ixT, Wa_ixC, Wa_lenC, Wa_mk, W_eqL, W_eqI, W_eqB, W_fail, W_cutS, W_cutC, startD, List.map_cons, List.map_nil, List.length_cons, List.length_nil, List.length_map, List.cons_append, List.nil_append, List.getElem?_cons_zero, List.getElem?_cons_succ, List.set_cons_zero, List.set_cons_succ, Option.some.injEq, exists_eq_left', List.replicate, Nat.reduceAdd, Nat.reduceSub, Nat.reduceMul, D.bl.injEq, D.int.injEq, D.hs.injEq, D.lst.injEq, D.ow.injEq, D.tup.injEq, List.cons.injEq, and_true, true_and, reduceCtorEq, Bool.not_true, Bool.not_false, false_implies, true_implies, forall_const, imp_self, Bool.false_eq_true, if_true, if_false, ↓reduceIte, Bool.true_eq_false, ty_ii, ty_bi, ty_li, ty_ti, ty_ib, ty_bb, ty_lb, ty_tb, ty_ll, ty_tl, ty_dl, okd_int, okd_bl, okd_lst, okd_hs, kin_hs, wipeD, Tg.st, setAll, exists_and_left, exists_eq_left, exists_eq', and_assoc, exists_and_right]
    refine ⟨szl (by decide), ?_⟩
    refine fw_great i l4 _ (get_set hk) hl4 (by decide) fun b3 r3 n3 l5 hn3 hn3' hg3 hl5 => ?_
    rw [List.set_set]
    try simp only [decide_true, decide_false, Bool.and_self, eq_self, W_loop0, WL_nil, true_or, or_true, or_false, W_seq, W_asg1, W_asgT, W_drop, W_ret, W_if, W_not, W_test, W_andV, W_notV, W_orV, W_andT, W_orT, W_bin, W_cons, W_nm, W_fn, W_fnK0, W_met, W_fld, W_pure, W_bind, W_isB, W_isLT, W_isH, W_add, W_sub, W_neg, W_ord, W_int, W_min, W_max, W_cat, W_part, W_sli, W_cutL, W_listL, W_listT, W_sumL, W_allL, W_itm, W_rng1, W_rng2, W_enu, W_zip', W_for, W_lc, W_app, W_sas, W_aug, W_par, W_lenL, W_lenT, W_lenS, W_iadd, W_isub, W_isBl, W_bit, Wa_newL, Wa_newT, Wa_newC, Wa_mul, Wa_div, Wa_mod, Wa_pow, Wa_ixL, Wa_ixT, Wa_ixC, Wa_lenC, Wa_mk, W_eqL, W_eqI, W_eqB, W_fail, W_cutS, W_cutC, startD, List.map_cons, List.map_nil, List.length_cons, List.length_nil, List.length_map, List.cons_append, List.nil_append, List.getElem?_cons_zero, List.getElem?_cons_succ, List.set_cons_zero, List.set_cons_succ, Option.some.injEq, exists_eq_left', List.replicate, Nat.reduceAdd, Nat.reduceSub, Nat.reduceMul, D.bl.injEq, D.int.injEq, D.hs.injEq, D.lst.injEq, D.ow.injEq, D.tup.injEq, List.cons.injEq, and_true, true_and, reduceCtorEq, Bool.not_true, Bool.not_false, false_implies, true_implies, forall_const, imp_self, Bool.false_eq_true, if_true, if_false, ↓reduceIte, Bool.true_eq_false, ty_ii, ty_bi, ty_li, ty_ti, ty_ib, ty_bb, ty_lb, ty_tb, ty_ll, ty_tl, ty_dl, okd_int, okd_bl, okd_lst, okd_hs, kin_hs, wipeD, Tg.st, setAll, exists_and_left, exists_eq_left, exists_eq', and_assoc, exists_and_right]
    refine ⟨szl (by decide), szl (by decide), ?_⟩
    refine W_seqloop _ (IJ ns i (.lst [hd b1 r1, hd b2 r2]) C) _ (fun j d e hj hJ => ?_) ⟨l5, x3, rfl, hl5.mono (by decide)⟩ (fun e hJ => ?_)
    · obtain ⟨l6, y3, rfl, g1⟩ := hJ
      have hd' : ∃ b r n, d = hd b r ∧ gh b r n ∧ 1 ≤ n ∧ n ≤ 8 := by
        have := List.mem_of_getElem? hj
        simp at this
        rcases this with rfl | rfl | rfl
        · exact ⟨b1, r1, _, rfl, hg1, by omega, by omega⟩
        · exact ⟨b2, r2, _, rfl, hg2, by omega, by omega⟩
        · exact ⟨b3, r3, _, rfl, hg3, by omega, by omega⟩
      have hj3 : j < 3 := by have := (List.getElem?_eq_some_iff.mp hj).1; simpa using this
      obtain ⟨b, r, n, rfl, hg, h1n, hn8⟩ := hd'
      refine ⟨_, rfl, ?_⟩
      try simp only [decide_true, decide_false, Bool.and_self, eq_self, W_loop0, WL_nil, true_or, or_true, or_false, W_seq, W_asg1, W_asgT, W_drop, W_ret, W_if, W_not, W_test, W_andV, W_notV, W_orV, W_andT, W_orT, W_bin, W_cons, W_nm, W_fn, W_fnK0, W_met, W_fld, W_pure, W_bind, W_isB, W_isLT, W_isH, W_add, W_sub, W_neg, W_ord, W_int, W_min, W_max, W_cat, W_part, W_sli, W_cutL, W_listL, W_listT, W_sumL, W_allL, W_itm, W_rng1, W_rng2, W_enu, W_zip', W_for, W_lc, W_app, W_sas, W_aug, W_par, W_lenL, W_lenT, W_lenS, W_iadd, W_isub, W_isBl, W_bit, Wa_newL, Wa_newT, Wa_newC, Wa_mul, Wa_div, Wa_mod, Wa_pow, Wa_ixL, Wa_ixT, Wa_ixC, Wa_lenC, Wa_mk, W_eqL, W_eqI, W_eqB, W_fail, W_cutS, W_cutC, startD, List.map_cons, List.map_nil, List.length_cons, List.length_nil, List.length_map, List.cons_append, List.nil_append, List.getElem?_cons_zero, List.getElem?_cons_succ, List.set_cons_zero, List.set_cons_succ, Option.some.injEq, exists_eq_left', List.replicate, Nat.reduceAdd, Nat.reduceSub, Nat.reduceMul, D.bl.injEq, D.int.injEq, D.hs.injEq, D.lst.injEq, D.ow.injEq, D.tup.injEq, List.cons.injEq, and_true, true_and, reduceCtorEq, Bool.not_true, Bool.not_false, false_implies, true_implies, forall_const, imp_self, Bool.false_eq_true, if_true, if_false, ↓reduceIte, Bool.true_eq_false, ty_ii, ty_bi, ty_li, ty_ti, ty_ib, ty_bb, ty_lb, ty_tb, ty_ll, ty_tl, ty_dl, okd_int, okd_bl, okd_lst, okd_hs, kin_hs, wipeD, Tg.st, setAll, exists_and_left, exists_eq_left, exists_eq', and_assoc, exists_and_right]
      refine fw_two i l6 _ (get_set hk) g1 (by omega) n h1n hn8 b r hg fun l7 hl7 => ?_
      rw [List.set_set]
      try simp only [decide_true, decide_false, Bool.and_self, eq_self, W_loop0, WL_nil, true_or, or_true, or_false, W_seq, W_asg1, W_asgT, W_drop, W_ret, W_if, W_not, W_test, W_andV, W_notV, W_orV, W_andT, W_orT, W_bin, W_cons, W_nm, W_fn, W_fnK0, W_met, W_fld, W_pure, W_bind, W_isB, W_isLT, W_isH, W_add, W_sub, W_neg, W_ord, W_int, W_min, W_max, W_cat, W_part, W_sli, W_cutL, W_listL, W_listT, W_sumL, W_allL, W_itm, W_rng1, W_rng2, W_enu, W_zip', W_for, W_lc, W_app, W_sas, W_aug, W_par, W_lenL, W_lenT, W_lenS, W_iadd, W_isub, W_isBl, W_bit, Wa_newL, Wa_newT, Wa_newC, Wa_mul, Wa_div, Wa_mod, Wa_pow, Wa_ixL, Wa_ixT, Wa_ixC, Wa_lenC, Wa_mk, W_eqL, W_eqI, W_eqB, W_fail, W_cutS, W_cutC, startD, List.map_cons, List.map_nil, List.length_cons, List.length_nil, List.length_map, List.cons_append, List.nil_append, List.getElem?_cons_zero, List.getElem?_cons_succ, List.set_cons_zero, List.set_cons_succ, Option.some.injEq, exists_eq_left', List.replicate, Nat.reduceAdd, Nat.reduceSub, Nat.reduceMul, D.bl.injEq, D.int.injEq, D.hs.injEq, D.lst.injEq, D.ow.injEq, D.tup.injEq, List.cons.injEq, and_true, true_and, reduceCtorEq, Bool.not_true, Bool.not_false, false_implies, true_implies, forall_const, imp_self, Bool.false_eq_true, if_true, if_false, ↓reduceIte, Bool.true_eq_false, ty_ii, ty_bi, ty_li, ty_ti, ty_ib, ty_bb, ty_lb, ty_tb, ty_ll, ty_tl, ty_dl, okd_int, okd_bl, okd_lst, okd_hs, kin_hs, wipeD, Tg.st, setAll, exists_and_left, exists_eq_left, exists_eq', and_assoc, exists_and_right]
      refine fw_places i l7 _ (get_set hk) hl7 (by omega) n h1n hn8 b r hg fun l8 hl8 => ?_
      rw [List.set_set]
      try simp only [decide_true, decide_false, Bool.and_self, eq_self, W_loop0, WL_nil, true_or, or_true, or_false, W_seq, W_asg1, W_asgT, W_drop, W_ret, W_if, W_not, W_test, W_andV, W_notV, W_orV, W_andT, W_orT, W_bin, W_cons, W_nm, W_fn, W_fnK0, W_met, W_fld, W_pure, W_bind, W_isB, W_isLT, W_isH, W_add, W_sub, W_neg, W_ord, W_int, W_min, W_max, W_cat, W_part, W_sli, W_cutL, W_listL, W_listT, W_sumL, W_allL, W_itm, W_rng1, W_rng2, W_enu, W_zip', W_for, W_lc, W_app, W_sas, W_aug, W_par, W_lenL, W_lenT, W_lenS, W_iadd, W_isub, W_isBl, W_bit, Wa_newL, Wa_newT, Wa_newC, Wa_mul, Wa_div, Wa_mod, Wa_pow, Wa_ixL, Wa_ixT, Wa_ixC, Wa_lenC, Wa_mk, W_eqL, W_eqI, W_eqB, W_fail, W_cutS, W_cutC, startD, List.map_cons, List.map_nil, List.length_cons, List.length_nil, List.length_map, List.cons_append, List.nil_append, List.getElem?_cons_zero, List.getElem?_cons_succ, List.set_cons_zero, List.set_cons_succ, Option.some.injEq, exists_eq_left', List.replicate, Nat.reduceAdd, Nat.reduceSub, Nat.reduceMul, D.bl.injEq, D.int.injEq, D.hs.injEq, D.lst.injEq, D.ow.injEq, D.tup.injEq, List.cons.injEq, and_true, true_and, reduceCtorEq, Bool.not_true, Bool.not_false, false_implies, true_implies, forall_const, imp_self, Bool.false_eq_true, if_true, if_false, ↓reduceIte, Bool.true_eq_false, ty_ii, ty_bi, ty_li, ty_ti, ty_ib, ty_bb, ty_lb, ty_tb, ty_ll, ty_tl, ty_dl, okd_int, okd_bl, okd_lst, okd_hs, kin_hs, wipeD, Tg.st, setAll, exists_and_left, exists_eq_left, exists_eq', and_assoc, exists_and_right]
      exact ⟨l8, _, rfl, hl8.mono (by omega)⟩
    · obtain ⟨l6, y3, rfl, g1⟩ := hJ
      try simp only [at0, at1, decide_true, decide_false, Bool.and_self, eq_self, W_loop0, WL_nil, true_or, or_true, or_false, W_seq, W_asg1, W_asgT, W_drop, W_ret, W_if, W_not, W_test, W_andV, W_notV, W_orV, W_andT, W_orT, W_bin, W_cons, W_nm, W_fn, W_fnK0, W_met, W_fld, W_pure, W_bind, W_isB, W_isLT, W_isH, W_add, W_sub, W_neg, W_ord, W_int, W_min, W_max, W_cat, W_part, W_sli, W_cutL, W_listL, W_listT, W_sumL, W_allL, W_itm, W_rng1, W_rng2, W_enu, W_zip', W_for, W_lc, W_app, W_sas, W_aug, W_par, W_lenL, W_lenT, W_lenS, W_iadd, W_isub, W_isBl, W_bit, Wa_newL, Wa_newT, Wa_newC, Wa_mul, Wa_div, Wa_mod, Wa_pow, Wa_ixL, Wa_ixT, Wa_ixC, Wa_lenC, Wa_mk, W_eqL, W_eqI, W_eqB, W_fail, W_cutS, W_cutC, startD, List.map_cons, List.map_nil, List.length_cons, List.length_nil, List.length_map, List.cons_append, List.nil_append, List.getElem?_cons_zero, List.getElem?_cons_succ, List.set_cons_zero, List.set_cons_succ, Option.some.injEq, exists_eq_left', List.replicate, Nat.reduceAdd, Nat.reduceSub, Nat.reduceMul, D.bl.injEq, D.int.injEq, D.hs.injEq, D.lst.injEq, D.ow.injEq, D.tup.injEq, List.cons.injEq, and_true, true_and, reduceCtorEq, Bool.not_true, Bool.not_false, false_implies, true_implies, forall_const, imp_self, Bool.false_eq_true, if_true, if_false, ↓reduceIte, Bool.true_eq_false, ty_ii, ty_bi, ty_li, ty_ti, ty_ib, ty_bb, ty_lb, ty_tb, ty_ll, ty_tl, ty_dl, okd_int, okd_bl, okd_lst, okd_hs, kin_hs, wipeD, Tg.st, setAll, exists_and_left, exists_eq_left, exists_eq', and_assoc, exists_and_right]
      refine fw_behind i l6 _ (get_set hk) g1 (by simp) _ _ (by omega) (by omega) (by omega) (by omega) b1 r1 b2 r2 hg1 hg2 fun l7 hl7 => ?_
      rw [List.set_set]
      try simp only [at0, at1, decide_true, decide_false, Bool.and_self, eq_self, W_loop0, WL_nil, true_or, or_true, or_false, W_seq, W_asg1, W_asgT, W_drop, W_ret, W_if, W_not, W_test, W_andV, W_notV, W_orV, W_andT, W_orT, W_bin, W_cons, W_nm, W_fn, W_fnK0, W_met, W_fld, W_pure, W_bind, W_isB, W_isLT, W_isH, W_add, W_sub, W_neg, W_ord, W_int, W_min, W_max, W_cat, W_part, W_sli, W_cutL, W_listL, W_listT, W_sumL, W_allL, W_itm, W_rng1, W_rng2, W_enu, W_zip', W_for, W_lc, W_app, W_sas, W_aug, W_par, W_lenL, W_lenT, W_lenS, W_iadd, W_isub, W_isBl, W_bit, Wa_newL, Wa_newT, Wa_newC, Wa_mul, Wa_div, Wa_mod, Wa_pow, Wa_ixL, Wa_ixT, Wa_ixC, Wa_lenC, Wa_mk, W_eqL, W_eqI, W_eqB, W_fail, W_cutS, W_cutC, startD, List.map_cons, List.map_nil, List.length_cons, List.length_nil, List.length_map, List.cons_append, List.nil_append, List.getElem?_cons_zero, List.getElem?_cons_succ, List.set_cons_zero, List.set_cons_succ, Option.some.injEq, exists_eq_left', List.replicate, Nat.reduceAdd, Nat.reduceSub, Nat.reduceMul, D.bl.injEq, D.int.injEq, D.hs.injEq, D.lst.injEq, D.ow.injEq, D.tup.injEq, List.cons.injEq, and_true, true_and, reduceCtorEq, Bool.not_true, Bool.not_false, false_implies, true_implies, forall_const, imp_self, Bool.false_eq_true, if_true, if_false, ↓reduceIte, Bool.true_eq_false, ty_ii, ty_bi, ty_li, ty_ti, ty_ib, ty_bb, ty_lb, ty_tb, ty_ll, ty_tl, ty_dl, okd_int, okd_bl, okd_lst, okd_hs, kin_hs, wipeD, Tg.st, setAll, exists_and_left, exists_eq_left, exists_eq', and_assoc, exists_and_right]
      refine fw_behind i l7 _ (get_set hk) hl7 (by simp) _ _ (by omega) (by omega) (by omega) (by omega) b2 r2 b1 r1 hg2 hg1 fun l8 hl8 => ?_
      rw [List.set_set]
      try simp only [decide_true, decide_false, Bool.and_self, eq_self, W_loop0, WL_nil, true_or, or_true, or_false, W_seq, W_asg1, W_asgT, W_drop, W_ret, W_if, W_not, W_test, W_andV, W_notV, W_orV, W_andT, W_orT, W_bin, W_cons, W_nm, W_fn, W_fnK0, W_met, W_fld, W_pure, W_bind, W_isB, W_isLT, W_isH, W_add, W_sub, W_neg, W_ord, W_int, W_min, W_max, W_cat, W_part, W_sli, W_cutL, W_listL, W_listT, W_sumL, W_allL, W_itm, W_rng1, W_rng2, W_enu, W_zip', W_for, W_lc, W_app, W_sas, W_aug, W_par, W_lenL, W_lenT, W_lenS, W_iadd, W_isub, W_isBl, W_bit, Wa_newL, Wa_newT, Wa_newC, Wa_mul, Wa_div, Wa_mod, Wa_pow, Wa_ixL, Wa_ixT, Wa_ixC, Wa_lenC, Wa_mk, W_eqL, W_eqI, W_eqB, W_fail, W_cutS, W_cutC, startD, List.map_cons, List.map_nil, List.length_cons, List.length_nil, List.length_map, List.cons_append, List.nil_append, List.getElem?_cons_zero, List.getElem?_cons_succ, List.set_cons_zero, List.set_cons_succ, Option.some.injEq, exists_eq_left', List.replicate, Nat.reduceAdd, Nat.reduceSub, Nat.reduceMul, D.bl.injEq, D.int.injEq, D.hs.injEq, D.lst.injEq, D.ow.injEq, D.tup.injEq, List.cons.injEq, and_true, true_and, reduceCtorEq, Bool.not_true, Bool.not_false, false_implies, true_implies, forall_const, imp_self, Bool.false_eq_true, if_true, if_false, ↓reduceIte, Bool.true_eq_false, ty_ii, ty_bi, ty_li, ty_ti, ty_ib, ty_bb, ty_lb, ty_tb, ty_ll, ty_tl, ty_dl, okd_int, okd_bl, okd_lst, okd_hs, kin_hs, wipeD, Tg.st, setAll, exists_and_left, exists_eq_left, exists_eq', and_assoc, exists_and_right]
      refine ⟨_, _, _, _, rfl, by simpa using hC, fun j hj hj' => ?_⟩
      obtain ⟨l9, q1, q2⟩ := hc j (by omega) hj'
      exact ⟨l9, by rw [List.getElem?_set_ne (by omega)]; exact q1, q2⟩
  · obtain ⟨x1, x2, x3, C, rfl, hC, hc⟩ := hJ
    try simp only [decide_true, decide_false, Bool.and_self, eq_self, W_loop0, WL_nil, true_or, or_true, or_false, W_seq, W_asg1, W_asgT, W_drop, W_ret, W_if, W_not, W_test, W_andV, W_notV, W_orV, W_andT, W_orT, W_bin, W_cons, W_nm, W_fn, W_fnK0, W_met, W_fld, W_pure, W_bind, W_isB, W_isLT, W_isH, W_add, W_sub, W_neg, W_ord, W_int, W_min, W_max, W_cat, W_part, W_sli, W_cutL, W_listL, W_listT, W_sumL, W_allL, W_itm, W_rng1, W_rng2, W_enu, W_zip', W_for, W_lc, W_app, W_sas, W_aug, W_par, W_lenL, W_lenT, W_lenS, W_iadd, W_isub, W_isBl, W_bit, Wa_newL, Wa_newT, Wa_newC, Wa_mul, Wa_div, Wa_mod, Wa_pow, Wa_ixL, Wa_ixT, Wa_ixC, Wa_lenC, Wa_mk, W_eqL, W_eqI, W_eqB, W_fail, W_cutS, W_cutC, startD, List.map_cons, List.map_nil, List.length_cons, List.length_nil, List.length_map, List.cons_append, List.nil_append, List.getElem?_cons_zero, List.getElem?_cons_succ, List.set_cons_zero, List.set_cons_succ, Option.some.injEq, exists_eq_left', List.replicate, Nat.reduceAdd, Nat.reduceSub, Nat.reduceMul, D.bl.injEq, D.int.injEq, D.hs.injEq, D.lst.injEq, D.ow.injEq, D.tup.injEq, List.cons.injEq, and_true, true_and, reduceCtorEq, Bool.not_true, Bool.not_false, false_implies, true_implies, forall_const, imp_self, Bool.false_eq_true, if_true, if_false, ↓reduceIte, Bool.true_eq_false, ty_ii, ty_bi, ty_li, ty_ti, ty_ib, ty_bb, ty_lb, ty_tb, ty_ll, ty_tl, ty_dl, okd_int, okd_bl, okd_lst, okd_hs, kin_hs, wipeD, Tg.st, setAll, exists_and_left, exists_eq_left, exists_eq', and_assoc, exists_and_right]
    exact ⟨[], C, .bl true, rfl, rfl, fun k hk => absurd hk (Nat.not_lt_zero _), .inr ⟨_, rfl, rfl⟩, rfl⟩
end
end K4

/-! K4I: how a house is made. -/
namespace K4
open PySem PySem.Spec PyProof.Rows L2 CD
section
variable {P : Program} {w : World} {K : PySem.W.Frag} {mg : Str → Option Value} {base : Heap} {C : Hc} {xa : Str → Addr}
abbrev s_House___init__ : Stmt := inClass (topS 17) 0
theorem sc_House___init__ : FnScope ["self", "bases", "rooms"] ["self", "bases", "rooms"] (defScope s_House___init__) := ⟨rfl, rfl, rfl, by decide +kernel, rfl, by decide +kernel, by decide +kernel⟩
noncomputable def i1 : M Bool := notT (testM (fnM 1 F_are_bases (consM (nmM 1) (pureM []))))
noncomputable def i2 : M Bool := notT (testM (fnM 2 F_are_counts (consM (nmM 2) (consM (binM (addG newL) (bindM (consM (nmM 1) (pureM [])) lenG) (pureM (.int 1))) (pureM [])))))
def i3 : M D := bindM (consM (nmM 1) (pureM [])) tupG
def i4 : M D := bindM (consM (nmM 2) (pureM [])) tupG
theorem der_House___init__ (T : Txt mg C) (hk : HK C) (hC : C.K = K) {f_are_bases : Addr} {fd_are_bases : FuncData} (c_are_bases : Ca P w K mg base C xa "are_bases" ["value"] 3 F_are_bases f_are_bases fd_are_bases)
    {f_are_counts : Addr} {fd_are_counts : FuncData} (c_are_counts : Ca P w K mg base C xa "are_counts" ["value", "many"] 3 F_are_counts f_are_counts fd_are_counts) {qual : Str} {f : Addr} (cdv : Value) (A : Around) (outer : List Env) (s : Shared) (H : Hp) (E : XK) (S : Addr → Prop) (hr : Room 3 (A.deeper (envOfC qual (defScope s_House___init__) s.heap.objs.size f cdv))) :
    PSs (cxOf CX0 P w K mg base ["self", "bases", "rooms"] qual (defScope s_House___init__) f cdv A outer s H E).nox (defBody s_House___init__)
      (tSeq (tIfS (tT ⟨K, C, E0, xa, S⟩ i1) tNever tNext) (tSeq (tIfS (tT ⟨K, C, E0, xa, S⟩ i2) tNever tNext) (tSeq (sFld K (tVar 0) (tE ⟨K, C, E0, xa, S⟩ i3) "_bases") (sFld K (tVar 0) (tE ⟨K, C, E0, xa, S⟩ i4) "_rooms")))) :=
  pss_cons (ps_if (dt_not (dt_val (d_ca c_are_bases rfl (hr.mono (by decide)) (by rfl) (da_cons (d_nm (pv 1)) da_nil)))) pss_never pss_nil)
    (pss_cons (ps_if (dt_not (dt_val (d_ca c_are_counts rfl (hr.mono (by decide)) (by rfl) (da_cons (d_nm (pv 2)) (da_cons (d_add mkL (d_call (o_len hC) (pe_callB call_len_seq (by rfl) T.len PySem.boot_len (da_cons (d_nm (pv 1)) da_nil))) d_int) da_nil))))) pss_never pss_nil)
    (pss_cons (ps_fld (pv 0) (d_call (o_tup) (pe_callTy call_tuple_of (by rfl) T.t_tuple PyProof.Rows.boot_tuple (da_cons (d_nm (pv 1)) da_nil))) rfl)
    (pss_one (ps_fld (pv 0) (d_call (o_tup) (pe_callTy call_tuple_of (by rfl) T.t_tuple PyProof.Rows.boot_tuple (da_cons (d_nm (pv 2)) da_nil))) rfl))))
theorem W_run' {α : Type} {f : M α} {e e0 : En} {x : α} (h : W f e fun a e' => a = x ∧ e' = e0) : f e = some (.ok x, e0) := by
  obtain ⟨a, e', h1, rfl, rfl⟩ := h
  exact h1
theorem W_tupL {e : En} {x : List D} {Q : D → En → Prop} : W (tupG [.lst x]) e Q = (x.length ≤ sizeLine ∧ Q (.tup x) e) := by
  unfold W tupG
  simp only [lstOf]
  exact Wa_newT
theorem intsOf_inv : ∀ {ds : List D} {ns : List Int}, intsOf ds = some ns → ds = ns.map D.int
  | [], ns, h => by cases h; rfl
  | d :: ds, ns, h => by
    cases d with
    | int i =>
      rw [intsOf] at h
      cases hm : intsOf ds with
      | none => rw [hm] at h; cases h
      | some ms => rw [hm] at h; cases h; rw [List.map_cons, intsOf_inv hm]
    | _ => cases h
theorem hF_House : ∀ d1 d2 c b r, F_House d1 d2 c = some (b, r) → let en : En := ⟨none :: some d1 :: some d2 :: List.replicate 0 none, c⟩
      i1 en = some (.ok false, en) ∧ i2 en = some (.ok false, en) ∧ i3 en = some (.ok (.tup (b.map D.int)), en) ∧ i4 en = some (.ok (.tup (r.map D.int)), en) := by
  intro d1 d2 c b r h
  unfold F_House at h
  split at h
  · rename_i x y
    split at h
    · rename_i b' r' hb hr
      split at h
      · rename_i hg
        cases h
        rw [intsOf_inv hb, intsOf_inv hr]
        refine ⟨W_run' ?_, W_run' ?_, W_run' ?_, W_run' ?_⟩
        · unfold i1
          try simp only [decide_true, decide_false, Bool.and_self, eq_self, W_loop0, WL_nil, true_or, or_true, or_false, W_seq, W_asg1, W_asgT, W_drop, W_ret, W_if, W_not, W_test, W_andV, W_notV, W_orV, W_andT, W_orT, W_bin, W_cons, W_nm, W_fn, W_fnK0, W_met, W_fld, W_pure, W_bind, W_isB, W_isLT, W_isH, W_add, W_sub, W_neg, W_ord, W_int, W_min, W_max, W_cat, W_part, W_sli, W_cutL, W_listL, W_listT, W_sumL, W_allL, W_itm, W_rng1, W_rng2, W_enu, W_zip', W_for, W_lc, W_app, W_sas, W_aug, W_par, W_lenL, W_lenT, W_lenS, W_iadd, W_isub, W_isBl, W_bit, Wa_newL, Wa_newT, Wa_newC, Wa_mul, Wa_div, Wa_mod, Wa_pow, Wa_ixL, Wa_ixT, Wa_ixC, Wa_lenC, Wa_mk, W_eqL, W_eqI, W_eqB, W_fail, W_cutS, W_cutC, startD, List.map_cons, List.map_nil, List.length_cons, List.length_nil, List.length_map, List.cons_append, List.nil_append, List.getElem?_cons_zero, List.getElem?_cons_succ, List.set_cons_zero, List.set_cons_succ, Option.some.injEq, exists_eq_left', List.replicate, Nat.reduceAdd, Nat.reduceSub, Nat.reduceMul, D.bl.injEq, D.int.injEq, D.hs.injEq, D.lst.injEq, D.ow.injEq, D.tup.injEq, List.cons.injEq, and_true, true_and, reduceCtorEq, Bool.not_true, Bool.not_false, false_implies, true_implies, forall_const, imp_self, Bool.false_eq_true, if_true, if_false, ↓reduceIte, Bool.true_eq_false, ty_ii, ty_bi, ty_li, ty_ti, ty_ib, ty_bb, ty_lb, ty_tb, ty_ll, ty_tl, ty_dl, okd_int, okd_bl, okd_lst, okd_hs, kin_hs, wipeD, Tg.st, setAll, exists_and_left, exists_eq_left, exists_eq', and_assoc, exists_and_right]
          refine fw_bases b hg.bl ?_
          rw [List.all_eq_true.mpr fun x hx => decide_eq_true (hg.2.2.1 x hx).1]
          try simp only [decide_true, decide_false, Bool.and_self, eq_self, W_loop0, WL_nil, true_or, or_true, or_false, W_seq, W_asg1, W_asgT, W_drop, W_ret, W_if, W_not, W_test, W_andV, W_notV, W_orV, W_andT, W_orT, W_bin, W_cons, W_nm, W_fn, W_fnK0, W_met, W_fld, W_pure, W_bind, W_isB, W_isLT, W_isH, W_add, W_sub, W_neg, W_ord, W_int, W_min, W_max, W_cat, W_part, W_sli, W_cutL, W_listL, W_listT, W_sumL, W_allL, W_itm, W_rng1, W_rng2, W_enu, W_zip', W_for, W_lc, W_app, W_sas, W_aug, W_par, W_lenL, W_lenT, W_lenS, W_iadd, W_isub, W_isBl, W_bit, Wa_newL, Wa_newT, Wa_newC, Wa_mul, Wa_div, Wa_mod, Wa_pow, Wa_ixL, Wa_ixT, Wa_ixC, Wa_lenC, Wa_mk, W_eqL, W_eqI, W_eqB, W_fail, W_cutS, W_cutC, startD, List.map_cons, List.map_nil, List.length_cons, List.length_nil, List.length_map, List.cons_append, List.nil_append, List.getElem?_cons_zero, List.getElem?_cons_succ, List.set_cons_zero, List.set_cons_succ, Option.some.injEq, exists_eq_left', List.replicate, Nat.reduceAdd, Nat.reduceSub, Nat.reduceMul, D.bl.injEq, D.int.injEq, D.hs.injEq, D.lst.injEq, D.ow.injEq, D.tup.injEq, List.cons.injEq, and_true, true_and, reduceCtorEq, Bool.not_true, Bool.not_false, false_implies, true_implies, forall_const, imp_self, Bool.false_eq_true, if_true, if_false, ↓reduceIte, Bool.true_eq_false, ty_ii, ty_bi, ty_li, ty_ti, ty_ib, ty_bb, ty_lb, ty_tb, ty_ll, ty_tl, ty_dl, okd_int, okd_bl, okd_lst, okd_hs, kin_hs, wipeD, Tg.st, setAll, exists_and_left, exists_eq_left, exists_eq', and_assoc, exists_and_right]
        · unfold i2
          try simp only [decide_true, decide_false, Bool.and_self, eq_self, W_loop0, WL_nil, true_or, or_true, or_false, W_seq, W_asg1, W_asgT, W_drop, W_ret, W_if, W_not, W_test, W_andV, W_notV, W_orV, W_andT, W_orT, W_bin, W_cons, W_nm, W_fn, W_fnK0, W_met, W_fld, W_pure, W_bind, W_isB, W_isLT, W_isH, W_add, W_sub, W_neg, W_ord, W_int, W_min, W_max, W_cat, W_part, W_sli, W_cutL, W_listL, W_listT, W_sumL, W_allL, W_itm, W_rng1, W_rng2, W_enu, W_zip', W_for, W_lc, W_app, W_sas, W_aug, W_par, W_lenL, W_lenT, W_lenS, W_iadd, W_isub, W_isBl, W_bit, Wa_newL, Wa_newT, Wa_newC, Wa_mul, Wa_div, Wa_mod, Wa_pow, Wa_ixL, Wa_ixT, Wa_ixC, Wa_lenC, Wa_mk, W_eqL, W_eqI, W_eqB, W_fail, W_cutS, W_cutC, startD, List.map_cons, List.map_nil, List.length_cons, List.length_nil, List.length_map, List.cons_append, List.nil_append, List.getElem?_cons_zero, List.getElem?_cons_succ, List.set_cons_zero, List.set_cons_succ, Option.some.injEq, exists_eq_left', List.replicate, Nat.reduceAdd, Nat.reduceSub, Nat.reduceMul, D.bl.injEq, D.int.injEq, D.hs.injEq, D.lst.injEq, D.ow.injEq, D.tup.injEq, List.cons.injEq, and_true, true_and, reduceCtorEq, Bool.not_true, Bool.not_false, false_implies, true_implies, forall_const, imp_self, Bool.false_eq_true, if_true, if_false, ↓reduceIte, Bool.true_eq_false, ty_ii, ty_bi, ty_li, ty_ti, ty_ib, ty_bb, ty_lb, ty_tb, ty_ll, ty_tl, ty_dl, okd_int, okd_bl, okd_lst, okd_hs, kin_hs, wipeD, Tg.st, setAll, exists_and_left, exists_eq_left, exists_eq', and_assoc, exists_and_right]
          refine fw_counts r _ hg.rl ?_
          rw [List.all_eq_true.mpr fun x hx => decide_eq_true (hg.2.2.2 x hx).1, decide_eq_true (by have := hg.2.1; omega)]
          try simp only [decide_true, decide_false, Bool.and_self, eq_self, W_loop0, WL_nil, true_or, or_true, or_false, W_seq, W_asg1, W_asgT, W_drop, W_ret, W_if, W_not, W_test, W_andV, W_notV, W_orV, W_andT, W_orT, W_bin, W_cons, W_nm, W_fn, W_fnK0, W_met, W_fld, W_pure, W_bind, W_isB, W_isLT, W_isH, W_add, W_sub, W_neg, W_ord, W_int, W_min, W_max, W_cat, W_part, W_sli, W_cutL, W_listL, W_listT, W_sumL, W_allL, W_itm, W_rng1, W_rng2, W_enu, W_zip', W_for, W_lc, W_app, W_sas, W_aug, W_par, W_lenL, W_lenT, W_lenS, W_iadd, W_isub, W_isBl, W_bit, Wa_newL, Wa_newT, Wa_newC, Wa_mul, Wa_div, Wa_mod, Wa_pow, Wa_ixL, Wa_ixT, Wa_ixC, Wa_lenC, Wa_mk, W_eqL, W_eqI, W_eqB, W_fail, W_cutS, W_cutC, startD, List.map_cons, List.map_nil, List.length_cons, List.length_nil, List.length_map, List.cons_append, List.nil_append, List.getElem?_cons_zero, List.getElem?_cons_succ, List.set_cons_zero, List.set_cons_succ, Option.some.injEq, exists_eq_left', List.replicate, Nat.reduceAdd, Nat.reduceSub, Nat.reduceMul, D.bl.injEq, D.int.injEq, D.hs.injEq, D.lst.injEq, D.ow.injEq, D.tup.injEq, List.cons.injEq, and_true, true_and, reduceCtorEq, Bool.not_true, Bool.not_false, false_implies, true_implies, forall_const, imp_self, Bool.false_eq_true, if_true, if_false, ↓reduceIte, Bool.true_eq_false, ty_ii, ty_bi, ty_li, ty_ti, ty_ib, ty_bb, ty_lb, ty_tb, ty_ll, ty_tl, ty_dl, okd_int, okd_bl, okd_lst, okd_hs, kin_hs, wipeD, Tg.st, setAll, exists_and_left, exists_eq_left, exists_eq', and_assoc, exists_and_right]
        · unfold i3
          try simp only [W_tupL, decide_true, decide_false, Bool.and_self, eq_self, W_loop0, WL_nil, true_or, or_true, or_false, W_seq, W_asg1, W_asgT, W_drop, W_ret, W_if, W_not, W_test, W_andV, W_notV, W_orV, W_andT, W_orT, W_bin, W_cons, W_nm, W_fn, W_fnK0, W_met, W_fld, W_pure, W_bind, W_isB, W_isLT, W_isH, W_add, W_sub, W_neg, W_ord, W_int, W_min, W_max, W_cat, W_part, W_sli, W_cutL, W_listL, W_listT, W_sumL, W_allL, W_itm, W_rng1, W_rng2, W_enu, W_zip', W_for, W_lc, W_app, W_sas, W_aug, W_par, W_lenL, W_lenT, W_lenS, W_iadd, W_isub, W_isBl, W_bit, Wa_newL, Wa_newT, Wa_newC, Wa_mul, Wa_div, Wa_mod, Wa_pow, Wa_ixL, Wa_ixT, Wa_ixC, Wa_lenC, Wa_mk, W_eqL, W_eqI, W_eqB, W_fail, W_cutS, W_cutC, startD, List.map_cons, List.map_nil, List.length_cons, List.length_nil, List.length_map, List.cons_append, List.nil_append, List.getElem?_cons_zero, List.getElem?_cons_succ, List.set_cons_zero, List.set_cons_succ, Option.some.injEq, exists_eq_left', List.replicate, Nat.reduceAdd, Nat.reduceSub, Nat.reduceMul, D.bl.injEq, D.int.injEq, D.hs.injEq, D.lst.injEq, D.ow.injEq, D.tup.injEq, List.cons.injEq, and_true, true_and, reduceCtorEq, Bool.not_true, Bool.not_false, false_implies, true_implies, forall_const, imp_self, Bool.false_eq_true, if_true, if_false, ↓reduceIte, Bool.true_eq_false, ty_ii, ty_bi, ty_li, ty_ti, ty_ib, ty_bb, ty_lb, ty_tb, ty_ll, ty_tl, ty_dl, okd_int, okd_bl, okd_lst, okd_hs, kin_hs, wipeD, Tg.st, setAll, exists_and_left, exists_eq_left, exists_eq', and_assoc, exists_and_right]
          exact szl hg.bl
        · unfold i4
          try simp only [W_tupL, decide_true, decide_false, Bool.and_self, eq_self, W_loop0, WL_nil, true_or, or_true, or_false, W_seq, W_asg1, W_asgT, W_drop, W_ret, W_if, W_not, W_test, W_andV, W_notV, W_orV, W_andT, W_orT, W_bin, W_cons, W_nm, W_fn, W_fnK0, W_met, W_fld, W_pure, W_bind, W_isB, W_isLT, W_isH, W_add, W_sub, W_neg, W_ord, W_int, W_min, W_max, W_cat, W_part, W_sli, W_cutL, W_listL, W_listT, W_sumL, W_allL, W_itm, W_rng1, W_rng2, W_enu, W_zip', W_for, W_lc, W_app, W_sas, W_aug, W_par, W_lenL, W_lenT, W_lenS, W_iadd, W_isub, W_isBl, W_bit, Wa_newL, Wa_newT, Wa_newC, Wa_mul, Wa_div, Wa_mod, Wa_pow, Wa_ixL, Wa_ixT, Wa_ixC, Wa_lenC, Wa_mk, W_eqL, W_eqI, W_eqB, W_fail, W_cutS, W_cutC, startD, List.map_cons, List.map_nil, List.length_cons, List.length_nil, List.length_map, List.cons_append, List.nil_append, List.getElem?_cons_zero, List.getElem?_cons_succ, List.set_cons_zero, List.set_cons_succ, Option.some.injEq, exists_eq_left', List.replicate, Nat.reduceAdd, Nat.reduceSub, Nat.reduceMul, D.bl.injEq, D.int.injEq, D.hs.injEq, D.lst.injEq, D.ow.injEq, D.tup.injEq, List.cons.injEq, and_true, true_and, reduceCtorEq, Bool.not_true, Bool.not_false, false_implies, true_implies, forall_const, imp_self, Bool.false_eq_true, if_true, if_false, ↓reduceIte, Bool.true_eq_false, ty_ii, ty_bi, ty_li, ty_ti, ty_ib, ty_bb, ty_lb, ty_tb, ty_ll, ty_tl, ty_dl, okd_int, okd_bl, okd_lst, okd_hs, kin_hs, wipeD, Tg.st, setAll, exists_and_left, exists_eq_left, exists_eq', and_assoc, exists_and_right]
          exact szl hg.rl
      · cases h
    · cases h
  · cases h
end
end K4

/-! K4J: houses that are alike. -/
namespace K4
open PySem PySem.Spec PyProof.Rows L2 CD
section
variable {P : Program} {w : World} {K : PySem.W.Frag} {mg : Str → Option Value} {base : Heap} {C : Hc} {xa : Str → Addr}
theorem toP_tup {c : Cells} {n : Nat} (ns : List Int) : toP c (n + 2) (.tup (ns.map D.int)) = some (.tuple (ns.map PyData.int)) := by
  rw [toP]
  have h : ∀ ns : List Int, mapO (toP c (n + 1)) (ns.map D.int) = some (ns.map PyData.int) := fun ns => by
    induction ns with
    | nil => rfl
    | cons i ns ih => rw [List.map_cons, mapO, ih]; rfl
  rw [h]
  rfl
theorem W_eqT {e : En} {Q : D → En → Prop} {a b : List Int} : W (eqG false (.tup (a.map D.int)) (.tup (b.map D.int))) e Q = Q (.bl (decide (a = b))) e := W_some (by
  unfold eqG
  rw [toP_tup, toP_tup]
  dsimp only
  have s1 : ∀ ns : List Int, PySem.SeqAt.shaped (.tuple (ns.map PyData.int)) = true := fun ns => by simp [PySem.SeqAt.shaped, PyData.canLay0, PyData.depth, canLay_ints, depth_ints]
  have s2 : PyData.eqv (.tuple (a.map PyData.int)) (.tuple (b.map PyData.int)) = decide (a = b) := by
    have := eqv_ints a b
    simp only [PyData.eqv] at this ⊢
    exact this
  rw [if_pos ⟨s1 a, s1 b⟩, s2]
  rfl)
theorem sem_eq (b r b' r' : List Int) (c : Cells) : F_House___eq__ [.hs b r, .hs b' r'] c = some (.ok (.bl (decide (b = b' ∧ r = r'))), c) := by
  have h : FW F_House___eq__ [.hs b r, .hs b' r'] c fun d c' => d = .bl (decide (b = b' ∧ r = r')) ∧ c' = c := by
    refine FW_runBx rfl ?_
    unfold b_House___eq__
    try simp only [W_eqT, decide_true, decide_false, Bool.and_self, eq_self, W_loop0, WL_nil, true_or, or_true, or_false, W_seq, W_asg1, W_asgT, W_drop, W_ret, W_if, W_not, W_test, W_andV, W_notV, W_orV, W_andT, W_orT, W_bin, W_cons, W_nm, W_fn, W_fnK0, W_met, W_fld, W_pure, W_bind, W_isB, W_isLT, W_isH, W_add, W_sub, W_neg, W_ord, W_int, W_min, W_max, W_cat, W_part, W_sli, W_cutL, W_listL, W_listT, W_sumL, W_allL, W_itm, W_rng1, W_rng2, W_enu, W_zip', W_for, W_lc, W_app, W_sas, W_aug, W_par, W_lenL, W_lenT, W_lenS, W_iadd, W_isub, W_isBl, W_bit, Wa_newL, Wa_newT, Wa_newC, Wa_mul, Wa_div, Wa_mod, Wa_pow, Wa_ixL, Wa_ixT, Wa_ixC, Wa_lenC, Wa_mk, W_eqL, W_eqI, W_eqB, W_fail, W_cutS, W_cutC, startD, List.map_cons, List.map_nil, List.length_cons, List.length_nil, List.length_map, List.cons_append, List.nil_append, List.getElem?_cons_zero, List.getElem?_cons_succ, List.set_cons_zero, List.set_cons_succ, Option.some.injEq, exists_eq_left', List.replicate, Nat.reduceAdd, Nat.reduceSub, Nat.reduceMul, D.bl.injEq, D.int.injEq, D.hs.injEq, D.lst.injEq, D.ow.injEq, D.tup.injEq, List.cons.injEq, and_true, true_and, reduceCtorEq, Bool.not_true, Bool.not_false, false_implies, true_implies, forall_const, imp_self, Bool.false_eq_true, if_true, if_false, ↓reduceIte, Bool.true_eq_false, ty_ii, ty_bi, ty_li, ty_ti, ty_ib, ty_bb, ty_lb, ty_tb, ty_ll, ty_tl, ty_dl, okd_int, okd_bl, okd_lst, okd_hs, kin_hs, wipeD, Tg.st, setAll, exists_and_left, exists_eq_left, exists_eq', and_assoc, exists_and_right]
    refine ⟨fun e => ?_, fun e => ?_⟩
    · try simp only [W_eqT, decide_true, decide_false, Bool.and_self, eq_self, W_loop0, WL_nil, true_or, or_true, or_false, W_seq, W_asg1, W_asgT, W_drop, W_ret, W_if, W_not, W_test, W_andV, W_notV, W_orV, W_andT, W_orT, W_bin, W_cons, W_nm, W_fn, W_fnK0, W_met, W_fld, W_pure, W_bind, W_isB, W_isLT, W_isH, W_add, W_sub, W_neg, W_ord, W_int, W_min, W_max, W_cat, W_part, W_sli, W_cutL, W_listL, W_listT, W_sumL, W_allL, W_itm, W_rng1, W_rng2, W_enu, W_zip', W_for, W_lc, W_app, W_sas, W_aug, W_par, W_lenL, W_lenT, W_lenS, W_iadd, W_isub, W_isBl, W_bit, Wa_newL, Wa_newT, Wa_newC, Wa_mul, Wa_div, Wa_mod, Wa_pow, Wa_ixL, Wa_ixT, Wa_ixC, Wa_lenC, Wa_mk, W_eqL, W_eqI, W_eqB, W_fail, W_cutS, W_cutC, startD, List.map_cons, List.map_nil, List.length_cons, List.length_nil, List.length_map, List.cons_append, List.nil_append, List.getElem?_cons_zero, List.getElem?_cons_succ, List.set_cons_zero, List.set_cons_succ, Option.some.injEq, exists_eq_left', List.replicate, Nat.reduceAdd, Nat.reduceSub, Nat.reduceMul, D.bl.injEq, D.int.injEq, D.hs.injEq, D.lst.injEq, D.ow.injEq, D.tup.injEq, List.cons.injEq, and_true, true_and, reduceCtorEq, Bool.not_true, Bool.not_false, false_implies, true_implies, forall_const, imp_self, Bool.false_eq_true, if_true, if_false, ↓reduceIte, Bool.true_eq_false, ty_ii, ty_bi, ty_li, ty_ti, ty_ib, ty_bb, ty_lb, ty_tb, ty_ll, ty_tl, ty_dl, okd_int, okd_bl, okd_lst, okd_hs, kin_hs, wipeD, Tg.st, setAll, exists_and_left, exists_eq_left, exists_eq', and_assoc, exists_and_right]
      have e := of_decide_eq_true e
      exact End.plain (x' := []) (by simp) rfl ⟨by simp [e], rfl⟩
    · have e := of_decide_eq_false e
      exact End.plain (x' := []) (by simp) rfl ⟨by simp [e], rfl⟩
  obtain ⟨d, c', h1, rfl, rfl⟩ := h
  exact h1
theorem qm_mk (T : Txt mg C) (hk : HK C) (hC : C.K = K) {f : Addr} {fd : FuncData} (Fu : Fun K "__eq__" "House.__eq__" s_House___eq__ f fd) (me : Meth K C.a "__eq__" f) (ne : PySem.W.findIn K (.ref C.a) "__ne__" = some (some (.builtin "object.__ne__"))) :
    Qm P w K mg base C xa 1 F_House___eq__ f fd :=
  ⟨ne, me.at_, me.fn, hC ▸ hk.hm, fn_ok (ps := ["self", "other"]) Fu sc_House___eq__ (fun cdv A outer s H E S hr => der_House___eq__ T hk hC cdv A outer s H E S hr) runBx_ok, Fu.binds (ps := ["self", "other"]) fun _ _ _ _ _ _ us hl => match us, hl with | [_, _], _ => rfl, sem_eq⟩
end
end K4

/-! K4C: each function, as its callers want it; printed by gen.py. -/
namespace K4
open PySem PySem.Spec PyProof.Rows L2 CD
section
variable {P : Program} {w : World} {K : PySem.W.Frag} {mg : Str → Option Value} {base : Heap} {C : Hc} {xa : Str → Addr}
theorem ca_is_whole (T : Txt mg C) (hk : HK C) (hC : C.K = K) {f : Addr} {fd : FuncData} (Fu : Fun K "is_whole" "is_whole" s_is_whole f fd) (gm : mg "is_whole" = some (.ref f)) : Ca P w K mg base C xa "is_whole" ["value"] 1 F_is_whole f fd := ca_mk Fu sc_is_whole gm (Fu.binds (ps := ["value"]) fun _ _ _ _ _ _ us hl => match us, hl with | [_], _ => rfl) (fun cdv A outer s H E S hr => der_is_whole T hk hC cdv A outer s H E S hr)
theorem ca_is_count (T : Txt mg C) (hk : HK C) (hC : C.K = K) {f_is_whole : Addr} {fd_is_whole : FuncData} (c_is_whole : Ca P w K mg base C xa "is_whole" ["value"] 1 F_is_whole f_is_whole fd_is_whole) {f : Addr} {fd : FuncData} (Fu : Fun K "is_count" "is_count" s_is_count f fd) (gm : mg "is_count" = some (.ref f)) : Ca P w K mg base C xa "is_count" ["value"] 2 F_is_count f fd := ca_mk Fu sc_is_count gm (Fu.binds (ps := ["value"]) fun _ _ _ _ _ _ us hl => match us, hl with | [_], _ => rfl) (fun cdv A outer s H E S hr => der_is_count T hk hC c_is_whole cdv A outer s H E S hr)
theorem ca_is_count_below (T : Txt mg C) (hk : HK C) (hC : C.K = K) {f_is_count : Addr} {fd_is_count : FuncData} (c_is_count : Ca P w K mg base C xa "is_count" ["value"] 2 F_is_count f_is_count fd_is_count) {f : Addr} {fd : FuncData} (Fu : Fun K "is_count_below" "is_count_below" s_is_count_below f fd) (gm : mg "is_count_below" = some (.ref f)) : Ca P w K mg base C xa "is_count_below" ["value", "bound"] 3 F_is_count_below f fd := ca_mk Fu sc_is_count_below gm (Fu.binds (ps := ["value", "bound"]) fun _ _ _ _ _ _ us hl => match us, hl with | [_, _], _ => rfl) (fun cdv A outer s H E S hr => der_is_count_below T hk hC c_is_count cdv A outer s H E S hr)
theorem ca_is_base (T : Txt mg C) (hk : HK C) (hC : C.K = K) {f_is_whole : Addr} {fd_is_whole : FuncData} (c_is_whole : Ca P w K mg base C xa "is_whole" ["value"] 1 F_is_whole f_is_whole fd_is_whole) {f : Addr} {fd : FuncData} (Fu : Fun K "is_base" "is_base" s_is_base f fd) (gm : mg "is_base" = some (.ref f)) : Ca P w K mg base C xa "is_base" ["value"] 2 F_is_base f fd := ca_mk Fu sc_is_base gm (Fu.binds (ps := ["value"]) fun _ _ _ _ _ _ us hl => match us, hl with | [_], _ => rfl) (fun cdv A outer s H E S hr => der_is_base T hk hC c_is_whole cdv A outer s H E S hr)
theorem ca_are_bases (T : Txt mg C) (hk : HK C) (hC : C.K = K) {f_is_base : Addr} {fd_is_base : FuncData} (c_is_base : Ca P w K mg base C xa "is_base" ["value"] 2 F_is_base f_is_base fd_is_base) {f : Addr} {fd : FuncData} (Fu : Fun K "are_bases" "are_bases" s_are_bases f fd) (gm : mg "are_bases" = some (.ref f)) : Ca P w K mg base C xa "are_bases" ["value"] 3 F_are_bases f fd := ca_mk Fu sc_are_bases gm (Fu.binds (ps := ["value"]) fun _ _ _ _ _ _ us hl => match us, hl with | [_], _ => rfl) (fun cdv A outer s H E S hr => der_are_bases T hk hC c_is_base cdv A outer s H E S hr)
theorem ca_are_counts (T : Txt mg C) (hk : HK C) (hC : C.K = K) {f_is_count : Addr} {fd_is_count : FuncData} (c_is_count : Ca P w K mg base C xa "is_count" ["value"] 2 F_is_count f_is_count fd_is_count) {f : Addr} {fd : FuncData} (Fu : Fun K "are_counts" "are_counts" s_are_counts f fd) (gm : mg "are_counts" = some (.ref f)) : Ca P w K mg base C xa "are_counts" ["value", "many"] 3 F_are_counts f fd := ca_mk Fu sc_are_counts gm (Fu.binds (ps := ["value", "many"]) fun _ _ _ _ _ _ us hl => match us, hl with | [_, _], _ => rfl) (fun cdv A outer s H E S hr => der_are_counts T hk hC c_is_count cdv A outer s H E S hr)
theorem ca_are_counts_within (T : Txt mg C) (hk : HK C) (hC : C.K = K) {f_are_counts : Addr} {fd_are_counts : FuncData} (c_are_counts : Ca P w K mg base C xa "are_counts" ["value", "many"] 3 F_are_counts f_are_counts fd_are_counts) {f : Addr} {fd : FuncData} (Fu : Fun K "are_counts_within" "are_counts_within" s_are_counts_within f fd) (gm : mg "are_counts_within" = some (.ref f)) : Ca P w K mg base C xa "are_counts_within" ["value", "rooms"] 4 F_are_counts_within f fd := ca_mk Fu sc_are_counts_within gm (Fu.binds (ps := ["value", "rooms"]) fun _ _ _ _ _ _ us hl => match us, hl with | [_, _], _ => rfl) (fun cdv A outer s H E S hr => der_are_counts_within T hk hC c_are_counts cdv A outer s H E S hr)
theorem ca_House_bases (T : Txt mg C) (hk : HK C) (hC : C.K = K) {f : Addr} {fd : FuncData} (Fu : Fun K "bases" "House.bases" s_House_bases f fd) (me : Meth K C.a "bases" f) : Cm P w K mg base C xa "bases" 1 F_House_bases f fd := cm_mk hk hC Fu sc_House_bases me (Fu.binds (ps := ["self"]) fun _ _ _ _ _ _ us hl => match us, hl with | [_], _ => rfl) (fun cdv A outer s H E S hr => der_House_bases T hk hC cdv A outer s H E S hr)
theorem ca_House_rooms (T : Txt mg C) (hk : HK C) (hC : C.K = K) {f : Addr} {fd : FuncData} (Fu : Fun K "rooms" "House.rooms" s_House_rooms f fd) (me : Meth K C.a "rooms" f) : Cm P w K mg base C xa "rooms" 1 F_House_rooms f fd := cm_mk hk hC Fu sc_House_rooms me (Fu.binds (ps := ["self"]) fun _ _ _ _ _ _ us hl => match us, hl with | [_], _ => rfl) (fun cdv A outer s H E S hr => der_House_rooms T hk hC cdv A outer s H E S hr)
theorem ca_House_rooms_x (T : Txt mg C) (hk : HK C) (hC : C.K = K) {f : Addr} {fd : FuncData} (Fu : Fun K "rooms" "House.rooms" s_House_rooms f fd) (me : Meth K C.a "rooms" f) : Cm P w K mg base C xa "rooms" 1 F_House_rooms_x f fd := cm_mk hk hC Fu sc_House_rooms me (Fu.binds (ps := ["self"]) fun _ _ _ _ _ _ us hl => match us, hl with | [_], _ => rfl) (fun cdv A outer s H E S hr => der_House_rooms T hk hC cdv A outer s H E S hr)
theorem ca_House_places (T : Txt mg C) (hk : HK C) (hC : C.K = K) {f : Addr} {fd : FuncData} (Fu : Fun K "places" "House.places" s_House_places f fd) (me : Meth K C.a "places" f) : Cm P w K mg base C xa "places" 1 F_House_places f fd := cm_mk hk hC Fu sc_House_places me (Fu.binds (ps := ["self"]) fun _ _ _ _ _ _ us hl => match us, hl with | [_], _ => rfl) (fun cdv A outer s H E S hr => der_House_places T hk hC cdv A outer s H E S hr)
theorem ca_check_house (T : Txt mg C) (hk : HK C) (hC : C.K = K) {f : Addr} {fd : FuncData} (Fu : Fun K "check_house" "check_house" s_check_house f fd) (gm : mg "check_house" = some (.ref f)) : Ca P w K mg base C xa "check_house" ["house"] 1 F_check_house f fd := ca_mk Fu sc_check_house gm (Fu.binds (ps := ["house"]) fun _ _ _ _ _ _ us hl => match us, hl with | [_], _ => rfl) (fun cdv A outer s H E S hr => der_check_house T hk hC cdv A outer s H E S hr)
theorem ca_check_place (T : Txt mg C) (hk : HK C) (hC : C.K = K) {f_is_count_below : Addr} {fd_is_count_below : FuncData} (c_is_count_below : Ca P w K mg base C xa "is_count_below" ["value", "bound"] 3 F_is_count_below f_is_count_below fd_is_count_below) {f_House_places : Addr} {fd_House_places : FuncData} (c_House_places : Cm P w K mg base C xa "places" 1 F_House_places f_House_places fd_House_places) {f : Addr} {fd : FuncData} (Fu : Fun K "check_place" "check_place" s_check_place f fd) (gm : mg "check_place" = some (.ref f)) : Ca P w K mg base C xa "check_place" ["house", "place"] 4 F_check_place f fd := ca_mk Fu sc_check_place gm (Fu.binds (ps := ["house", "place"]) fun _ _ _ _ _ _ us hl => match us, hl with | [_, _], _ => rfl) (fun cdv A outer s H E S hr => der_check_place T hk hC c_is_count_below c_House_places cdv A outer s H E S hr)
theorem ca_check_like_houses (T : Txt mg C) (hk : HK C) (hC : C.K = K) {f_check_house : Addr} {fd_check_house : FuncData} (c_check_house : Ca P w K mg base C xa "check_house" ["house"] 1 F_check_house f_check_house fd_check_house) {f_House_bases : Addr} {fd_House_bases : FuncData} (c_House_bases : Cm P w K mg base C xa "bases" 1 F_House_bases f_House_bases fd_House_bases) {f : Addr} {fd : FuncData} (Fu : Fun K "check_like_houses" "check_like_houses" s_check_like_houses f fd) (gm : mg "check_like_houses" = some (.ref f)) : Ca P w K mg base C xa "check_like_houses" ["one", "other"] 2 F_check_like_houses f fd := ca_mk Fu sc_check_like_houses gm (Fu.binds (ps := ["one", "other"]) fun _ _ _ _ _ _ us hl => match us, hl with | [_, _], _ => rfl) (fun cdv A outer s H E S hr => der_check_like_houses T hk hC c_check_house c_House_bases cdv A outer s H E S hr)
theorem ca_weights (T : Txt mg C) (hk : HK C) (hC : C.K = K) {f_check_house : Addr} {fd_check_house : FuncData} (c_check_house : Ca P w K mg base C xa "check_house" ["house"] 1 F_check_house f_check_house fd_check_house) {f_House_bases : Addr} {fd_House_bases : FuncData} (c_House_bases : Cm P w K mg base C xa "bases" 1 F_House_bases f_House_bases fd_House_bases) {f : Addr} {fd : FuncData} (Fu : Fun K "weights" "weights" s_weights f fd) (gm : mg "weights" = some (.ref f)) : Ca P w K mg base C xa "weights" ["house"] 2 F_weights f fd := ca_mk Fu sc_weights gm (Fu.binds (ps := ["house"]) fun _ _ _ _ _ _ us hl => match us, hl with | [_], _ => rfl) (fun cdv A outer s H E S hr => der_weights T hk hC c_check_house c_House_bases cdv A outer s H E S hr)
theorem ca_held_up_to (T : Txt mg C) (hk : HK C) (hC : C.K = K) {f_check_house : Addr} {fd_check_house : FuncData} (c_check_house : Ca P w K mg base C xa "check_house" ["house"] 1 F_check_house f_check_house fd_check_house) {f_weights : Addr} {fd_weights : FuncData} (c_weights : Ca P w K mg base C xa "weights" ["house"] 2 F_weights f_weights fd_weights) {f_House_rooms : Addr} {fd_House_rooms : FuncData} (c_House_rooms : Cm P w K mg base C xa "rooms" 1 F_House_rooms f_House_rooms fd_House_rooms) {f : Addr} {fd : FuncData} (Fu : Fun K "held_up_to" "held_up_to" s_held_up_to f fd) (gm : mg "held_up_to" = some (.ref f)) : Ca P w K mg base C xa "held_up_to" ["house"] 3 F_held_up_to f fd := ca_mk Fu sc_held_up_to gm (Fu.binds (ps := ["house"]) fun _ _ _ _ _ _ us hl => match us, hl with | [_], _ => rfl) (fun cdv A outer s H E S hr => der_held_up_to T hk hC c_check_house c_weights c_House_rooms cdv A outer s H E S hr)
theorem ca_many_rows (T : Txt mg C) (hk : HK C) (hC : C.K = K) {f_check_house : Addr} {fd_check_house : FuncData} (c_check_house : Ca P w K mg base C xa "check_house" ["house"] 1 F_check_house f_check_house fd_check_house) {f_House_rooms : Addr} {fd_House_rooms : FuncData} (c_House_rooms : Cm P w K mg base C xa "rooms" 1 F_House_rooms f_House_rooms fd_House_rooms) {f : Addr} {fd : FuncData} (Fu : Fun K "many_rows" "many_rows" s_many_rows f fd) (gm : mg "many_rows" = some (.ref f)) : Ca P w K mg base C xa "many_rows" ["house"] 2 F_many_rows f fd := ca_mk Fu sc_many_rows gm (Fu.binds (ps := ["house"]) fun _ _ _ _ _ _ us hl => match us, hl with | [_], _ => rfl) (fun cdv A outer s H E S hr => der_many_rows T hk hC c_check_house c_House_rooms cdv A outer s H E S hr)
theorem ca_is_within (T : Txt mg C) (hk : HK C) (hC : C.K = K) {f_check_house : Addr} {fd_check_house : FuncData} (c_check_house : Ca P w K mg base C xa "check_house" ["house"] 1 F_check_house f_check_house fd_check_house) {f_House_bases : Addr} {fd_House_bases : FuncData} (c_House_bases : Cm P w K mg base C xa "bases" 1 F_House_bases f_House_bases fd_House_bases) {f_are_counts_within : Addr} {fd_are_counts_within : FuncData} (c_are_counts_within : Ca P w K mg base C xa "are_counts_within" ["value", "rooms"] 4 F_are_counts_within f_are_counts_within fd_are_counts_within) {f_House_rooms : Addr} {fd_House_rooms : FuncData} (c_House_rooms : Cm P w K mg base C xa "rooms" 1 F_House_rooms f_House_rooms fd_House_rooms) {f : Addr} {fd : FuncData} (Fu : Fun K "is_within" "is_within" s_is_within f fd) (gm : mg "is_within" = some (.ref f)) : Ca P w K mg base C xa "is_within" ["one", "other"] 5 F_is_within f fd := ca_mk Fu sc_is_within gm (Fu.binds (ps := ["one", "other"]) fun _ _ _ _ _ _ us hl => match us, hl with | [_, _], _ => rfl) (fun cdv A outer s H E S hr => der_is_within T hk hC c_check_house c_House_bases c_are_counts_within c_House_rooms cdv A outer s H E S hr)
theorem ca_lesser_house (T : Txt mg C) (hk : HK C) (hC : C.K = K) {f_check_like_houses : Addr} {fd_check_like_houses : FuncData} (c_check_like_houses : Ca P w K mg base C xa "check_like_houses" ["one", "other"] 2 F_check_like_houses f_check_like_houses fd_check_like_houses) {fI : Addr} {fdI : FuncData} (M : HMk P w K mg base C xa 4 F_House fI fdI) {f_House_rooms : Addr} {fd_House_rooms : FuncData} (c_House_rooms : Cm P w K mg base C xa "rooms" 1 F_House_rooms f_House_rooms fd_House_rooms) {f_House_bases : Addr} {fd_House_bases : FuncData} (c_House_bases : Cm P w K mg base C xa "bases" 1 F_House_bases f_House_bases fd_House_bases) {f : Addr} {fd : FuncData} (Fu : Fun K "lesser_house" "lesser_house" s_lesser_house f fd) (gm : mg "lesser_house" = some (.ref f)) : Ca P w K mg base C xa "lesser_house" ["one", "other"] 6 F_lesser_house f fd := ca_mk Fu sc_lesser_house gm (Fu.binds (ps := ["one", "other"]) fun _ _ _ _ _ _ us hl => match us, hl with | [_, _], _ => rfl) (fun cdv A outer s H E S hr => der_lesser_house T hk hC c_check_like_houses M c_House_rooms c_House_bases cdv A outer s H E S hr)
theorem ca_greater_house (T : Txt mg C) (hk : HK C) (hC : C.K = K) {f_check_like_houses : Addr} {fd_check_like_houses : FuncData} (c_check_like_houses : Ca P w K mg base C xa "check_like_houses" ["one", "other"] 2 F_check_like_houses f_check_like_houses fd_check_like_houses) {fI : Addr} {fdI : FuncData} (M : HMk P w K mg base C xa 4 F_House fI fdI) {f_House_rooms : Addr} {fd_House_rooms : FuncData} (c_House_rooms : Cm P w K mg base C xa "rooms" 1 F_House_rooms f_House_rooms fd_House_rooms) {f_House_bases : Addr} {fd_House_bases : FuncData} (c_House_bases : Cm P w K mg base C xa "bases" 1 F_House_bases f_House_bases fd_House_bases) {f : Addr} {fd : FuncData} (Fu : Fun K "greater_house" "greater_house" s_greater_house f fd) (gm : mg "greater_house" = some (.ref f)) : Ca P w K mg base C xa "greater_house" ["one", "other"] 6 F_greater_house f fd := ca_mk Fu sc_greater_house gm (Fu.binds (ps := ["one", "other"]) fun _ _ _ _ _ _ us hl => match us, hl with | [_, _], _ => rfl) (fun cdv A outer s H E S hr => der_greater_house T hk hC c_check_like_houses M c_House_rooms c_House_bases cdv A outer s H E S hr)
theorem ca_with_room (T : Txt mg C) (hk : HK C) (hC : C.K = K) {f_check_house : Addr} {fd_check_house : FuncData} (c_check_house : Ca P w K mg base C xa "check_house" ["house"] 1 F_check_house f_check_house fd_check_house) {f_check_place : Addr} {fd_check_place : FuncData} (c_check_place : Ca P w K mg base C xa "check_place" ["house", "place"] 4 F_check_place f_check_place fd_check_place) {f_is_count : Addr} {fd_is_count : FuncData} (c_is_count : Ca P w K mg base C xa "is_count" ["value"] 2 F_is_count f_is_count fd_is_count) {f_House_rooms_x : Addr} {fd_House_rooms_x : FuncData} (c_House_rooms_x : Cm P w K mg base C xa "rooms" 1 F_House_rooms_x f_House_rooms_x fd_House_rooms_x) {fI : Addr} {fdI : FuncData} (M : HMk P w K mg base C xa 4 F_House fI fdI) {f_House_bases : Addr} {fd_House_bases : FuncData} (c_House_bases : Cm P w K mg base C xa "bases" 1 F_House_bases f_House_bases fd_House_bases) {f : Addr} {fd : FuncData} (Fu : Fun K "with_room" "with_room" s_with_room f fd) (gm : mg "with_room" = some (.ref f)) : Ca P w K mg base C xa "with_room" ["house", "place", "room"] 6 F_with_room f fd := ca_mk Fu sc_with_room gm (Fu.binds (ps := ["house", "place", "room"]) fun _ _ _ _ _ _ us hl => match us, hl with | [_, _, _], _ => rfl) (fun cdv A outer s H E S hr => der_with_room T hk hC c_check_house c_check_place c_is_count c_House_rooms_x M c_House_bases cdv A outer s H E S hr)
theorem ca_stretch (T : Txt mg C) (hk : HK C) (hC : C.K = K) {f_check_house : Addr} {fd_check_house : FuncData} (c_check_house : Ca P w K mg base C xa "check_house" ["house"] 1 F_check_house f_check_house fd_check_house) {f_check_place : Addr} {fd_check_place : FuncData} (c_check_place : Ca P w K mg base C xa "check_place" ["house", "place"] 4 F_check_place f_check_place fd_check_place) {fI : Addr} {fdI : FuncData} (M : HMk P w K mg base C xa 4 F_House fI fdI) {f_House_rooms : Addr} {fd_House_rooms : FuncData} (c_House_rooms : Cm P w K mg base C xa "rooms" 1 F_House_rooms f_House_rooms fd_House_rooms) {f_House_bases : Addr} {fd_House_bases : FuncData} (c_House_bases : Cm P w K mg base C xa "bases" 1 F_House_bases f_House_bases fd_House_bases) {f : Addr} {fd : FuncData} (Fu : Fun K "stretch" "stretch" s_stretch f fd) (gm : mg "stretch" = some (.ref f)) : Ca P w K mg base C xa "stretch" ["house", "first", "last"] 6 F_stretch f fd := ca_mk Fu sc_stretch gm (Fu.binds (ps := ["house", "first", "last"]) fun _ _ _ _ _ _ us hl => match us, hl with | [_, _, _], _ => rfl) (fun cdv A outer s H E S hr => der_stretch T hk hC c_check_house c_check_place M c_House_rooms c_House_bases cdv A outer s H E S hr)
theorem ca_set_behind (T : Txt mg C) (hk : HK C) (hC : C.K = K) {f_check_house : Addr} {fd_check_house : FuncData} (c_check_house : Ca P w K mg base C xa "check_house" ["house"] 1 F_check_house f_check_house fd_check_house) {f_is_base : Addr} {fd_is_base : FuncData} (c_is_base : Ca P w K mg base C xa "is_base" ["value"] 2 F_is_base f_is_base fd_is_base) {fI : Addr} {fdI : FuncData} (M : HMk P w K mg base C xa 4 F_House fI fdI) {f_House_rooms : Addr} {fd_House_rooms : FuncData} (c_House_rooms : Cm P w K mg base C xa "rooms" 1 F_House_rooms f_House_rooms fd_House_rooms) {f_House_bases : Addr} {fd_House_bases : FuncData} (c_House_bases : Cm P w K mg base C xa "bases" 1 F_House_bases f_House_bases fd_House_bases) {f : Addr} {fd : FuncData} (Fu : Fun K "set_behind" "set_behind" s_set_behind f fd) (gm : mg "set_behind" = some (.ref f)) : Ca P w K mg base C xa "set_behind" ["one", "base", "other"] 6 F_set_behind f fd := ca_mk Fu sc_set_behind gm (Fu.binds (ps := ["one", "base", "other"]) fun _ _ _ _ _ _ us hl => match us, hl with | [_, _, _], _ => rfl) (fun cdv A outer s H E S hr => der_set_behind T hk hC c_check_house c_is_base M c_House_rooms c_House_bases cdv A outer s H E S hr)
theorem ca_tightened (T : Txt mg C) (hk : HK C) (hC : C.K = K) {f_check_house : Addr} {fd_check_house : FuncData} (c_check_house : Ca P w K mg base C xa "check_house" ["house"] 1 F_check_house f_check_house fd_check_house) {f_is_count_below : Addr} {fd_is_count_below : FuncData} (c_is_count_below : Ca P w K mg base C xa "is_count_below" ["value", "bound"] 3 F_is_count_below f_is_count_below fd_is_count_below) {f_House_places : Addr} {fd_House_places : FuncData} (c_House_places : Cm P w K mg base C xa "places" 1 F_House_places f_House_places fd_House_places) {f_with_room : Addr} {fd_with_room : FuncData} (c_with_room : Ca P w K mg base C xa "with_room" ["house", "place", "room"] 6 F_with_room f_with_room fd_with_room) {f_House_bases : Addr} {fd_House_bases : FuncData} (c_House_bases : Cm P w K mg base C xa "bases" 1 F_House_bases f_House_bases fd_House_bases) {f_House_rooms : Addr} {fd_House_rooms : FuncData} (c_House_rooms : Cm P w K mg base C xa "rooms" 1 F_House_rooms f_House_rooms fd_House_rooms) {f : Addr} {fd : FuncData} (Fu : Fun K "tightened" "tightened" s_tightened f fd) (gm : mg "tightened" = some (.ref f)) : Ca P w K mg base C xa "tightened" ["house", "place"] 7 F_tightened f fd := ca_mk Fu sc_tightened gm (Fu.binds (ps := ["house", "place"]) fun _ _ _ _ _ _ us hl => match us, hl with | [_, _], _ => rfl) (fun cdv A outer s H E S hr => der_tightened T hk hC c_check_house c_is_count_below c_House_places c_with_room c_House_bases c_House_rooms cdv A outer s H E S hr)
theorem ca__law_purse (T : Txt mg C) (hk : HK C) (hC : C.K = K) {f : Addr} {fd : FuncData} (Fu : Fun K "_law_purse" "_law_purse" s__law_purse f fd) (gm : mg "_law_purse" = some (.ref f)) : Ca P w K mg base C xa "_law_purse" ["_law_script", "_law_at"] 1 F__law_purse f fd := ca_mk Fu sc__law_purse gm (Fu.binds (ps := ["_law_script", "_law_at"]) fun _ _ _ _ _ _ us hl => match us, hl with | [_, _], _ => rfl) (fun cdv A outer s H E S hr => der__law_purse T hk hC cdv A outer s H E S hr)
theorem ca__law_purse_x (T : Txt mg C) (hk : HK C) (hC : C.K = K) {f : Addr} {fd : FuncData} (Fu : Fun K "_law_purse" "_law_purse" s__law_purse f fd) (gm : mg "_law_purse" = some (.ref f)) : Ca P w K mg base C xa "_law_purse" ["_law_script", "_law_at"] 1 F__law_purse_x f fd := ca_mk Fu sc__law_purse gm (Fu.binds (ps := ["_law_script", "_law_at"]) fun _ _ _ _ _ _ us hl => match us, hl with | [_, _], _ => rfl) (fun cdv A outer s H E S hr => der__law_purse T hk hC cdv A outer s H E S hr)
theorem ca__law_mixed (T : Txt mg C) (hk : HK C) (hC : C.K = K) {f : Addr} {fd : FuncData} (Fu : Fun K "_law_mixed" "_law_mixed" s__law_mixed f fd) (gm : mg "_law_mixed" = some (.ref f)) : Ca P w K mg base C xa "_law_mixed" ["_law_seed", "_law_spin", "_law_at"] 1 F__law_mixed f fd := ca_mk Fu sc__law_mixed gm (Fu.binds (ps := ["_law_seed", "_law_spin", "_law_at"]) fun _ _ _ _ _ _ us hl => match us, hl with | [_, _, _], _ => rfl) (fun cdv A outer s H E S hr => der__law_mixed T hk hC cdv A outer s H E S hr)
theorem ca__law_draw (T : Txt mg C) (hk : HK C) (hC : C.K = K) {f__law_mixed : Addr} {fd__law_mixed : FuncData} (c__law_mixed : Ca P w K mg base C xa "_law_mixed" ["_law_seed", "_law_spin", "_law_at"] 1 F__law_mixed f__law_mixed fd__law_mixed) {f : Addr} {fd : FuncData} (Fu : Fun K "_law_draw" "_law_draw" s__law_draw f fd) (gm : mg "_law_draw" = some (.ref f)) : Ca P w K mg base C xa "_law_draw" ["_law_purse_here", "_law_many"] 2 F__law_draw f fd := ca_mk Fu sc__law_draw gm (Fu.binds (ps := ["_law_purse_here", "_law_many"]) fun _ _ _ _ _ _ us hl => match us, hl with | [_, _], _ => rfl) (fun cdv A outer s H E S hr => der__law_draw T hk hC c__law_mixed cdv A outer s H E S hr)
theorem ca__law_purses (T : Txt mg C) (hk : HK C) (hC : C.K = K) {f__law_purse_x : Addr} {fd__law_purse_x : FuncData} (c__law_purse_x : Ca P w K mg base C xa "_law_purse" ["_law_script", "_law_at"] 1 F__law_purse_x f__law_purse_x fd__law_purse_x) {f : Addr} {fd : FuncData} (Fu : Fun K "_law_purses" "_law_purses" s__law_purses f fd) (gm : mg "_law_purses" = some (.ref f)) : Ca P w K mg base C xa "_law_purses" ["_law_script", "_law_few"] 2 F__law_purses f fd := ca_mk Fu sc__law_purses gm (Fu.binds (ps := ["_law_script", "_law_few"]) fun _ _ _ _ _ _ us hl => match us, hl with | [_, _], _ => rfl) (fun cdv A outer s H E S hr => der__law_purses T hk hC c__law_purse_x cdv A outer s H E S hr)
theorem ca__law_one_of (T : Txt mg C) (hk : HK C) (hC : C.K = K) {f__law_draw : Addr} {fd__law_draw : FuncData} (c__law_draw : Ca P w K mg base C xa "_law_draw" ["_law_purse_here", "_law_many"] 2 F__law_draw f__law_draw fd__law_draw) {f : Addr} {fd : FuncData} (Fu : Fun K "_law_one_of" "_law_one_of" s__law_one_of f fd) (gm : mg "_law_one_of" = some (.ref f)) : Ca P w K mg base C xa "_law_one_of" ["_law_purse_here", "_law_some"] 3 F__law_one_of f fd := ca_mk Fu sc__law_one_of gm (Fu.binds (ps := ["_law_purse_here", "_law_some"]) fun _ _ _ _ _ _ us hl => match us, hl with | [_, _], _ => rfl) (fun cdv A outer s H E S hr => der__law_one_of T hk hC c__law_draw cdv A outer s H E S hr)
theorem ca__law_exact (T : Txt mg C) (hk : HK C) (hC : C.K = K) {f : Addr} {fd : FuncData} (Fu : Fun K "_law_exact" "_law_exact" s__law_exact f fd) (gm : mg "_law_exact" = some (.ref f)) : ∀ n, Ca P w K mg base C xa "_law_exact" ["_law_mine", "_law_theirs"] n (F__law_exact n) f fd
  | 0 => ca_none Fu gm (Fu.binds (ps := ["_law_mine", "_law_theirs"]) fun _ _ _ _ _ _ us hl => match us, hl with | [_, _], _ => rfl)
  | n + 1 => ca_mk Fu sc__law_exact gm (Fu.binds (ps := ["_law_mine", "_law_theirs"]) fun _ _ _ _ _ _ us hl => match us, hl with | [_, _], _ => rfl) (fun cdv A outer s H E S hr => der__law_exact T hk hC (ca__law_exact T hk hC Fu gm n) cdv A outer s H E S hr)
theorem ca__law_weights (T : Txt mg C) (hk : HK C) (hC : C.K = K) {f : Addr} {fd : FuncData} (Fu : Fun K "_law_weights" "_law_weights" s__law_weights f fd) (gm : mg "_law_weights" = some (.ref f)) : Ca P w K mg base C xa "_law_weights" ["_law_house_here"] 1 F__law_weights f fd := ca_mk Fu sc__law_weights gm (Fu.binds (ps := ["_law_house_here"]) fun _ _ _ _ _ _ us hl => match us, hl with | [_], _ => rfl) (fun cdv A outer s H E S hr => der__law_weights T hk hC cdv A outer s H E S hr)
theorem ca__law_many_rows (T : Txt mg C) (hk : HK C) (hC : C.K = K) {f : Addr} {fd : FuncData} (Fu : Fun K "_law_many_rows" "_law_many_rows" s__law_many_rows f fd) (gm : mg "_law_many_rows" = some (.ref f)) : Ca P w K mg base C xa "_law_many_rows" ["_law_house_here"] 1 F__law_many_rows f fd := ca_mk Fu sc__law_many_rows gm (Fu.binds (ps := ["_law_house_here"]) fun _ _ _ _ _ _ us hl => match us, hl with | [_], _ => rfl) (fun cdv A outer s H E S hr => der__law_many_rows T hk hC cdv A outer s H E S hr)
theorem ca__law_house (T : Txt mg C) (hk : HK C) (hC : C.K = K) {f__law_one_of : Addr} {fd__law_one_of : FuncData} (c__law_one_of : Ca P w K mg base C xa "_law_one_of" ["_law_purse_here", "_law_some"] 3 F__law_one_of f__law_one_of fd__law_one_of) {f__law_draw : Addr} {fd__law_draw : FuncData} (c__law_draw : Ca P w K mg base C xa "_law_draw" ["_law_purse_here", "_law_many"] 2 F__law_draw f__law_draw fd__law_draw) {f : Addr} {fd : FuncData} (Fu : Fun K "_law_house" "_law_house" s__law_house f fd) (gm : mg "_law_house" = some (.ref f)) : Ca P w K mg base C xa "_law_house" ["_law_purse_here", "_law_places"] 4 F__law_house f fd := ca_mk Fu sc__law_house gm (Fu.binds (ps := ["_law_purse_here", "_law_places"]) fun _ _ _ _ _ _ us hl => match us, hl with | [_, _], _ => rfl) (fun cdv A outer s H E S hr => der__law_house T hk hC c__law_one_of c__law_draw cdv A outer s H E S hr)
theorem ca__law_house_x (T : Txt mg C) (hk : HK C) (hC : C.K = K) {f__law_one_of : Addr} {fd__law_one_of : FuncData} (c__law_one_of : Ca P w K mg base C xa "_law_one_of" ["_law_purse_here", "_law_some"] 3 F__law_one_of f__law_one_of fd__law_one_of) {f__law_draw : Addr} {fd__law_draw : FuncData} (c__law_draw : Ca P w K mg base C xa "_law_draw" ["_law_purse_here", "_law_many"] 2 F__law_draw f__law_draw fd__law_draw) {f : Addr} {fd : FuncData} (Fu : Fun K "_law_house" "_law_house" s__law_house f fd) (gm : mg "_law_house" = some (.ref f)) : Ca P w K mg base C xa "_law_house" ["_law_purse_here", "_law_places"] 4 F__law_house_x f fd := ca_mk Fu sc__law_house gm (Fu.binds (ps := ["_law_purse_here", "_law_places"]) fun _ _ _ _ _ _ us hl => match us, hl with | [_, _], _ => rfl) (fun cdv A outer s H E S hr => der__law_house_x T hk hC c__law_one_of c__law_draw cdv A outer s H E S hr)
theorem ca__law_great_house (T : Txt mg C) (hk : HK C) (hC : C.K = K) {f__law_draw : Addr} {fd__law_draw : FuncData} (c__law_draw : Ca P w K mg base C xa "_law_draw" ["_law_purse_here", "_law_many"] 2 F__law_draw f__law_draw fd__law_draw) {f__law_house_x : Addr} {fd__law_house_x : FuncData} (c__law_house_x : Ca P w K mg base C xa "_law_house" ["_law_purse_here", "_law_places"] 4 F__law_house_x f__law_house_x fd__law_house_x) {f : Addr} {fd : FuncData} (Fu : Fun K "_law_great_house" "_law_great_house" s__law_great_house f fd) (gm : mg "_law_great_house" = some (.ref f)) : Ca P w K mg base C xa "_law_great_house" ["_law_purse_here"] 5 F__law_great_house f fd := ca_mk Fu sc__law_great_house gm (Fu.binds (ps := ["_law_purse_here"]) fun _ _ _ _ _ _ us hl => match us, hl with | [_], _ => rfl) (fun cdv A outer s H E S hr => der__law_great_house T hk hC c__law_draw c__law_house_x cdv A outer s H E S hr)
theorem ca__law_made (T : Txt mg C) (hk : HK C) (hC : C.K = K) {fI : Addr} {fdI : FuncData} (M : HMk P w K mg base C xa 4 F_House fI fdI) {f : Addr} {fd : FuncData} (Fu : Fun K "_law_made" "_law_made" s__law_made f fd) (gm : mg "_law_made" = some (.ref f)) : Ca P w K mg base C xa "_law_made" ["_law_house_here"] 6 F__law_made f fd := ca_mk Fu sc__law_made gm (Fu.binds (ps := ["_law_house_here"]) fun _ _ _ _ _ _ us hl => match us, hl with | [_], _ => rfl) (fun cdv A outer s H E S hr => der__law_made T hk hC M cdv A outer s H E S hr)
theorem ca__law_told_of (T : Txt mg C) (hk : HK C) (hC : C.K = K) {f_House_rooms : Addr} {fd_House_rooms : FuncData} (c_House_rooms : Cm P w K mg base C xa "rooms" 1 F_House_rooms f_House_rooms fd_House_rooms) {f_House_bases : Addr} {fd_House_bases : FuncData} (c_House_bases : Cm P w K mg base C xa "bases" 1 F_House_bases f_House_bases fd_House_bases) {f__law_weights : Addr} {fd__law_weights : FuncData} (c__law_weights : Ca P w K mg base C xa "_law_weights" ["_law_house_here"] 1 F__law_weights f__law_weights fd__law_weights) {f__law_exact : Addr} {fd__law_exact : FuncData} (c__law_exact : Ca P w K mg base C xa "_law_exact" ["_law_mine", "_law_theirs"] 9 (F__law_exact 9) f__law_exact fd__law_exact) {f__law_many_rows : Addr} {fd__law_many_rows : FuncData} (c__law_many_rows : Ca P w K mg base C xa "_law_many_rows" ["_law_house_here"] 1 F__law_many_rows f__law_many_rows fd__law_many_rows) {f_House_places : Addr} {fd_House_places : FuncData} (c_House_places : Cm P w K mg base C xa "places" 1 F_House_places f_House_places fd_House_places) {f_many_rows : Addr} {fd_many_rows : FuncData} (c_many_rows : Ca P w K mg base C xa "many_rows" ["house"] 2 F_many_rows f_many_rows fd_many_rows) {f_held_up_to : Addr} {fd_held_up_to : FuncData} (c_held_up_to : Ca P w K mg base C xa "held_up_to" ["house"] 3 F_held_up_to f_held_up_to fd_held_up_to) {f_weights : Addr} {fd_weights : FuncData} (c_weights : Ca P w K mg base C xa "weights" ["house"] 2 F_weights f_weights fd_weights) {f : Addr} {fd : FuncData} (Fu : Fun K "_law_told_of" "_law_told_of" s__law_told_of f fd) (gm : mg "_law_told_of" = some (.ref f)) : Ca P w K mg base C xa "_law_told_of" ["_law_made_here"] 10 F__law_told_of f fd := ca_mk Fu sc__law_told_of gm (Fu.binds (ps := ["_law_made_here"]) fun _ _ _ _ _ _ us hl => match us, hl with | [_], _ => rfl) (fun cdv A outer s H E S hr => der__law_told_of T hk hC c_House_rooms c_House_bases c__law_weights c__law_exact c__law_many_rows c_House_places c_many_rows c_held_up_to c_weights cdv A outer s H E S hr)
theorem ca__law_places_right (T : Txt mg C) (hk : HK C) (hC : C.K = K) {f__law_made : Addr} {fd__law_made : FuncData} (c__law_made : Ca P w K mg base C xa "_law_made" ["_law_house_here"] 6 F__law_made f__law_made fd__law_made) {f__law_draw : Addr} {fd__law_draw : FuncData} (c__law_draw : Ca P w K mg base C xa "_law_draw" ["_law_purse_here", "_law_many"] 2 F__law_draw f__law_draw fd__law_draw) {f_with_room : Addr} {fd_with_room : FuncData} (c_with_room : Ca P w K mg base C xa "with_room" ["house", "place", "room"] 6 F_with_room f_with_room fd_with_room) {f__law_exact : Addr} {fd__law_exact : FuncData} (c__law_exact : Ca P w K mg base C xa "_law_exact" ["_law_mine", "_law_theirs"] 9 (F__law_exact 9) f__law_exact fd__law_exact) {f__law_told_of : Addr} {fd__law_told_of : FuncData} (c__law_told_of : Ca P w K mg base C xa "_law_told_of" ["_law_made_here"] 10 F__law_told_of f__law_told_of fd__law_told_of) {f_tightened : Addr} {fd_tightened : FuncData} (c_tightened : Ca P w K mg base C xa "tightened" ["house", "place"] 7 F_tightened f_tightened fd_tightened) {f_stretch : Addr} {fd_stretch : FuncData} (c_stretch : Ca P w K mg base C xa "stretch" ["house", "first", "last"] 6 F_stretch f_stretch fd_stretch) (kb_with_room_210 : Kb K fd_with_room ["house", "place", "room"] ["room", "place", "house"] perm210) (kb_tightened_10 : Kb K fd_tightened ["house", "place"] ["place", "house"] perm10) (kb_stretch_210 : Kb K fd_stretch ["house", "first", "last"] ["last", "first", "house"] perm210) {f : Addr} {fd : FuncData} (Fu : Fun K "_law_places_right" "_law_places_right" s__law_places_right f fd) (gm : mg "_law_places_right" = some (.ref f)) : Ca P w K mg base C xa "_law_places_right" ["_law_purse_here", "_law_house_here"] 11 F__law_places_right f fd := ca_mk Fu sc__law_places_right gm (Fu.binds (ps := ["_law_purse_here", "_law_house_here"]) fun _ _ _ _ _ _ us hl => match us, hl with | [_, _], _ => rfl) (fun cdv A outer s H E S hr => der__law_places_right T hk hC c__law_made c__law_draw c_with_room c__law_exact c__law_told_of c_tightened c_stretch kb_with_room_210 kb_tightened_10 kb_stretch_210 cdv A outer s H E S hr)
theorem ca__law_two_right (T : Txt mg C) (hk : HK C) (hC : C.K = K) {f__law_made : Addr} {fd__law_made : FuncData} (c__law_made : Ca P w K mg base C xa "_law_made" ["_law_house_here"] 6 F__law_made f__law_made fd__law_made) {f__law_one_of : Addr} {fd__law_one_of : FuncData} (c__law_one_of : Ca P w K mg base C xa "_law_one_of" ["_law_purse_here", "_law_some"] 3 F__law_one_of f__law_one_of fd__law_one_of) {f__law_draw : Addr} {fd__law_draw : FuncData} (c__law_draw : Ca P w K mg base C xa "_law_draw" ["_law_purse_here", "_law_many"] 2 F__law_draw f__law_draw fd__law_draw) {fI : Addr} {fdI : FuncData} (M : HMk P w K mg base C xa 4 F_House fI fdI) {f__law_exact : Addr} {fd__law_exact : FuncData} (c__law_exact : Ca P w K mg base C xa "_law_exact" ["_law_mine", "_law_theirs"] 9 (F__law_exact 9) f__law_exact fd__law_exact) {f_is_within : Addr} {fd_is_within : FuncData} (c_is_within : Ca P w K mg base C xa "is_within" ["one", "other"] 5 F_is_within f_is_within fd_is_within) {f_lesser_house : Addr} {fd_lesser_house : FuncData} (c_lesser_house : Ca P w K mg base C xa "lesser_house" ["one", "other"] 6 F_lesser_house f_lesser_house fd_lesser_house) {f_greater_house : Addr} {fd_greater_house : FuncData} (c_greater_house : Ca P w K mg base C xa "greater_house" ["one", "other"] 6 F_greater_house f_greater_house fd_greater_house) {f__law_told_of : Addr} {fd__law_told_of : FuncData} (c__law_told_of : Ca P w K mg base C xa "_law_told_of" ["_law_made_here"] 10 F__law_told_of f__law_told_of fd__law_told_of) {fI : Addr} {fdI : FuncData} (M : HMk P w K mg base C xa 4 F_House fI fdI) {fI : Addr} {fdI : FuncData} (M : HMk P w K mg base C xa 4 F_House fI fdI) (kb_is_within_10 : Kb K fd_is_within ["one", "other"] ["other", "one"] perm10) (kb_greater_house_10 : Kb K fd_greater_house ["one", "other"] ["other", "one"] perm10) (kb_lesser_house_10 : Kb K fd_lesser_house ["one", "other"] ["other", "one"] perm10) {f : Addr} {fd : FuncData} (Fu : Fun K "_law_two_right" "_law_two_right" s__law_two_right f fd) (gm : mg "_law_two_right" = some (.ref f)) : Ca P w K mg base C xa "_law_two_right" ["_law_purse_here", "_law_house_here"] 11 F__law_two_right f fd := ca_mk Fu sc__law_two_right gm (Fu.binds (ps := ["_law_purse_here", "_law_house_here"]) fun _ _ _ _ _ _ us hl => match us, hl with | [_, _], _ => rfl) (fun cdv A outer s H E S hr => der__law_two_right T hk hC c__law_made c__law_one_of c__law_draw M c__law_exact c_is_within c_lesser_house c_greater_house c__law_told_of M M kb_is_within_10 kb_greater_house_10 kb_lesser_house_10 cdv A outer s H E S hr)
theorem ca__law_behind_right (T : Txt mg C) (hk : HK C) (hC : C.K = K) {f__law_draw : Addr} {fd__law_draw : FuncData} (c__law_draw : Ca P w K mg base C xa "_law_draw" ["_law_purse_here", "_law_many"] 2 F__law_draw f__law_draw fd__law_draw) {f__law_made : Addr} {fd__law_made : FuncData} (c__law_made : Ca P w K mg base C xa "_law_made" ["_law_house_here"] 6 F__law_made f__law_made fd__law_made) {f_set_behind : Addr} {fd_set_behind : FuncData} (c_set_behind : Ca P w K mg base C xa "set_behind" ["one", "base", "other"] 6 F_set_behind f_set_behind fd_set_behind) {f__law_exact : Addr} {fd__law_exact : FuncData} (c__law_exact : Ca P w K mg base C xa "_law_exact" ["_law_mine", "_law_theirs"] 9 (F__law_exact 9) f__law_exact fd__law_exact) {f__law_told_of : Addr} {fd__law_told_of : FuncData} (c__law_told_of : Ca P w K mg base C xa "_law_told_of" ["_law_made_here"] 10 F__law_told_of f__law_told_of fd__law_told_of) {f_stretch : Addr} {fd_stretch : FuncData} (c_stretch : Ca P w K mg base C xa "stretch" ["house", "first", "last"] 6 F_stretch f_stretch fd_stretch) {f__law_weights : Addr} {fd__law_weights : FuncData} (c__law_weights : Ca P w K mg base C xa "_law_weights" ["_law_house_here"] 1 F__law_weights f__law_weights fd__law_weights) {f_weights : Addr} {fd_weights : FuncData} (c_weights : Ca P w K mg base C xa "weights" ["house"] 2 F_weights f_weights fd_weights) (kb_set_behind_210 : Kb K fd_set_behind ["one", "base", "other"] ["other", "base", "one"] perm210) {f_House___eq__ : Addr} {fd_House___eq__ : FuncData} (hq : Qm P w K mg base C xa 1 F_House___eq__ f_House___eq__ fd_House___eq__) {f : Addr} {fd : FuncData} (Fu : Fun K "_law_behind_right" "_law_behind_right" s__law_behind_right f fd) (gm : mg "_law_behind_right" = some (.ref f)) : Ca P w K mg base C xa "_law_behind_right" ["_law_purse_here", "_law_house_here", "_law_other"] 11 F__law_behind_right f fd := ca_mk Fu sc__law_behind_right gm (Fu.binds (ps := ["_law_purse_here", "_law_house_here", "_law_other"]) fun _ _ _ _ _ _ us hl => match us, hl with | [_, _, _], _ => rfl) (fun cdv A outer s H E S hr => der__law_behind_right T hk hC c__law_draw c__law_made c_set_behind c__law_exact c__law_told_of c_stretch c__law_weights c_weights kb_set_behind_210 hq cdv A outer s H E S hr)
theorem ca_law (T : Txt mg C) (hk : HK C) (hC : C.K = K) {f__law_purses : Addr} {fd__law_purses : FuncData} (c__law_purses : Ca P w K mg base C xa "_law_purses" ["_law_script", "_law_few"] 2 F__law_purses f__law_purses fd__law_purses) {f__law_house : Addr} {fd__law_house : FuncData} (c__law_house : Ca P w K mg base C xa "_law_house" ["_law_purse_here", "_law_places"] 4 F__law_house f__law_house fd__law_house) {f__law_draw : Addr} {fd__law_draw : FuncData} (c__law_draw : Ca P w K mg base C xa "_law_draw" ["_law_purse_here", "_law_many"] 2 F__law_draw f__law_draw fd__law_draw) {f__law_great_house : Addr} {fd__law_great_house : FuncData} (c__law_great_house : Ca P w K mg base C xa "_law_great_house" ["_law_purse_here"] 5 F__law_great_house f__law_great_house fd__law_great_house) {f__law_two_right : Addr} {fd__law_two_right : FuncData} (c__law_two_right : Ca P w K mg base C xa "_law_two_right" ["_law_purse_here", "_law_house_here"] 11 F__law_two_right f__law_two_right fd__law_two_right) {f__law_places_right : Addr} {fd__law_places_right : FuncData} (c__law_places_right : Ca P w K mg base C xa "_law_places_right" ["_law_purse_here", "_law_house_here"] 11 F__law_places_right f__law_places_right fd__law_places_right) {f__law_behind_right : Addr} {fd__law_behind_right : FuncData} (c__law_behind_right : Ca P w K mg base C xa "_law_behind_right" ["_law_purse_here", "_law_house_here", "_law_other"] 11 F__law_behind_right f__law_behind_right fd__law_behind_right) {f : Addr} {fd : FuncData} (Fu : Fun K "law" "law" s_law f fd) (gm : mg "law" = some (.ref f)) : Ca P w K mg base C xa "law" ["_law_script"] 12 F_law f fd := ca_mk Fu sc_law gm (Fu.binds (ps := ["_law_script"]) fun _ _ _ _ _ _ us hl => match us, hl with | [_], _ => rfl) (fun cdv A outer s H E S hr => der_law T hk hC c__law_purses c__law_house c__law_draw c__law_great_house c__law_two_right c__law_places_right c__law_behind_right cdv A outer s H E S hr)
end
end K4

/-! K4G: the law's def does what it should; printed by k4g.py. -/
namespace K4
open PySem PySem.Spec PyProof.Rows L2 CD
theorem len_10 {α : Type} : ∀ ws : List α, (perm10 ws).length = ws.length
  | [] => rfl
  | [_] => rfl
  | [_, _] => rfl
  | _ :: _ :: _ :: _ => rfl
theorem len_210 {α : Type} : ∀ ws : List α, (perm210 ws).length = ws.length
  | [] => rfl
  | [_] => rfl
  | [_, _] => rfl
  | [_, _, _] => rfl
  | _ :: _ :: _ :: _ :: _ => rfl
section
variable {P : Program} {w : World} {K : PySem.W.Frag} {mg : Str → Option Value} {base : Heap} {C : Hc} {xa : Str → Addr}
theorem law_ok (T : Txt mg C) (hk : HK C) (hC : C.K = K) {fI : Addr} {fdI : FuncData} (MI : L2.Mk K C.a fI) (uI : Fun K "__init__" "House.__init__" s_House___init__ fI fdI) {fE : Addr} {fdE : FuncData} (uE : Fun K "__eq__" "House.__eq__" s_House___eq__ fE fdE) (gE : Meth K C.a "__eq__" fE) (nE : PySem.W.findIn K (.ref C.a) "__ne__" = some (some (.builtin "object.__ne__")))
    {f_is_whole : Addr} {fd_is_whole : FuncData} (u_is_whole : Fun K "is_whole" "is_whole" s_is_whole f_is_whole fd_is_whole)
    (g_is_whole : mg "is_whole" = some (.ref f_is_whole))
    {f_is_count : Addr} {fd_is_count : FuncData} (u_is_count : Fun K "is_count" "is_count" s_is_count f_is_count fd_is_count)
    (g_is_count : mg "is_count" = some (.ref f_is_count))
    {f_is_count_below : Addr} {fd_is_count_below : FuncData} (u_is_count_below : Fun K "is_count_below" "is_count_below" s_is_count_below f_is_count_below fd_is_count_below)
    (g_is_count_below : mg "is_count_below" = some (.ref f_is_count_below))
    {f_is_base : Addr} {fd_is_base : FuncData} (u_is_base : Fun K "is_base" "is_base" s_is_base f_is_base fd_is_base)
    (g_is_base : mg "is_base" = some (.ref f_is_base))
    {f_are_bases : Addr} {fd_are_bases : FuncData} (u_are_bases : Fun K "are_bases" "are_bases" s_are_bases f_are_bases fd_are_bases)
    (g_are_bases : mg "are_bases" = some (.ref f_are_bases))
    {f_are_counts : Addr} {fd_are_counts : FuncData} (u_are_counts : Fun K "are_counts" "are_counts" s_are_counts f_are_counts fd_are_counts)
    (g_are_counts : mg "are_counts" = some (.ref f_are_counts))
    {f_are_counts_within : Addr} {fd_are_counts_within : FuncData} (u_are_counts_within : Fun K "are_counts_within" "are_counts_within" s_are_counts_within f_are_counts_within fd_are_counts_within)
    (g_are_counts_within : mg "are_counts_within" = some (.ref f_are_counts_within))
    {f_House_bases : Addr} {fd_House_bases : FuncData} (u_House_bases : Fun K "bases" "House.bases" s_House_bases f_House_bases fd_House_bases)
    (g_House_bases : Meth K C.a "bases" f_House_bases)
    {f_House_rooms : Addr} {fd_House_rooms : FuncData} (u_House_rooms : Fun K "rooms" "House.rooms" s_House_rooms f_House_rooms fd_House_rooms)
    (g_House_rooms : Meth K C.a "rooms" f_House_rooms)
    {f_House_places : Addr} {fd_House_places : FuncData} (u_House_places : Fun K "places" "House.places" s_House_places f_House_places fd_House_places)
    (g_House_places : Meth K C.a "places" f_House_places)
    {f_check_house : Addr} {fd_check_house : FuncData} (u_check_house : Fun K "check_house" "check_house" s_check_house f_check_house fd_check_house)
    (g_check_house : mg "check_house" = some (.ref f_check_house))
    {f_check_place : Addr} {fd_check_place : FuncData} (u_check_place : Fun K "check_place" "check_place" s_check_place f_check_place fd_check_place)
    (g_check_place : mg "check_place" = some (.ref f_check_place))
    {f_check_like_houses : Addr} {fd_check_like_houses : FuncData} (u_check_like_houses : Fun K "check_like_houses" "check_like_houses" s_check_like_houses f_check_like_houses fd_check_like_houses)
    (g_check_like_houses : mg "check_like_houses" = some (.ref f_check_like_houses))
    {f_weights : Addr} {fd_weights : FuncData} (u_weights : Fun K "weights" "weights" s_weights f_weights fd_weights)
    (g_weights : mg "weights" = some (.ref f_weights))
    {f_held_up_to : Addr} {fd_held_up_to : FuncData} (u_held_up_to : Fun K "held_up_to" "held_up_to" s_held_up_to f_held_up_to fd_held_up_to)
    (g_held_up_to : mg "held_up_to" = some (.ref f_held_up_to))
    {f_many_rows : Addr} {fd_many_rows : FuncData} (u_many_rows : Fun K "many_rows" "many_rows" s_many_rows f_many_rows fd_many_rows)
    (g_many_rows : mg "many_rows" = some (.ref f_many_rows))
    {f_is_within : Addr} {fd_is_within : FuncData} (u_is_within : Fun K "is_within" "is_within" s_is_within f_is_within fd_is_within)
    (g_is_within : mg "is_within" = some (.ref f_is_within))
    {f_lesser_house : Addr} {fd_lesser_house : FuncData} (u_lesser_house : Fun K "lesser_house" "lesser_house" s_lesser_house f_lesser_house fd_lesser_house)
    (g_lesser_house : mg "lesser_house" = some (.ref f_lesser_house))
    {f_greater_house : Addr} {fd_greater_house : FuncData} (u_greater_house : Fun K "greater_house" "greater_house" s_greater_house f_greater_house fd_greater_house)
    (g_greater_house : mg "greater_house" = some (.ref f_greater_house))
    {f_with_room : Addr} {fd_with_room : FuncData} (u_with_room : Fun K "with_room" "with_room" s_with_room f_with_room fd_with_room)
    (g_with_room : mg "with_room" = some (.ref f_with_room))
    {f_stretch : Addr} {fd_stretch : FuncData} (u_stretch : Fun K "stretch" "stretch" s_stretch f_stretch fd_stretch)
    (g_stretch : mg "stretch" = some (.ref f_stretch))
    {f_set_behind : Addr} {fd_set_behind : FuncData} (u_set_behind : Fun K "set_behind" "set_behind" s_set_behind f_set_behind fd_set_behind)
    (g_set_behind : mg "set_behind" = some (.ref f_set_behind))
    {f_tightened : Addr} {fd_tightened : FuncData} (u_tightened : Fun K "tightened" "tightened" s_tightened f_tightened fd_tightened)
    (g_tightened : mg "tightened" = some (.ref f_tightened))
    {f__law_purse : Addr} {fd__law_purse : FuncData} (u__law_purse : Fun K "_law_purse" "_law_purse" s__law_purse f__law_purse fd__law_purse)
    (g__law_purse : mg "_law_purse" = some (.ref f__law_purse))
    {f__law_mixed : Addr} {fd__law_mixed : FuncData} (u__law_mixed : Fun K "_law_mixed" "_law_mixed" s__law_mixed f__law_mixed fd__law_mixed)
    (g__law_mixed : mg "_law_mixed" = some (.ref f__law_mixed))
    {f__law_draw : Addr} {fd__law_draw : FuncData} (u__law_draw : Fun K "_law_draw" "_law_draw" s__law_draw f__law_draw fd__law_draw)
    (g__law_draw : mg "_law_draw" = some (.ref f__law_draw))
    {f__law_purses : Addr} {fd__law_purses : FuncData} (u__law_purses : Fun K "_law_purses" "_law_purses" s__law_purses f__law_purses fd__law_purses)
    (g__law_purses : mg "_law_purses" = some (.ref f__law_purses))
    {f__law_one_of : Addr} {fd__law_one_of : FuncData} (u__law_one_of : Fun K "_law_one_of" "_law_one_of" s__law_one_of f__law_one_of fd__law_one_of)
    (g__law_one_of : mg "_law_one_of" = some (.ref f__law_one_of))
    {f__law_exact : Addr} {fd__law_exact : FuncData} (u__law_exact : Fun K "_law_exact" "_law_exact" s__law_exact f__law_exact fd__law_exact)
    (g__law_exact : mg "_law_exact" = some (.ref f__law_exact))
    {f__law_weights : Addr} {fd__law_weights : FuncData} (u__law_weights : Fun K "_law_weights" "_law_weights" s__law_weights f__law_weights fd__law_weights)
    (g__law_weights : mg "_law_weights" = some (.ref f__law_weights))
    {f__law_many_rows : Addr} {fd__law_many_rows : FuncData} (u__law_many_rows : Fun K "_law_many_rows" "_law_many_rows" s__law_many_rows f__law_many_rows fd__law_many_rows)
    (g__law_many_rows : mg "_law_many_rows" = some (.ref f__law_many_rows))
    {f__law_house : Addr} {fd__law_house : FuncData} (u__law_house : Fun K "_law_house" "_law_house" s__law_house f__law_house fd__law_house)
    (g__law_house : mg "_law_house" = some (.ref f__law_house))
    {f__law_great_house : Addr} {fd__law_great_house : FuncData} (u__law_great_house : Fun K "_law_great_house" "_law_great_house" s__law_great_house f__law_great_house fd__law_great_house)
    (g__law_great_house : mg "_law_great_house" = some (.ref f__law_great_house))
    {f__law_made : Addr} {fd__law_made : FuncData} (u__law_made : Fun K "_law_made" "_law_made" s__law_made f__law_made fd__law_made)
    (g__law_made : mg "_law_made" = some (.ref f__law_made))
    {f__law_told_of : Addr} {fd__law_told_of : FuncData} (u__law_told_of : Fun K "_law_told_of" "_law_told_of" s__law_told_of f__law_told_of fd__law_told_of)
    (g__law_told_of : mg "_law_told_of" = some (.ref f__law_told_of))
    {f__law_places_right : Addr} {fd__law_places_right : FuncData} (u__law_places_right : Fun K "_law_places_right" "_law_places_right" s__law_places_right f__law_places_right fd__law_places_right)
    (g__law_places_right : mg "_law_places_right" = some (.ref f__law_places_right))
    {f__law_two_right : Addr} {fd__law_two_right : FuncData} (u__law_two_right : Fun K "_law_two_right" "_law_two_right" s__law_two_right f__law_two_right fd__law_two_right)
    (g__law_two_right : mg "_law_two_right" = some (.ref f__law_two_right))
    {f__law_behind_right : Addr} {fd__law_behind_right : FuncData} (u__law_behind_right : Fun K "_law_behind_right" "_law_behind_right" s__law_behind_right f__law_behind_right fd__law_behind_right)
    (g__law_behind_right : mg "_law_behind_right" = some (.ref f__law_behind_right))
    {f_law : Addr} {fd_law : FuncData} (u_law : Fun K "law" "law" s_law f_law fd_law)
    (g_law : mg "law" = some (.ref f_law))  : FnOk P w K mg base CX0 12 f_law fd_law ["_law_script"] (spF C xa 1 F_law) := by
  have c_is_whole := ca_is_whole (P := P) (w := w) (base := base) (xa := xa) T hk hC u_is_whole g_is_whole
  have c_is_count := ca_is_count (P := P) (w := w) (base := base) (xa := xa) T hk hC c_is_whole u_is_count g_is_count
  have c_is_count_below := ca_is_count_below (P := P) (w := w) (base := base) (xa := xa) T hk hC c_is_count u_is_count_below g_is_count_below
  have c_is_base := ca_is_base (P := P) (w := w) (base := base) (xa := xa) T hk hC c_is_whole u_is_base g_is_base
  have c_are_bases := ca_are_bases (P := P) (w := w) (base := base) (xa := xa) T hk hC c_is_base u_are_bases g_are_bases
  have c_are_counts := ca_are_counts (P := P) (w := w) (base := base) (xa := xa) T hk hC c_is_count u_are_counts g_are_counts
  have hq := qm_mk (P := P) (w := w) (base := base) (xa := xa) T hk hC uE gE nE
  have M : HMk P w K mg base C xa 4 F_House fI fdI := ⟨MI, init_ok (m := 0) hk hC uI rfl rfl sc_House___init__ (fun cdv A outer s H E S hr => der_House___init__ T hk hC c_are_bases c_are_counts cdv A outer s H E S hr) hF_House, uI.binds (ps := ["self", "bases", "rooms"]) fun _ _ _ _ _ _ us hl => match us, hl with | [_, _, _], _ => rfl⟩
  have c_are_counts_within := ca_are_counts_within (P := P) (w := w) (base := base) (xa := xa) T hk hC c_are_counts u_are_counts_within g_are_counts_within
  have c_House_bases := ca_House_bases (P := P) (w := w) (base := base) (xa := xa) T hk hC u_House_bases g_House_bases
  have c_House_rooms := ca_House_rooms (P := P) (w := w) (base := base) (xa := xa) T hk hC u_House_rooms g_House_rooms
  have c_House_rooms_x := ca_House_rooms_x (P := P) (w := w) (base := base) (xa := xa) T hk hC u_House_rooms g_House_rooms
  have c_House_places := ca_House_places (P := P) (w := w) (base := base) (xa := xa) T hk hC u_House_places g_House_places
  have c_check_house := ca_check_house (P := P) (w := w) (base := base) (xa := xa) T hk hC u_check_house g_check_house
  have c_check_place := ca_check_place (P := P) (w := w) (base := base) (xa := xa) T hk hC c_is_count_below c_House_places u_check_place g_check_place
  have c_check_like_houses := ca_check_like_houses (P := P) (w := w) (base := base) (xa := xa) T hk hC c_check_house c_House_bases u_check_like_houses g_check_like_houses
  have c_weights := ca_weights (P := P) (w := w) (base := base) (xa := xa) T hk hC c_check_house c_House_bases u_weights g_weights
  have c_held_up_to := ca_held_up_to (P := P) (w := w) (base := base) (xa := xa) T hk hC c_check_house c_weights c_House_rooms u_held_up_to g_held_up_to
  have c_many_rows := ca_many_rows (P := P) (w := w) (base := base) (xa := xa) T hk hC c_check_house c_House_rooms u_many_rows g_many_rows
  have c_is_within := ca_is_within (P := P) (w := w) (base := base) (xa := xa) T hk hC c_check_house c_House_bases c_are_counts_within c_House_rooms u_is_within g_is_within
  have c_lesser_house := ca_lesser_house (P := P) (w := w) (base := base) (xa := xa) T hk hC c_check_like_houses M c_House_rooms c_House_bases u_lesser_house g_lesser_house
  have c_greater_house := ca_greater_house (P := P) (w := w) (base := base) (xa := xa) T hk hC c_check_like_houses M c_House_rooms c_House_bases u_greater_house g_greater_house
  have c_with_room := ca_with_room (P := P) (w := w) (base := base) (xa := xa) T hk hC c_check_house c_check_place c_is_count c_House_rooms_x M c_House_bases u_with_room g_with_room
  have c_stretch := ca_stretch (P := P) (w := w) (base := base) (xa := xa) T hk hC c_check_house c_check_place M c_House_rooms c_House_bases u_stretch g_stretch
  have c_set_behind := ca_set_behind (P := P) (w := w) (base := base) (xa := xa) T hk hC c_check_house c_is_base M c_House_rooms c_House_bases u_set_behind g_set_behind
  have c_tightened := ca_tightened (P := P) (w := w) (base := base) (xa := xa) T hk hC c_check_house c_is_count_below c_House_places c_with_room c_House_bases c_House_rooms u_tightened g_tightened
  have c__law_purse := ca__law_purse (P := P) (w := w) (base := base) (xa := xa) T hk hC u__law_purse g__law_purse
  have c__law_purse_x := ca__law_purse_x (P := P) (w := w) (base := base) (xa := xa) T hk hC u__law_purse g__law_purse
  have c__law_mixed := ca__law_mixed (P := P) (w := w) (base := base) (xa := xa) T hk hC u__law_mixed g__law_mixed
  have c__law_draw := ca__law_draw (P := P) (w := w) (base := base) (xa := xa) T hk hC c__law_mixed u__law_draw g__law_draw
  have c__law_purses := ca__law_purses (P := P) (w := w) (base := base) (xa := xa) T hk hC c__law_purse_x u__law_purses g__law_purses
  have c__law_one_of := ca__law_one_of (P := P) (w := w) (base := base) (xa := xa) T hk hC c__law_draw u__law_one_of g__law_one_of
  have c__law_exact := ca__law_exact (P := P) (w := w) (base := base) (xa := xa) T hk hC u__law_exact g__law_exact
  have c__law_weights := ca__law_weights (P := P) (w := w) (base := base) (xa := xa) T hk hC u__law_weights g__law_weights
  have c__law_many_rows := ca__law_many_rows (P := P) (w := w) (base := base) (xa := xa) T hk hC u__law_many_rows g__law_many_rows
  have c__law_house := ca__law_house (P := P) (w := w) (base := base) (xa := xa) T hk hC c__law_one_of c__law_draw u__law_house g__law_house
  have c__law_house_x := ca__law_house_x (P := P) (w := w) (base := base) (xa := xa) T hk hC c__law_one_of c__law_draw u__law_house g__law_house
  have c__law_great_house := ca__law_great_house (P := P) (w := w) (base := base) (xa := xa) T hk hC c__law_draw c__law_house_x u__law_great_house g__law_great_house
  have c__law_made := ca__law_made (P := P) (w := w) (base := base) (xa := xa) T hk hC M u__law_made g__law_made
  have c__law_told_of := ca__law_told_of (P := P) (w := w) (base := base) (xa := xa) T hk hC c_House_rooms c_House_bases c__law_weights (c__law_exact 9) c__law_many_rows c_House_places c_many_rows c_held_up_to c_weights u__law_told_of g__law_told_of
  have kb_with_room_210 : Kb K fd_with_room ["house", "place", "room"] ["room", "place", "house"] perm210 := Kb.mk' u_with_room len_210 (fun _ _ _ _ _ _ ws hl => match ws, hl with | [_, _, _], _ => rfl)
  have kb_tightened_10 : Kb K fd_tightened ["house", "place"] ["place", "house"] perm10 := Kb.mk' u_tightened len_10 (fun _ _ _ _ _ _ ws hl => match ws, hl with | [_, _], _ => rfl)
  have kb_stretch_210 : Kb K fd_stretch ["house", "first", "last"] ["last", "first", "house"] perm210 := Kb.mk' u_stretch len_210 (fun _ _ _ _ _ _ ws hl => match ws, hl with | [_, _, _], _ => rfl)
  have c__law_places_right := ca__law_places_right (P := P) (w := w) (base := base) (xa := xa) T hk hC c__law_made c__law_draw c_with_room (c__law_exact 9) c__law_told_of c_tightened c_stretch kb_with_room_210 kb_tightened_10 kb_stretch_210 u__law_places_right g__law_places_right
  have kb_is_within_10 : Kb K fd_is_within ["one", "other"] ["other", "one"] perm10 := Kb.mk' u_is_within len_10 (fun _ _ _ _ _ _ ws hl => match ws, hl with | [_, _], _ => rfl)
  have kb_greater_house_10 : Kb K fd_greater_house ["one", "other"] ["other", "one"] perm10 := Kb.mk' u_greater_house len_10 (fun _ _ _ _ _ _ ws hl => match ws, hl with | [_, _], _ => rfl)
  have kb_lesser_house_10 : Kb K fd_lesser_house ["one", "other"] ["other", "one"] perm10 := Kb.mk' u_lesser_house len_10 (fun _ _ _ _ _ _ ws hl => match ws, hl with | [_, _], _ => rfl)
  have c__law_two_right := ca__law_two_right (P := P) (w := w) (base := base) (xa := xa) T hk hC c__law_made c__law_one_of c__law_draw M (c__law_exact 9) c_is_within c_lesser_house c_greater_house c__law_told_of M M kb_is_within_10 kb_greater_house_10 kb_lesser_house_10 u__law_two_right g__law_two_right
  have kb_set_behind_210 : Kb K fd_set_behind ["one", "base", "other"] ["other", "base", "one"] perm210 := Kb.mk' u_set_behind len_210 (fun _ _ _ _ _ _ ws hl => match ws, hl with | [_, _, _], _ => rfl)
  have c__law_behind_right := ca__law_behind_right (P := P) (w := w) (base := base) (xa := xa) T hk hC c__law_draw c__law_made c_set_behind (c__law_exact 9) c__law_told_of c_stretch c__law_weights c_weights kb_set_behind_210 hq u__law_behind_right g__law_behind_right
  have c_law := ca_law (P := P) (w := w) (base := base) (xa := xa) T hk hC c__law_purses c__law_house c__law_draw c__law_great_house c__law_two_right c__law_places_right c__law_behind_right u_law g_law
  exact c_law.ok
def spLaw (K : PySem.W.Frag) : Sp := fun vs H Q _ => ∃ (a : Addr) (ns : List Int), vs = [.ref a] ∧ SqL K H a (ns.map V.int) ∧ ns.length ≤ 63 ∧ ∀ H', Q (.bl true) H'
theorem hid_id {H : Hp} : hid (fun _ => False) [] [] H = H := by
  funext a
  unfold hid
  rw [if_neg]
  rintro (h | ⟨k, ds, h, _⟩)
  · exact h
  · cases h
theorem law_sp (hC : C.K = K) : ∀ vs H Q E, spLaw K vs H Q E → spF C xa 1 F_law vs H Q E := by
  rintro vs H Q E ⟨a, ns, rfl, hS, hn, q⟩
  obtain ⟨d, c', h1, h2⟩ := fw_law ns (Nat.lt_of_le_of_lt hn (by decide))
  have h2 : d = .bl true := h2
  subst h2
  have R : CelR (fun _ => False) C [] [] H := ⟨List.nodup_nil, fun _ h => h.elim, fun _ _ h => h.elim, rfl, (fun _ h => nomatch h), (fun k ds h => by simp at h)⟩
  refine ⟨fun _ => False, [], [], [.scr ns], _, rfl, R, ?_, h1, fun r' H' s' R' => ?_⟩
  · rw [hid_id]
    exact .cons (.scr (by rw [hC]; exact hS)) .nil
  · intro v hv
    cases hv
    exact q H'
end
end K4

set_option maxRecDepth 100000
/-! K4W: what the top has left, the end; printed by k4w.py. -/
namespace K4
open PySem PySem.Spec PyProof.Rows L2 CD
section
variable {K : PySem.W.Frag} {h : Heap} {mg : Str → Option Value} {Goal : Prop}
theorem kit_no {C : Addr} {T : String} (hs : PySem.W.subIn K (.ref C) (.type T) = some false) (hm : PySem.W.kitMeta T = true) : PySem.W.kitOne K (.ref C) (.type T) = some false := by
  unfold PySem.W.kitOne PySem.W.kitCls
  rw [if_neg (by simp)]
  dsimp only
  rw [if_pos hm]
  exact hs
theorem kit_nb {C : Addr} {t : String} (h0 : PySem.W.mroIn K C (.type "object") = some true) (ht : PySem.W.typeIn K (.ref C) = some (.type "type")) (hs : PySem.W.subIn K (.type t) (.ref C) = some false) : PySem.W.kitOne K (.type t) (.ref C) = some false := by
  have hc : (PySem.W.clsIn K C).isSome = true := by
    unfold PySem.W.mroIn at h0
    cases h : PySem.W.clsIn K C with
    | none => rw [h] at h0; cases h0
    | some cd => rfl
  unfold PySem.W.kitOne PySem.W.kitCls
  rw [if_neg (by simp)]
  dsimp only
  rw [if_pos (by rw [hc, ht]; rfl)]
  exact hs
theorem kit_self {C : Addr} : PySem.W.kitOne K (.ref C) (.ref C) = some true := by
  unfold PySem.W.kitOne
  rw [if_pos (by simp)]
theorem with_fun {x : Str} {st : Stmt} {f : Addr} {oc : Value} {od an : Option Addr} {osl : Array (Option Value)} {kV doc pm cdv ct : Value} (X : K.In h) (G : h.Ns mainGlobals mg) (a : PySem.W.nsIn K mainGlobals x = some (some (.ref f)))
    (l : K.lookup f = some ⟨oc, od, .func (PySem.W.fnOf x x (defArgs st) (defBody st) (defScope st) .none kV doc pm an cdv ct), osl⟩) (c : PySem.W.codeIn K cdv x = true) (k : PySem.W.keepIn K (.ref f) = true)
    (next : ∀ f fd, Fun K x x st f fd → mg x = some (.ref f) → Goal) : Goal := next _ _ (fun_mk (st := st) l c k) (PySem.W.mg_of X G a)
theorem with_meth {C : Addr} {x qual : Str} {st : Stmt} {f : Addr} {oc : Value} {od an : Option Addr} {osl : Array (Option Value)} {kV doc pm cdv ct : Value} (hk : HK ⟨C, K⟩) (a : PySem.W.findIn K (.ref C) x = some (some (.ref f))) (i : PySem.W.isFn K (.ref f) = true)
    (l : K.lookup f = some ⟨oc, od, .func (PySem.W.fnOf x qual (defArgs st) (defBody st) (defScope st) .none kV doc pm an cdv ct), osl⟩) (c : PySem.W.codeIn K cdv qual = true) (k : PySem.W.keepIn K (.ref f) = true)
    (next : ∀ f fd, Fun K x qual st f fd → Meth K C x f → Goal) : Goal := next _ _ (fun_mk (st := st) l c k) ⟨a, i, k⟩
theorem with_none {x : Str} (X : K.In h) (G : h.Ns mainGlobals mg) (a : PySem.W.nsIn K mainGlobals x = some none) (next : mg x = none → Goal) : Goal := next (PySem.W.mg_none_of X G a)
theorem with_class {C : Addr} (X : K.In h) (G : h.Ns mainGlobals mg) (aC : PySem.W.nsIn K mainGlobals "House" = some (some (.ref C)))
    (pg : PySem.W.plainGet K C Str.empty = true) (hd : PySem.W.hasDictIn K C = true) (po : PySem.W.plainOver K C = true) (sa : PySem.W.findIn K (.ref C) "__setattr__" = some (some (.builtin "object.__setattr__"))) (mk : PySem.W.makesIn K C = true) (kc : PySem.W.keepIn K (.ref C) = true)
    (ha : PySem.W.findIn K (.ref C) "__class__" = some (some (.builtin "object.__class__"))) (hn : PySem.W.specialIn K (.builtin "object.__class__") "__get__" = some (some (.builtin "getset_descriptor.__get__"))) (htk : PySem.W.takesIn K (.builtin "object.__class__") = some true) (hm : PySem.W.mroIn K C (.type "object") = some true)
    (n1 : PySem.W.subIn K (.ref C) (.type "int") = some false) (n2 : PySem.W.subIn K (.ref C) (.type "bool") = some false) (n3 : PySem.W.subIn K (.ref C) (.type "list") = some false) (n4 : PySem.W.subIn K (.ref C) (.type "tuple") = some false) (n5 : PySem.W.subIn K (.ref C) (.type "dict") = some false) (n6 : PySem.W.subIn K (.ref C) (.type "str") = some false)
    (m1 : PySem.W.subIn K (.type "NoneType") (.ref C) = some false) (m2 : PySem.W.subIn K (.type "bool") (.ref C) = some false) (m3 : PySem.W.subIn K (.type "int") (.ref C) = some false) (m4 : PySem.W.subIn K (.type "str") (.ref C) = some false) (m5 : PySem.W.subIn K (.type "list") (.ref C) = some false) (m6 : PySem.W.subIn K (.type "tuple") (.ref C) = some false)
    (tt : PySem.W.typeIn K (.ref C) = some (.type "type")) (nB : PySem.W.findIn K (.ref C) "_bases" = some none) (nR : PySem.W.findIn K (.ref C) "_rooms" = some none) (ne : PySem.W.findIn K (.ref C) "__ne__" = some (some (.builtin "object.__ne__")))
    (next : mg "House" = some (.ref C) → HK ⟨C, K⟩ → (∀ f : Addr, PySem.W.findIn K (.ref C) "__init__" = some (some (.ref f)) → PySem.W.isFn K (.ref f) = true → L2.Mk K C f) → PySem.W.findIn K (.ref C) "__ne__" = some (some (.builtin "object.__ne__")) → Goal) : Goal :=
  next (PySem.W.mg_of X G aC) ⟨⟨pg, hd, po, sa⟩, ha, hn, htk, hm, fun T hT => by
    simp only [List.mem_cons, List.not_mem_nil, or_false] at hT
    rcases hT with rfl | rfl | rfl | rfl | rfl | rfl <;> exact kit_no (by assumption) (by decide +kernel), fun T hT => by
    simp only [List.mem_cons, List.not_mem_nil, or_false] at hT
    rcases hT with rfl | rfl | rfl | rfl | rfl | rfl <;> exact kit_nb hm tt (by assumption), kit_self, nB, nR⟩ (fun f a i => ⟨mk, a, i, kc⟩) ne
theorem txt_of {C : Hc} (hk : HK C) (T : Txt mg C) : Txt mg C := T
theorem binds1 {x qual p : Str} {st : Stmt} {f : Addr} {fd : FuncData} (F : Fun K x qual st f fd) (h : ∀ (kV doc pm : Value) (an : Option Addr) (cdv ct u : Value), bindArgs (PySem.W.fnOf x qual (defArgs st) (defBody st) (defScope st) .none kV doc pm an cdv ct) ⟨[u], []⟩ = pure [(p, u)]) : ∀ (s : Shared) (u : Value), BindsTo s fd ⟨[u], []⟩ [(p, u)] := by
  obtain ⟨oc, od, kV, doc, pm, an, cdv, ct, osl, rfl, lk, hcd⟩ := F.ex
  exact fun s u => .of_eq (h kV doc pm an cdv ct u)
end
theorem walk {l : PySem.W.OpenLaw} {q : Program} {loose : List Str} {XP : (Str → Option Value) → Heap → Prop} {YP : World → Heap → Prop} {d : DefRec} {K : Params → PySem.W.Frag} (hn : l.most = some 63) (hdf : d.params.defaults = [])
    (hY : ∀ (w : World) (h : Heap), YP w h → (K w.params).In h)
    (F : ∀ (w : World) (mg : Str → Option Value) (fa : Addr) (h : Heap), (K w.params).In h → h.Ns mainGlobals mg → mg d.name = some (.ref fa) →
      ∃ fd : FuncData, (∀ (s : Shared) (u : Value), BindsTo s fd ⟨[u], []⟩ [("_law_script", u)]) ∧ ∀ base : Heap, (K w.params).In base → base.Ns mainGlobals mg → FnOk l.prog w (K w.params) mg base CX0 12 fa fd ["_law_script"] (spLaw (K w.params))) :
    PySem.W.WalkO q loose XP YP l.row.toRowW d [] (fun f vs => PySem.call f vs) :=
  L2.walk_of (n := 63) (k := 12) (x := "_law_script") (CX := fun _ => CX0) (sp := fun w => spLaw (K w.params)) hn (by decide) hdf ⟨rfl, by decide, by decide⟩ hY F (fun _ _ a ns hl _ hS => ⟨a, ns, rfl, hS, hl, fun _ => rfl⟩) fun _ _ _ _ _ z => z
end K4
open PySem PySem.W PyProof.Rows in
set_option maxRecDepth 100000 in
set_option maxHeartbeats 0 in
theorem PySem.Challenge.cw_carryways_k04_whole_houses_made_of_house_holds : PySem.Challenge.rw_carryways_k04_whole_houses_made_of_house.Holds := by
  w_on; o_law; k_head; (case hw => w_witness2)
  k_fill
  refine K4.walk (l := PySem.Challenge.rw_carryways_k04_whole_houses_made_of_house) rfl rfl (fun w h Y => PySem.W.kIn_of Y) ?F
  case F =>
    intro w mg fa h KX G hmg
    refine' K4.with_class KX G ?aC_1 ?pg_1 ?hd_1 ?po_1 ?sa_1 ?mk_1 ?kc_1 ?ha_1 ?hn_1 ?htk_1 ?hm_1 ?n1_1 ?n2_1 ?n3_1 ?n4_1 ?n5_1 ?n6_1 ?m1_1 ?m2_1 ?m3_1 ?m4_1 ?m5_1 ?m6_1 ?tt_1 ?nB_1 ?nR_1 ?ne_1 ?nx_1
    (case aC_1 => k_is); (case pg_1 => k_is); (case hd_1 => k_is); (case po_1 => k_is); (case sa_1 => k_is); (case mk_1 => k_is); (case kc_1 => k_is); (case ha_1 => k_is); (case hn_1 => k_is); (case htk_1 => k_is); (case hm_1 => k_is); (case n1_1 => k_is); (case n2_1 => k_is); (case n3_1 => k_is); (case n4_1 => k_is); (case n5_1 => k_is); (case n6_1 => k_is); (case m1_1 => k_is); (case m2_1 => k_is); (case m3_1 => k_is); (case m4_1 => k_is); (case m5_1 => k_is); (case m6_1 => k_is); (case tt_1 => k_is); (case nB_1 => k_is); (case nR_1 => k_is); (case ne_1 => k_is)
    intro gC hk mkI nE
    refine' K4.with_none (x := "len") KX G ?a_2 ?nx_2
    (case a_2 => k_is)
    intro z_len
    refine' K4.with_none (x := "sum") KX G ?a_3 ?nx_3
    (case a_3 => k_is)
    intro z_sum
    refine' K4.with_none (x := "all") KX G ?a_4 ?nx_4
    (case a_4 => k_is)
    intro z_all
    refine' K4.with_none (x := "any") KX G ?a_5 ?nx_5
    (case a_5 => k_is)
    intro z_any
    refine' K4.with_none (x := "min") KX G ?a_6 ?nx_6
    (case a_6 => k_is)
    intro z_min
    refine' K4.with_none (x := "max") KX G ?a_7 ?nx_7
    (case a_7 => k_is)
    intro z_max
    refine' K4.with_none (x := "int") KX G ?a_8 ?nx_8
    (case a_8 => k_is)
    intro z_int
    refine' K4.with_none (x := "bool") KX G ?a_9 ?nx_9
    (case a_9 => k_is)
    intro z_bool
    refine' K4.with_none (x := "list") KX G ?a_10 ?nx_10
    (case a_10 => k_is)
    intro z_list
    refine' K4.with_none (x := "tuple") KX G ?a_11 ?nx_11
    (case a_11 => k_is)
    intro z_tuple
    refine' K4.with_none (x := "dict") KX G ?a_12 ?nx_12
    (case a_12 => k_is)
    intro z_dict
    refine' K4.with_none (x := "str") KX G ?a_13 ?nx_13
    (case a_13 => k_is)
    intro z_str
    refine' K4.with_none (x := "isinstance") KX G ?a_14 ?nx_14
    (case a_14 => k_is)
    intro z_isinstance
    refine' K4.with_none (x := "range") KX G ?a_15 ?nx_15
    (case a_15 => k_is)
    intro z_range
    refine' K4.with_none (x := "zip") KX G ?a_16 ?nx_16
    (case a_16 => k_is)
    intro z_zip
    refine' K4.with_none (x := "enumerate") KX G ?a_17 ?nx_17
    (case a_17 => k_is)
    intro z_enumerate
    refine' K4.with_none (x := "reversed") KX G ?a_18 ?nx_18
    (case a_18 => k_is)
    intro z_reversed
    refine' K4.with_none (x := "divmod") KX G ?a_19 ?nx_19
    (case a_19 => k_is)
    intro z_divmod
    refine' K4.with_fun (x := "is_whole") (st := K4.s_is_whole) KX G ?a_20 ?l_20 ?c_20 ?k_20 ?nx_20
    (case a_20 => k_is); (case l_20 => k_is); (case c_20 => k_is); (case k_20 => k_is)
    intro f_is_whole fd_is_whole u_is_whole g_is_whole
    refine' K4.with_fun (x := "is_count") (st := K4.s_is_count) KX G ?a_21 ?l_21 ?c_21 ?k_21 ?nx_21
    (case a_21 => k_is); (case l_21 => k_is); (case c_21 => k_is); (case k_21 => k_is)
    intro f_is_count fd_is_count u_is_count g_is_count
    refine' K4.with_fun (x := "is_count_below") (st := K4.s_is_count_below) KX G ?a_22 ?l_22 ?c_22 ?k_22 ?nx_22
    (case a_22 => k_is); (case l_22 => k_is); (case c_22 => k_is); (case k_22 => k_is)
    intro f_is_count_below fd_is_count_below u_is_count_below g_is_count_below
    refine' K4.with_fun (x := "is_base") (st := K4.s_is_base) KX G ?a_23 ?l_23 ?c_23 ?k_23 ?nx_23
    (case a_23 => k_is); (case l_23 => k_is); (case c_23 => k_is); (case k_23 => k_is)
    intro f_is_base fd_is_base u_is_base g_is_base
    refine' K4.with_fun (x := "are_bases") (st := K4.s_are_bases) KX G ?a_24 ?l_24 ?c_24 ?k_24 ?nx_24
    (case a_24 => k_is); (case l_24 => k_is); (case c_24 => k_is); (case k_24 => k_is)
    intro f_are_bases fd_are_bases u_are_bases g_are_bases
    refine' K4.with_fun (x := "are_counts") (st := K4.s_are_counts) KX G ?a_25 ?l_25 ?c_25 ?k_25 ?nx_25
    (case a_25 => k_is); (case l_25 => k_is); (case c_25 => k_is); (case k_25 => k_is)
    intro f_are_counts fd_are_counts u_are_counts g_are_counts
    refine' K4.with_fun (x := "are_counts_within") (st := K4.s_are_counts_within) KX G ?a_26 ?l_26 ?c_26 ?k_26 ?nx_26
    (case a_26 => k_is); (case l_26 => k_is); (case c_26 => k_is); (case k_26 => k_is)
    intro f_are_counts_within fd_are_counts_within u_are_counts_within g_are_counts_within
    refine' K4.with_meth (x := "bases") (qual := "House.bases") (st := K4.s_House_bases) hk ?a_27 ?i_27 ?l_27 ?c_27 ?k_27 ?nx_27
    (case a_27 => k_is); (case i_27 => k_is); (case l_27 => k_is); (case c_27 => k_is); (case k_27 => k_is)
    intro f_House_bases fd_House_bases u_House_bases g_House_bases
    refine' K4.with_meth (x := "rooms") (qual := "House.rooms") (st := K4.s_House_rooms) hk ?a_28 ?i_28 ?l_28 ?c_28 ?k_28 ?nx_28
    (case a_28 => k_is); (case i_28 => k_is); (case l_28 => k_is); (case c_28 => k_is); (case k_28 => k_is)
    intro f_House_rooms fd_House_rooms u_House_rooms g_House_rooms
    refine' K4.with_meth (x := "places") (qual := "House.places") (st := K4.s_House_places) hk ?a_29 ?i_29 ?l_29 ?c_29 ?k_29 ?nx_29
    (case a_29 => k_is); (case i_29 => k_is); (case l_29 => k_is); (case c_29 => k_is); (case k_29 => k_is)
    intro f_House_places fd_House_places u_House_places g_House_places
    refine' K4.with_fun (x := "check_house") (st := K4.s_check_house) KX G ?a_30 ?l_30 ?c_30 ?k_30 ?nx_30
    (case a_30 => k_is); (case l_30 => k_is); (case c_30 => k_is); (case k_30 => k_is)
    intro f_check_house fd_check_house u_check_house g_check_house
    refine' K4.with_fun (x := "check_place") (st := K4.s_check_place) KX G ?a_31 ?l_31 ?c_31 ?k_31 ?nx_31
    (case a_31 => k_is); (case l_31 => k_is); (case c_31 => k_is); (case k_31 => k_is)
    intro f_check_place fd_check_place u_check_place g_check_place
    refine' K4.with_fun (x := "check_like_houses") (st := K4.s_check_like_houses) KX G ?a_32 ?l_32 ?c_32 ?k_32 ?nx_32
    (case a_32 => k_is); (case l_32 => k_is); (case c_32 => k_is); (case k_32 => k_is)
    intro f_check_like_houses fd_check_like_houses u_check_like_houses g_check_like_houses
    refine' K4.with_fun (x := "weights") (st := K4.s_weights) KX G ?a_33 ?l_33 ?c_33 ?k_33 ?nx_33
    (case a_33 => k_is); (case l_33 => k_is); (case c_33 => k_is); (case k_33 => k_is)
    intro f_weights fd_weights u_weights g_weights
    refine' K4.with_fun (x := "held_up_to") (st := K4.s_held_up_to) KX G ?a_34 ?l_34 ?c_34 ?k_34 ?nx_34
    (case a_34 => k_is); (case l_34 => k_is); (case c_34 => k_is); (case k_34 => k_is)
    intro f_held_up_to fd_held_up_to u_held_up_to g_held_up_to
    refine' K4.with_fun (x := "many_rows") (st := K4.s_many_rows) KX G ?a_35 ?l_35 ?c_35 ?k_35 ?nx_35
    (case a_35 => k_is); (case l_35 => k_is); (case c_35 => k_is); (case k_35 => k_is)
    intro f_many_rows fd_many_rows u_many_rows g_many_rows
    refine' K4.with_fun (x := "is_within") (st := K4.s_is_within) KX G ?a_36 ?l_36 ?c_36 ?k_36 ?nx_36
    (case a_36 => k_is); (case l_36 => k_is); (case c_36 => k_is); (case k_36 => k_is)
    intro f_is_within fd_is_within u_is_within g_is_within
    refine' K4.with_fun (x := "lesser_house") (st := K4.s_lesser_house) KX G ?a_37 ?l_37 ?c_37 ?k_37 ?nx_37
    (case a_37 => k_is); (case l_37 => k_is); (case c_37 => k_is); (case k_37 => k_is)
    intro f_lesser_house fd_lesser_house u_lesser_house g_lesser_house
    refine' K4.with_fun (x := "greater_house") (st := K4.s_greater_house) KX G ?a_38 ?l_38 ?c_38 ?k_38 ?nx_38
    (case a_38 => k_is); (case l_38 => k_is); (case c_38 => k_is); (case k_38 => k_is)
    intro f_greater_house fd_greater_house u_greater_house g_greater_house
    refine' K4.with_fun (x := "with_room") (st := K4.s_with_room) KX G ?a_39 ?l_39 ?c_39 ?k_39 ?nx_39
    (case a_39 => k_is); (case l_39 => k_is); (case c_39 => k_is); (case k_39 => k_is)
    intro f_with_room fd_with_room u_with_room g_with_room
    refine' K4.with_fun (x := "stretch") (st := K4.s_stretch) KX G ?a_40 ?l_40 ?c_40 ?k_40 ?nx_40
    (case a_40 => k_is); (case l_40 => k_is); (case c_40 => k_is); (case k_40 => k_is)
    intro f_stretch fd_stretch u_stretch g_stretch
    refine' K4.with_fun (x := "set_behind") (st := K4.s_set_behind) KX G ?a_41 ?l_41 ?c_41 ?k_41 ?nx_41
    (case a_41 => k_is); (case l_41 => k_is); (case c_41 => k_is); (case k_41 => k_is)
    intro f_set_behind fd_set_behind u_set_behind g_set_behind
    refine' K4.with_fun (x := "tightened") (st := K4.s_tightened) KX G ?a_42 ?l_42 ?c_42 ?k_42 ?nx_42
    (case a_42 => k_is); (case l_42 => k_is); (case c_42 => k_is); (case k_42 => k_is)
    intro f_tightened fd_tightened u_tightened g_tightened
    refine' K4.with_fun (x := "_law_purse") (st := K4.s__law_purse) KX G ?a_43 ?l_43 ?c_43 ?k_43 ?nx_43
    (case a_43 => k_is); (case l_43 => k_is); (case c_43 => k_is); (case k_43 => k_is)
    intro f__law_purse fd__law_purse u__law_purse g__law_purse
    refine' K4.with_fun (x := "_law_mixed") (st := K4.s__law_mixed) KX G ?a_44 ?l_44 ?c_44 ?k_44 ?nx_44
    (case a_44 => k_is); (case l_44 => k_is); (case c_44 => k_is); (case k_44 => k_is)
    intro f__law_mixed fd__law_mixed u__law_mixed g__law_mixed
    refine' K4.with_fun (x := "_law_draw") (st := K4.s__law_draw) KX G ?a_45 ?l_45 ?c_45 ?k_45 ?nx_45
    (case a_45 => k_is); (case l_45 => k_is); (case c_45 => k_is); (case k_45 => k_is)
    intro f__law_draw fd__law_draw u__law_draw g__law_draw
    refine' K4.with_fun (x := "_law_purses") (st := K4.s__law_purses) KX G ?a_46 ?l_46 ?c_46 ?k_46 ?nx_46
    (case a_46 => k_is); (case l_46 => k_is); (case c_46 => k_is); (case k_46 => k_is)
    intro f__law_purses fd__law_purses u__law_purses g__law_purses
    refine' K4.with_fun (x := "_law_one_of") (st := K4.s__law_one_of) KX G ?a_47 ?l_47 ?c_47 ?k_47 ?nx_47
    (case a_47 => k_is); (case l_47 => k_is); (case c_47 => k_is); (case k_47 => k_is)
    intro f__law_one_of fd__law_one_of u__law_one_of g__law_one_of
    refine' K4.with_fun (x := "_law_exact") (st := K4.s__law_exact) KX G ?a_48 ?l_48 ?c_48 ?k_48 ?nx_48
    (case a_48 => k_is); (case l_48 => k_is); (case c_48 => k_is); (case k_48 => k_is)
    intro f__law_exact fd__law_exact u__law_exact g__law_exact
    refine' K4.with_fun (x := "_law_weights") (st := K4.s__law_weights) KX G ?a_49 ?l_49 ?c_49 ?k_49 ?nx_49
    (case a_49 => k_is); (case l_49 => k_is); (case c_49 => k_is); (case k_49 => k_is)
    intro f__law_weights fd__law_weights u__law_weights g__law_weights
    refine' K4.with_fun (x := "_law_many_rows") (st := K4.s__law_many_rows) KX G ?a_50 ?l_50 ?c_50 ?k_50 ?nx_50
    (case a_50 => k_is); (case l_50 => k_is); (case c_50 => k_is); (case k_50 => k_is)
    intro f__law_many_rows fd__law_many_rows u__law_many_rows g__law_many_rows
    refine' K4.with_fun (x := "_law_house") (st := K4.s__law_house) KX G ?a_51 ?l_51 ?c_51 ?k_51 ?nx_51
    (case a_51 => k_is); (case l_51 => k_is); (case c_51 => k_is); (case k_51 => k_is)
    intro f__law_house fd__law_house u__law_house g__law_house
    refine' K4.with_fun (x := "_law_great_house") (st := K4.s__law_great_house) KX G ?a_52 ?l_52 ?c_52 ?k_52 ?nx_52
    (case a_52 => k_is); (case l_52 => k_is); (case c_52 => k_is); (case k_52 => k_is)
    intro f__law_great_house fd__law_great_house u__law_great_house g__law_great_house
    refine' K4.with_fun (x := "_law_made") (st := K4.s__law_made) KX G ?a_53 ?l_53 ?c_53 ?k_53 ?nx_53
    (case a_53 => k_is); (case l_53 => k_is); (case c_53 => k_is); (case k_53 => k_is)
    intro f__law_made fd__law_made u__law_made g__law_made
    refine' K4.with_fun (x := "_law_told_of") (st := K4.s__law_told_of) KX G ?a_54 ?l_54 ?c_54 ?k_54 ?nx_54
    (case a_54 => k_is); (case l_54 => k_is); (case c_54 => k_is); (case k_54 => k_is)
    intro f__law_told_of fd__law_told_of u__law_told_of g__law_told_of
    refine' K4.with_fun (x := "_law_places_right") (st := K4.s__law_places_right) KX G ?a_55 ?l_55 ?c_55 ?k_55 ?nx_55
    (case a_55 => k_is); (case l_55 => k_is); (case c_55 => k_is); (case k_55 => k_is)
    intro f__law_places_right fd__law_places_right u__law_places_right g__law_places_right
    refine' K4.with_fun (x := "_law_two_right") (st := K4.s__law_two_right) KX G ?a_56 ?l_56 ?c_56 ?k_56 ?nx_56
    (case a_56 => k_is); (case l_56 => k_is); (case c_56 => k_is); (case k_56 => k_is)
    intro f__law_two_right fd__law_two_right u__law_two_right g__law_two_right
    refine' K4.with_fun (x := "_law_behind_right") (st := K4.s__law_behind_right) KX G ?a_57 ?l_57 ?c_57 ?k_57 ?nx_57
    (case a_57 => k_is); (case l_57 => k_is); (case c_57 => k_is); (case k_57 => k_is)
    intro f__law_behind_right fd__law_behind_right u__law_behind_right g__law_behind_right
    refine' K4.with_fun (x := "law") (st := K4.s_law) KX G ?a_58 ?l_58 ?c_58 ?k_58 ?nx_58
    (case a_58 => k_is); (case l_58 => k_is); (case c_58 => k_is); (case k_58 => k_is)
    intro f_law fd_law u_law g_law
    refine' K4.with_meth (x := "__init__") (qual := "House.__init__") (st := K4.s_House___init__) hk ?a_59 ?i_59 ?l_59 ?c_59 ?k_59 ?nx_59
    (case a_59 => k_is); (case i_59 => k_is); (case l_59 => k_is); (case c_59 => k_is); (case k_59 => k_is)
    intro f_I fd_I u_I g_I
    refine' K4.with_meth (x := "__eq__") (qual := "House.__eq__") (st := K4.s_House___eq__) hk ?a_60 ?i_60 ?l_60 ?c_60 ?k_60 ?nx_60
    (case a_60 => k_is); (case i_60 => k_is); (case l_60 => k_is); (case c_60 => k_is); (case k_60 => k_is)
    intro f_E fd_E u_E g_E
    have T := K4.txt_of hk ⟨z_len, z_sum, z_all, z_any, z_min, z_max, z_int, z_bool, z_list, z_tuple, z_dict, z_str, z_isinstance, z_range, z_zip, z_enumerate, z_reversed, z_divmod, gC⟩
    cases hmg.symm.trans g_law
    exact ⟨fd_law, K4.binds1 u_law fun _ _ _ _ _ _ _ => rfl, fun base _ _ => (K4.law_ok (xa := fun _ => 0) T hk rfl (mkI _ g_I.at_ g_I.fn) u_I u_E g_E nE u_is_whole g_is_whole u_is_count g_is_count u_is_count_below g_is_count_below u_is_base g_is_base u_are_bases g_are_bases u_are_counts g_are_counts u_are_counts_within g_are_counts_within u_House_bases g_House_bases u_House_rooms g_House_rooms u_House_places g_House_places u_check_house g_check_house u_check_place g_check_place u_check_like_houses g_check_like_houses u_weights g_weights u_held_up_to g_held_up_to u_many_rows g_many_rows u_is_within g_is_within u_lesser_house g_lesser_house u_greater_house g_greater_house u_with_room g_with_room u_stretch g_stretch u_set_behind g_set_behind u_tightened g_tightened u__law_purse g__law_purse u__law_mixed g__law_mixed u__law_draw g__law_draw u__law_purses g__law_purses u__law_one_of g__law_one_of u__law_exact g__law_exact u__law_weights g__law_weights u__law_many_rows g__law_many_rows u__law_house g__law_house u__law_great_house g__law_great_house u__law_made g__law_made u__law_told_of g__law_told_of u__law_places_right g__law_places_right u__law_two_right g__law_two_right u__law_behind_right g__law_behind_right u_law g_law).imp (K4.law_sp rfl)⟩
