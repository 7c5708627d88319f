import PyProof.Rows.All
import Wide.All
import OpenK.AllK
import Wide.FinOn
import HandS.Conv
import HandS.Deep
import HandS.Flow
import HandS.ForExc
import HandS.ForMost
import HandS.IsInst
import HandS.ReplaceDef
import HandS.ReplaceList
import HandS.ReplaceLit
import HandS.SetFor
import HandS.SortInts
import HandS.Strs
import HandS.Style
import HandS.TupAny
import HandS.Walk
import HandS.Wide
import HandS.WideBits
import HandS.Zip
import HandS.Zip0
import KE.DataCmp
import KE.GoesMore
import KE.KDictZip
import KE.KTupSum
import KE.SortData
import PyProof.ListStr
import PySem.Challenge.RW_facesparted_k05_whole_faces_and_sets
set_option Elab.async false
set_option linter.all false
set_option maxRecDepth 100000
namespace G
open PySem PySem.Spec PyProof.Rows L2

abbrev D := PyData
abbrev Frag := PySem.W.Frag

/-! ### data in a heap: lists are tracked as they are -/
mutual
inductive Dq (K : Frag) (H : Hp) : V → PyData → Prop
  | non : Dq K H .non .none
  | bl (b : Bool) : Dq K H (.bl b) (.bool b)
  | int (i : Int) : Dq K H (.int i) (.int i)
  | str (x : Str) : Dq K H (.str x) (.str x)
  | lst {a : Addr} {xs : List V} {ds : List PyData} : H a = some (.lst xs) → DqAll K H xs ds → Dq K H (.ref a) (.list ds)
  | tup {a : Addr} {xs : List V} {ds : List PyData} : SqT K H a xs → DqAll K H xs ds → Dq K H (.ref a) (.tuple ds)
inductive DqAll (K : Frag) (H : Hp) : List V → List PyData → Prop
  | nil : DqAll K H [] []
  | cons {v : V} {vs : List V} {d : PyData} {ds : List PyData} : Dq K H v d → DqAll K H vs ds → DqAll K H (v :: vs) (d :: ds)
end
mutual
theorem Dq.dp {K : Frag} {Z : Hp} : ∀ {v : V} {d : D}, Dq K Z v d → Dp K Z v d
  | _, _, .non => .non
  | _, _, .bl b => .bl b
  | _, _, .int i => .int i
  | _, _, .str x => .str x
  | _, _, .lst q a => .lst (.inl (.inl q)) (DqAll.dp a)
  | _, _, .tup q a => .tup q (DqAll.dp a)
theorem DqAll.dp {K : Frag} {Z : Hp} : ∀ {vs : List V} {ds : List D}, DqAll K Z vs ds → DpAll K Z vs ds
  | _, _, .nil => .nil
  | _, _, .cons a b => .cons (Dq.dp a) (DqAll.dp b)
end
theorem same_tup {K : Frag} {H H' : Hp} {a : Addr} {xs : List V} (e : Same H H') (h : SqT K H a xs) : SqT K H' a xs := by
  rcases h with h | h
  · refine .inl ?_
    rcases h with h | ⟨o, h⟩
    · exact .inl (e a _ h)
    · exact .inr ⟨o, e a _ h⟩
  · exact .inr h
mutual
theorem dp_mono {K : Frag} {Z Z' : Hp} (h : Same Z Z') : ∀ {v : V} {d : D}, Dq K Z v d → Dq K Z' v d
  | _, _, .non => .non
  | _, _, .bl b => .bl b
  | _, _, .int i => .int i
  | _, _, .str x => .str x
  | _, _, .lst q a => .lst (h _ _ q) (dpa_mono h a)
  | _, _, .tup q a => .tup (same_tup h q) (dpa_mono h a)
theorem dpa_mono {K : Frag} {Z Z' : Hp} (h : Same Z Z') : ∀ {vs : List V} {ds : List D}, DqAll K Z vs ds → DqAll K Z' vs ds
  | _, _, .nil => .nil
  | _, _, .cons a b => .cons (dp_mono h a) (dpa_mono h b)
end
theorem dpa_len {K : Frag} {Z : Hp} : ∀ {vs : List V} {ds : List D}, DqAll K Z vs ds → vs.length = ds.length
  | _, _, .nil => rfl
  | _, _, .cons _ b => by simp [dpa_len b]
theorem dpa_get {K : Frag} {Z : Hp} : ∀ {vs : List V} {ds : List D} {i : Nat} {d : D}, DqAll K Z vs ds → ds[i]? = some d → ∃ v, vs[i]? = some v ∧ Dq K Z v d
  | _, _, 0, _, .cons a _, e => ⟨_, rfl, by cases e; exact a⟩
  | _, _, i + 1, d, .cons _ b, e => by
    obtain ⟨v, h1, h2⟩ := dpa_get (i := i) b (by simpa using e)
    exact ⟨v, by simpa using h1, h2⟩
theorem dpa_get' {K : Frag} {Z : Hp} : ∀ {vs : List V} {ds : List D} {i : Nat} {v : V}, DqAll K Z vs ds → vs[i]? = some v → ∃ d, ds[i]? = some d ∧ Dq K Z v d
  | _, _, 0, _, .cons a _, e => ⟨_, rfl, by cases e; exact a⟩
  | _, _, i + 1, d, .cons _ b, e => by
    obtain ⟨v, h1, h2⟩ := dpa_get' (i := i) b (by simpa using e)
    exact ⟨v, by simpa using h1, h2⟩
theorem dpa_app {K : Frag} {Z : Hp} : ∀ {vs ws : List V} {ds es : List D}, DqAll K Z vs ds → DqAll K Z ws es → DqAll K Z (vs ++ ws) (ds ++ es)
  | _, _, _, _, .nil, h => h
  | _, _, _, _, .cons a b, h => .cons a (dpa_app b h)
theorem dpa_take {K : Frag} {Z : Hp} : ∀ {vs : List V} {ds : List D} (n : Nat), DqAll K Z vs ds → DqAll K Z (vs.take n) (ds.take n)
  | _, _, 0, _ => .nil
  | _, _, _ + 1, .nil => .nil
  | _, _, n + 1, .cons a b => .cons a (dpa_take n b)
theorem dpa_drop {K : Frag} {Z : Hp} : ∀ {vs : List V} {ds : List D} (n : Nat), DqAll K Z vs ds → DqAll K Z (vs.drop n) (ds.drop n)
  | _, _, 0, h => h
  | _, _, _ + 1, .nil => .nil
  | _, _, n + 1, .cons a b => dpa_drop n b
theorem dpa_set {K : Frag} {Z : Hp} {v : V} {d : D} (h : Dq K Z v d) : ∀ {vs : List V} {ds : List D} (n : Nat), DqAll K Z vs ds → DqAll K Z (vs.set n v) (ds.set n d)
  | _, _, _, .nil => .nil
  | _, _, 0, .cons a b => .cons h b
  | _, _, n + 1, .cons a b => .cons a (dpa_set h n b)
theorem dpa_rev {K : Frag} {Z : Hp} : ∀ {vs : List V} {ds : List D}, DqAll K Z vs ds → DqAll K Z vs.reverse ds.reverse
  | _, _, .nil => .nil
  | _, _, .cons a b => by
    rw [List.reverse_cons, List.reverse_cons]
    exact dpa_app (dpa_rev b) (.cons a .nil)
theorem dpa_erase {K : Frag} {Z : Hp} : ∀ {vs : List V} {ds : List D} (n : Nat), DqAll K Z vs ds → DqAll K Z (vs.eraseIdx n) (ds.eraseIdx n)
  | _, _, _, .nil => .nil
  | _, _, 0, .cons a b => b
  | _, _, n + 1, .cons a b => .cons a (dpa_erase n b)

/-! ### slots -/
inductive Ob where
  | lst (ds : List D)
  | dic (kvs : List (Key × D))
inductive Sl where
  | un
  | dat (d : D)
  | own (t : Option Nat) (o : Ob)
  | raw (v : V)
  | scr (ds : List D)
abbrev En := List Sl

/-- what an own object's content is in the heap -/
def ObOk (K : Frag) (Z : Hp) : Ob → HO → Prop
  | .lst ds, o => ∃ vs, o = .lst vs ∧ DqAll K Z vs ds
  | .dic kvs, o => ∃ ws : List (Key × V), o = .dK ws ∧ Paired (fun (a : Key × V) (b : Key × D) => a.1 = b.1 ∧ Dq K Z a.2 b.2) ws kvs
theorem ObOk.mono {K : Frag} {Z Z' : Hp} (h : Same Z Z') : ∀ {o : Ob} {x : HO}, ObOk K Z o x → ObOk K Z' o x
  | .lst _, _, ⟨vs, e, a⟩ => ⟨vs, e, dpa_mono h a⟩
  | .dic _, _, ⟨ws, e, a⟩ => ⟨ws, e, Paired.mapP a fun _ _ z => ⟨z.1, dp_mono h z.2⟩⟩

/-- the base: how things stood at an entry; W: what may be written -/
structure Bs where
  io : List Addr
  W : Addr → Prop
  H : Hp
  Z : Hp

def SlOk (K : Frag) (B : Bs) (Z H : Hp) : Sl → Option V → Prop
  | .un, _ => True
  | .dat d, x => ∃ v, x = some v ∧ Dq K Z v d
  | .raw v, x => x = some v
  | .scr ds, x => ∃ a vs, x = some (.ref a) ∧ SqL K Z a vs ∧ DqAll K Z vs ds
  | .own t o, x => ∃ p u, x = some (.ref p) ∧ H p = some u ∧ Z p = none ∧ ObOk K Z o u ∧ (B.H p = none ∨ B.W p) ∧ ∀ k, t = some k → B.io[k]? = some p

structure Rl (K : Frag) (B : Bs) (e : En) (σ : L2.St) (Z H : Hp) : Prop where
  len : e.length = σ.length
  ok : ∀ (i : Nat) (s : Sl) (x : Option V), e[i]? = some s → σ[i]? = some x → SlOk K B Z H s x
  sep : ∀ (i j : Nat) (t u : Option Nat) (a b : Ob), i ≠ j → e[i]? = some (.own t a) → e[j]? = some (.own u b) → σ[i]? ≠ σ[j]?
  sub : Same Z H
  zup : Same B.Z Z
  keep : ∀ a o, B.H a = some o → ¬ B.W a → H a = some o
  zfr : ∀ a o, B.H a = some o → ¬ B.W a → Z a = B.Z a

section
variable {K : Frag} {B : Bs} {e e' : En} {σ : L2.St} {Z Z' H H' : Hp}
theorem Rl.dat (R : Rl K B e σ Z H) {i : Nat} {d : D} (h : e[i]? = some (.dat d)) : ∃ v, σ[i]? = some (some v) ∧ Dq K Z v d := by
  have hi : i < σ.length := by rw [← R.len]; exact (List.getElem?_eq_some_iff.mp h).1
  obtain ⟨v, e1, e2⟩ := R.ok i _ σ[i] h (List.getElem?_eq_getElem hi)
  exact ⟨v, by rw [List.getElem?_eq_getElem hi, e1], e2⟩
theorem Rl.raw (R : Rl K B e σ Z H) {i : Nat} {v : V} (h : e[i]? = some (.raw v)) : σ[i]? = some (some v) := by
  have hi : i < σ.length := by rw [← R.len]; exact (List.getElem?_eq_some_iff.mp h).1
  have e1 : σ[i] = some v := R.ok i _ σ[i] h (List.getElem?_eq_getElem hi)
  rw [List.getElem?_eq_getElem hi, e1]
theorem Rl.own (R : Rl K B e σ Z H) {i : Nat} {t : Option Nat} {o : Ob} (h : e[i]? = some (.own t o)) :
    ∃ p u, σ[i]? = some (some (.ref p)) ∧ H p = some u ∧ Z p = none ∧ ObOk K Z o u ∧ (B.H p = none ∨ B.W p) ∧ ∀ k, t = some k → B.io[k]? = some p := by
  have hi : i < σ.length := by rw [← R.len]; exact (List.getElem?_eq_some_iff.mp h).1
  obtain ⟨p, u, e1, r⟩ := R.ok i _ σ[i] h (List.getElem?_eq_getElem hi)
  exact ⟨p, u, by rw [List.getElem?_eq_getElem hi, e1], r⟩
theorem Rl.scr (R : Rl K B e σ Z H) {i : Nat} {ds : List D} (h : e[i]? = some (.scr ds)) : ∃ a vs, σ[i]? = some (some (.ref a)) ∧ SqL K Z a vs ∧ DqAll K Z vs ds := by
  have hi : i < σ.length := by rw [← R.len]; exact (List.getElem?_eq_some_iff.mp h).1
  obtain ⟨a, vs, e1, e2⟩ := R.ok i _ σ[i] h (List.getElem?_eq_getElem hi)
  exact ⟨a, vs, by rw [List.getElem?_eq_getElem hi, e1], e2⟩
/-- an address that some slot owns -/
def Owns (e : En) (σ : L2.St) (p : Addr) : Prop := ∃ (i : Nat) (t : Option Nat) (o : Ob), e[i]? = some (.own t o) ∧ σ[i]? = some (some (.ref p))
theorem Rl.owns (R : Rl K B e σ Z H) {p : Addr} (h : Owns e σ p) : (∃ u, H p = some u) ∧ Z p = none ∧ (B.H p = none ∨ B.W p) := by
  obtain ⟨i, t, o, h1, h2⟩ := h
  obtain ⟨q, u, e1, e2, e3, _, e5, _⟩ := R.own h1
  rw [h2] at e1
  cases e1
  exact ⟨⟨u, e2⟩, e3, e5⟩
theorem Rl.owns_one (R : Rl K B e σ Z H) {p : Addr} {i j : Nat} {t u : Option Nat} {a b : Ob} (h1 : e[i]? = some (.own t a)) (h2 : σ[i]? = some (some (.ref p))) (h3 : e[j]? = some (.own u b)) (h4 : σ[j]? = some (some (.ref p))) : i = j := by
  by_cases h : i = j
  · exact h
  · exact absurd (h2.trans h4.symm) (R.sep i j t u a b h h1 h3)

/-- more is frozen, nothing else -/
theorem Rl.grow (R : Rl K B e σ Z H) (z : Same Z Z') (s : Same Z' H') (k : ∀ p, H p = none → True)
    (ho : ∀ p u, Owns e σ p → H p = some u → H' p = some u ∧ Z' p = none) (hk : ∀ a o, B.H a = some o → ¬ B.W a → H' a = some o ∧ Z' a = Z a) : Rl K B e σ Z' H' := by
  refine ⟨R.len, fun i sl x h1 h2 => ?_, R.sep, s, R.zup.trans z, fun a o h1 h2 => (hk a o h1 h2).1, fun a o h1 h2 => (hk a o h1 h2).2.trans (R.zfr a o h1 h2)⟩
  have q := R.ok i sl x h1 h2
  cases sl with
  | un => trivial
  | dat d => obtain ⟨v, e1, e2⟩ := q; exact ⟨v, e1, dp_mono z e2⟩
  | raw v => exact q
  | scr ds => obtain ⟨a, vs, e1, e2, e3⟩ := q; exact ⟨a, vs, e1, Same.seq z e2, dpa_mono z e3⟩
  | own t o =>
    obtain ⟨p, u, e1, e2, e3, e4, e5, e6⟩ := q
    subst e1
    have w := ho p u ⟨i, t, o, h1, h2⟩ e2
    exact ⟨p, u, rfl, w.1, w.2, e4.mono z, e5, e6⟩
/-- a new object, frozen -/
theorem Rl.new (R : Rl K B e σ Z H) {p : Addr} {o : HO} (h : H p = none) : Rl K B e σ (upd Z p o) (upd H p o) ∧ Same Z (upd Z p o) := by
  have zn : Z p = none := by
    cases q : Z p with
    | none => rfl
    | some u => rw [R.sub p u q] at h; cases h
  have s1 : Same Z (upd Z p o) := fun a u q => by rw [upd_ne (ne_of_none q zn)]; exact q
  refine ⟨R.grow s1 (fun a u q => ?_) (fun _ _ => trivial) (fun q u ow hq => ?_) (fun a u ha hw => ?_), s1⟩
  · by_cases ha : a = p
    · subst ha; rw [upd_same] at q ⊢; exact q
    · rw [upd_ne ha] at q ⊢; exact R.sub a u q
  · have hne : q ≠ p := ne_of_none hq h
    rw [upd_ne hne, upd_ne hne]
    exact ⟨hq, (R.owns ow).2.1⟩
  · have hq := R.keep a u ha hw
    have hne : a ≠ p := ne_of_none hq h
    rw [upd_ne hne, upd_ne hne]
    exact ⟨hq, rfl⟩
/-- a new object, not frozen -/
theorem Rl.new0 (R : Rl K B e σ Z H) {p : Addr} {o : HO} (h : H p = none) : Rl K B e σ Z (upd H p o) := by
  refine R.grow (Same.refl Z) (fun a u q => ?_) (fun _ _ => trivial) (fun q u ow hq => ?_) (fun a u ha hw => ?_)
  · have hne : a ≠ p := ne_of_none (R.sub a u q) h
    rw [upd_ne hne]; exact R.sub a u q
  · have hne : q ≠ p := ne_of_none hq h
    rw [upd_ne hne]
    exact ⟨hq, (R.owns ow).2.1⟩
  · have hq := R.keep a u ha hw
    have hne : a ≠ p := ne_of_none hq h
    rw [upd_ne hne]
    exact ⟨hq, rfl⟩
/-- a thing that no slot owns is written: frozen from now on or not -/
theorem Rl.fix (R : Rl K B e σ Z H) {p : Addr} {o : HO} (hz : Z p = none) (hb : B.H p = none ∨ B.W p) (hp : H p = some o) (ho : ¬ Owns e σ p) : Rl K B e σ (upd Z p o) H ∧ Same Z (upd Z p o) := by
  have s1 : Same Z (upd Z p o) := fun a u q => by rw [upd_ne (ne_of_none q hz)]; exact q
  refine ⟨R.grow s1 (fun a u q => ?_) (fun _ _ => trivial) (fun q u ow hq => ?_) (fun a u ha hw => ?_), s1⟩
  · by_cases ha : a = p
    · subst ha; rw [upd_same] at q; rw [hp, ← q]
    · rw [upd_ne ha] at q; exact R.sub a u q
  · have hne : q ≠ p := fun z => ho (z ▸ ow)
    rw [upd_ne hne]
    exact ⟨hq, (R.owns ow).2.1⟩
  · have hne : a ≠ p := fun z => by
      subst z
      rcases hb with hb | hb
      · rw [hb] at ha; cases ha
      · exact hw hb
    rw [upd_ne hne]
    exact ⟨R.keep a u ha hw, rfl⟩
/-- what no slot owns, young, is written -/
theorem Rl.wr (R : Rl K B e σ Z H) {p : Addr} {o : HO} (hz : Z p = none) (hb : B.H p = none ∨ B.W p) (ho : ¬ Owns e σ p) : Rl K B e σ Z (upd H p o) := by
  refine R.grow (Same.refl Z) (fun a u q => ?_) (fun _ _ => trivial) (fun q u ow hq => ?_) (fun a u ha hw => ?_)
  · have hne : a ≠ p := ne_of_none q hz
    rw [upd_ne hne]; exact R.sub a u q
  · have hne : q ≠ p := fun z => ho (z ▸ ow)
    rw [upd_ne hne]
    exact ⟨hq, (R.owns ow).2.1⟩
  · have hne : a ≠ p := fun z => by
      subst z
      rcases hb with hb | hb
      · rw [hb] at ha; cases ha
      · exact hw hb
    rw [upd_ne hne]
    exact ⟨R.keep a u ha hw, rfl⟩

/-- a slot's content is forgotten or frozen: the env alone changes -/
theorem Rl.env (R : Rl K B e σ Z H) (hl : e'.length = e.length)
    (h : ∀ (i : Nat) (s : Sl) (x : Option V), e'[i]? = some s → σ[i]? = some x → e[i]? = some s ∨ (SlOk K B Z H s x ∧ ∀ t o, s = .own t o → ∃ t' o', e[i]? = some (.own t' o'))) : Rl K B e' σ Z H := by
  have own : ∀ (i : Nat) (t : Option Nat) (o : Ob), e'[i]? = some (.own t o) → ∃ t' o', e[i]? = some (.own t' o') := fun i t o hi => by
    have hl' : i < σ.length := by rw [← R.len, ← hl]; exact (List.getElem?_eq_some_iff.mp hi).1
    rcases h i _ _ hi (List.getElem?_eq_getElem hl') with q | q
    · exact ⟨t, o, q⟩
    · exact q.2 t o rfl
  refine ⟨hl.trans R.len, fun i s x h1 h2 => ?_, fun i j t u a b hij h1 h2 => ?_, R.sub, R.zup, R.keep, R.zfr⟩
  · rcases h i s x h1 h2 with q | q
    · exact R.ok i s x q h2
    · exact q.1
  · obtain ⟨t1, o1, q1⟩ := own i t a h1
    obtain ⟨t2, o2, q2⟩ := own j u b h2
    exact R.sep i j _ _ _ _ hij q1 q2
theorem get_set {α : Type} {l : List α} {i j : Nat} {a s : α} (h : (l.set i a)[j]? = some s) : (j = i ∧ s = a) ∨ (j ≠ i ∧ l[j]? = some s) := by
  by_cases hij : j = i
  · subst hij
    by_cases hl : j < l.length
    · rw [List.getElem?_set_self hl] at h
      cases h
      exact .inl ⟨rfl, rfl⟩
    · rw [List.getElem?_eq_none (by rw [List.length_set]; omega)] at h
      cases h
  · rw [List.getElem?_set_ne (Ne.symm hij)] at h
    exact .inr ⟨hij, h⟩
/-- an own list is frozen -/
theorem Rl.freeze (R : Rl K B e σ Z H) {i : Nat} {t : Option Nat} {ds : List D} (h : e[i]? = some (.own t (.lst ds))) :
    ∃ p Z', σ[i]? = some (some (.ref p)) ∧ Same Z Z' ∧ Dq K Z' (.ref p) (.list ds) ∧ Rl K B (e.set i (.dat (.list ds))) σ Z' H := by
  obtain ⟨p, u, h1, h2, h3, ⟨vs, rfl, h4⟩, h5, h6⟩ := R.own h
  have ro : Rl K B (e.set i .un) σ Z H := by
    refine R.env (by simp) fun j s x q1 q2 => ?_
    rcases get_set q1 with ⟨rfl, rfl⟩ | ⟨hj, q⟩
    · exact .inr ⟨trivial, fun _ _ z => nomatch z⟩
    · exact .inl q
  have no : ¬ Owns (e.set i .un) σ p := fun ⟨j, t', o', q1, q2⟩ => by
    rcases get_set q1 with ⟨rfl, z⟩ | ⟨hj, q⟩
    · cases z
    · exact hj (R.owns_one q q2 h h1)
  obtain ⟨R1, s1⟩ := ro.fix h3 h5 h2 no
  have dd : Dq K (upd Z p (.lst vs)) (.ref p) (.list ds) := .lst upd_same (dpa_mono s1 h4)
  refine ⟨p, _, h1, s1, dd, ?_⟩
  refine R1.env (by simp) fun j s x q1 q2 => ?_
  rcases get_set q1 with ⟨rfl, rfl⟩ | ⟨hj, q⟩
  · refine .inr ⟨?_, fun _ _ z => nomatch z⟩
    rw [h1] at q2
    cases q2
    exact ⟨_, rfl, dd⟩
  · refine .inl ?_
    rw [List.getElem?_set_ne (Ne.symm hj)]
    exact q
/-- a name is stored: what it held is lost -/
theorem Rl.set (R : Rl K B e σ Z H) {i : Nat} {v : V} {d : D} (h : Dq K Z v d) : Rl K B (e.set i (.dat d)) (σ.set i (some v)) Z H := by
  refine ⟨by simp [R.len], fun j s x h1 h2 => ?_, fun j k t u a b hjk h1 h2 => ?_, R.sub, R.zup, R.keep, R.zfr⟩
  · rcases get_set h1 with ⟨rfl, rfl⟩ | ⟨hj, q⟩
    · rcases get_set h2 with ⟨_, rfl⟩ | ⟨hj, _⟩
      · exact ⟨v, rfl, h⟩
      · exact absurd rfl hj
    · rcases get_set h2 with ⟨rfl, _⟩ | ⟨_, q2⟩
      · exact absurd rfl hj
      · exact R.ok j s x q q2
  · rcases get_set h1 with ⟨_, z⟩ | ⟨hj, q1⟩
    · cases z
    · rcases get_set h2 with ⟨_, z⟩ | ⟨hk, q2⟩
      · cases z
      · rw [List.getElem?_set_ne (Ne.symm hj), List.getElem?_set_ne (Ne.symm hk)]
        exact R.sep j k t u a b hjk q1 q2
theorem Rl.setRaw (R : Rl K B e σ Z H) {i : Nat} {v : V} : Rl K B (e.set i (.raw v)) (σ.set i (some v)) Z H := by
  refine ⟨by simp [R.len], fun j s x h1 h2 => ?_, fun j k t u a b hjk h1 h2 => ?_, R.sub, R.zup, R.keep, R.zfr⟩
  · rcases get_set h1 with ⟨rfl, rfl⟩ | ⟨hj, q⟩
    · rcases get_set h2 with ⟨_, rfl⟩ | ⟨hj, _⟩
      · rfl
      · exact absurd rfl hj
    · rcases get_set h2 with ⟨rfl, _⟩ | ⟨_, q2⟩
      · exact absurd rfl hj
      · exact R.ok j s x q q2
  · rcases get_set h1 with ⟨_, z⟩ | ⟨hj, q1⟩
    · cases z
    · rcases get_set h2 with ⟨_, z⟩ | ⟨hk, q2⟩
      · cases z
      · rw [List.getElem?_set_ne (Ne.symm hj), List.getElem?_set_ne (Ne.symm hk)]
        exact R.sep j k t u a b hjk q1 q2
/-- a young object that nobody owns comes to a name -/
theorem Rl.setOwn (R : Rl K B e σ Z H) {i : Nat} {p : Addr} {o : Ob} {u : HO} (hp : H p = some u) (hz : Z p = none) (hb : B.H p = none ∨ B.W p) (hn : ¬ Owns e σ p) (ho : ObOk K Z o u) :
    Rl K B (e.set i (.own none o)) (σ.set i (some (.ref p))) Z H := by
  refine ⟨by simp [R.len], fun j s x h1 h2 => ?_, fun j k t u a b hjk h1 h2 => ?_, R.sub, R.zup, R.keep, R.zfr⟩
  · rcases get_set h1 with ⟨rfl, rfl⟩ | ⟨hj, q⟩
    · rcases get_set h2 with ⟨_, rfl⟩ | ⟨hj, _⟩
      · exact ⟨p, u, rfl, hp, hz, ho, hb, fun _ z => nomatch z⟩
      · exact absurd rfl hj
    · rcases get_set h2 with ⟨rfl, _⟩ | ⟨_, q2⟩
      · exact absurd rfl hj
      · exact R.ok j s x q q2
  · rcases get_set h1 with ⟨rfl, z⟩ | ⟨hj, q1⟩
    · rcases get_set h2 with ⟨rfl, z'⟩ | ⟨hk, q2⟩
      · exact absurd rfl hjk
      · have hl : j < σ.length := by
          have := (List.getElem?_eq_some_iff.mp h1).1
          rw [List.length_set, R.len] at this
          exact this
        rw [List.getElem?_set_self hl, List.getElem?_set_ne (Ne.symm hk)]
        intro z2
        exact hn ⟨k, _, _, q2, z2.symm⟩
    · rcases get_set h2 with ⟨rfl, z'⟩ | ⟨hk, q2⟩
      · have hl : k < σ.length := by
          have := (List.getElem?_eq_some_iff.mp h2).1
          rw [List.length_set, R.len] at this
          exact this
        rw [List.getElem?_set_self hl, List.getElem?_set_ne (Ne.symm hj)]
        intro z2
        exact hn ⟨j, _, _, q1, z2⟩
      · rw [List.getElem?_set_ne (Ne.symm hj), List.getElem?_set_ne (Ne.symm hk)]
        exact R.sep j k _ _ a b hjk q1 q2
/-- an own object is written -/
theorem Rl.write (R : Rl K B e σ Z H) {i : Nat} {t : Option Nat} {o o' : Ob} {p : Addr} {u : HO} (h : e[i]? = some (.own t o)) (h1 : σ[i]? = some (some (.ref p))) (ho : ObOk K Z o' u) :
    Rl K B (e.set i (.own t o')) σ Z (upd H p u) := by
  obtain ⟨q, w, h1', h2, h3, h4, h5, h6⟩ := R.own h
  rw [h1] at h1'
  cases h1'
  have hi : i < e.length := (List.getElem?_eq_some_iff.mp h).1
  refine ⟨by simp [R.len], fun j s x q1 q2 => ?_, fun j k t1 u1 a b hjk q1 q2 => ?_, fun a x hx => ?_, R.zup, fun a x hx hw => ?_, R.zfr⟩
  · rcases get_set q1 with ⟨rfl, rfl⟩ | ⟨hj, q⟩
    · rw [h1] at q2
      cases q2
      exact ⟨p, u, rfl, upd_same, h3, ho, h5, h6⟩
    · have z := R.ok j s x q q2
      cases s with
      | un => trivial
      | dat d => exact z
      | raw v => exact z
      | scr ds => exact z
      | own t' o'' =>
        obtain ⟨p', u', z1, z2, z3, z4, z5, z6⟩ := z
        subst z1
        have ne : p' ≠ p := fun z => hj (R.owns_one q (z ▸ q2) h h1)
        exact ⟨p', u', rfl, by rw [upd_ne ne]; exact z2, z3, z4, z5, z6⟩
  · have g : ∀ (m : Nat) (t' : Option Nat) (a : Ob), (e.set i (.own t o'))[m]? = some (.own t' a) → ∃ t2 o2, e[m]? = some (.own t2 o2) := fun m t' a hm => by
      rcases get_set hm with ⟨rfl, _⟩ | ⟨_, q⟩
      · exact ⟨_, _, h⟩
      · exact ⟨_, _, q⟩
    obtain ⟨_, _, g1⟩ := g j _ a q1
    obtain ⟨_, _, g2⟩ := g k _ b q2
    exact R.sep j k _ _ _ _ hjk g1 g2
  · rw [upd_ne (ne_of_none hx h3)]
    exact R.sub a x hx
  · have ne : a ≠ p := fun z => by
      subst z
      rcases h5 with h5 | h5
      · rw [h5] at hx; cases hx
      · exact hw h5
    rw [upd_ne ne]
    exact R.keep a x hx hw
/-- a new base, here -/
def Bs.at (B : Bs) (e : En) (σ : L2.St) (Z H : Hp) : Bs := ⟨B.io, Owns e σ, H, Z⟩
theorem Rl.rebase (R : Rl K B e σ Z H) : Rl K (B.at e σ Z H) e σ Z H := by
  refine ⟨R.len, fun i s x h1 h2 => ?_, R.sep, R.sub, Same.refl Z, fun a o h _ => h, fun _ _ _ _ => rfl⟩
  have q := R.ok i s x h1 h2
  cases s with
  | un => trivial
  | dat d => exact q
  | raw v => exact q
  | scr ds => exact q
  | own t o =>
    obtain ⟨p, u, rfl, z2, z3, z4, z5, z6⟩ := q
    exact ⟨p, u, rfl, z2, z3, z4, .inr ⟨i, t, o, h1, h2⟩, z6⟩
theorem Rl.unbase {e1 : En} {σ1 : L2.St} {Z1 H1 : Hp} (R : Rl K B e σ Z H) (R1 : Rl K (B.at e σ Z H) e1 σ1 Z1 H1) : Rl K B e1 σ1 Z1 H1 := by
  have nw : ∀ a o, B.H a = some o → ¬ B.W a → ¬ Owns e σ a := fun a o h1 h2 h3 => by
    rcases (R.owns h3).2.2 with h | h
    · rw [h] at h1; cases h1
    · exact h2 h
  refine ⟨R1.len, fun i s x h1 h2 => ?_, R1.sep, R1.sub, R.zup.trans R1.zup, fun a o h1 h2 => R1.keep a o (R.keep a o h1 h2) (nw a o h1 h2), fun a o h1 h2 => (R1.zfr a o (R.keep a o h1 h2) (nw a o h1 h2)).trans (R.zfr a o h1 h2)⟩
  have q := R1.ok i s x h1 h2
  cases s with
  | un => trivial
  | dat d => exact q
  | raw v => exact q
  | scr ds => exact q
  | own t o =>
    obtain ⟨p, u, rfl, z2, z3, z4, z5, z6⟩ := q
    refine ⟨p, u, rfl, z2, z3, z4, ?_, z6⟩
    rcases z5 with z5 | z5
    · cases hb : B.H p with
      | none => exact .inl rfl
      | some o =>
        refine .inr ?_
        by_cases hw : B.W p
        · exact hw
        · have := R.keep p o hb hw
          have z5' : H p = none := z5
          rw [this] at z5'
          cases z5'
    · exact (R.owns z5).2.2.elim .inl .inr
/-- what H has and no slot owns is kept, and young in the frozen part no more -/
theorem Rl.kept {e1 : En} {σ1 : L2.St} {Z1 H1 : Hp} (R1 : Rl K (B.at e σ Z H) e1 σ1 Z1 H1) {a : Addr} {o : HO} (h : H a = some o) (hn : ¬ Owns e σ a) : H1 a = some o ∧ Z1 a = Z a := ⟨R1.keep a o h hn, R1.zfr a o h hn⟩
theorem Rl.young {e1 : En} {σ1 : L2.St} {Z1 H1 : Hp} (R1 : Rl K (B.at e σ Z H) e1 σ1 Z1 H1) {a : Addr} {o : HO} (h : H a = some o) (hn : ¬ Owns e σ a) : ¬ Owns e1 σ1 a := fun q => by
  rcases (R1.owns q).2.2 with z | z
  · have z' : H a = none := z
    rw [h] at z'; cases z'
  · exact hn z
end
end G
set_option Elab.async false
set_option linter.all false
set_option maxRecDepth 100000
namespace G
open PySem PySem.Spec PyProof.Rows L2

/-! ### what comes of a piece of code -/
structure Xn where
  cls : Str
  fs : List (Str × D)
inductive R (α : Type) where
  | ok (a : α) (e : En)
  | ex (x : Xn) (e : En)
  | bad
def R.bind {α β : Type} (r : R α) (k : α → En → R β) : R β := match r with
  | .ok a e => k a e
  | .ex x e => .ex x e
  | .bad => .bad
@[simp] theorem R.bind_ok {α β : Type} (a : α) (e : En) (k : α → En → R β) : (R.ok a e).bind k = k a e := rfl
@[simp] theorem R.bind_ex {α β : Type} (x : Xn) (e : En) (k : α → En → R β) : (R.ex x e).bind k = .ex x e := rfl
@[simp] theorem R.bind_bad {α β : Type} (k : α → En → R β) : R.bad.bind k = .bad := rfl
def R.noex {α : Type} (r : R α) : R α := match r with
  | .ex _ _ => .bad
  | r => r
def R.lift {α : Type} (o : Option α) (e : En) : R α := match o with
  | some a => .ok a e
  | none => .bad
@[simp] theorem R.lift_some {α : Type} (a : α) (e : En) : R.lift (some a) e = .ok a e := rfl
@[simp] theorem R.lift_none {α : Type} (e : En) : R.lift (none : Option α) e = .bad := rfl
@[simp] theorem R.noex_ok {α : Type} (a : α) (e : En) : (R.ok a e).noex = .ok a e := rfl

def XnOk (K : Frag) (mg : Str → Option Value) (Z H : Hp) (x : Xn) (c : Value) (dd : Option Addr) : Prop :=
  mg x.cls = some c ∧ ((x.fs = [] ∧ dd = none) ∨ ∃ a ws, dd = some a ∧ H a = some (.xd ws) ∧ Paired (fun (p : Str × V) (q : Str × D) => p.1 = q.1 ∧ Dq K Z p.2 q.2) ws x.fs)

section
variable {α β γ δ : Type}
def Pg (K : Frag) (mg : Str → Option Value) (W : WX) (B : Bs) (σ : L2.St) (Z : Hp) (vr : Hp → β → α → Prop) (r : R α) (Q : β → Hp → Prop) : Prop := match r with
  | .ok a e => ∀ b Z' H', Same Z Z' → Rl K B e σ Z' H' → vr Z' b a → Q b H'
  | .ex x e => ∀ c dd Z' H', Same Z Z' → Rl K B e σ Z' H' → XnOk K mg Z' H' x c dd → W c dd σ H'
  | .bad => False
def Rg (K : Frag) (mg : Str → Option Value) (W : WX) (vr : Hp → β → α → Prop) (p : En → R α) : L2.St → Hp → (β → Hp → Prop) → Prop := fun σ H Q =>
  ∃ B e Z, Rl K B e σ Z H ∧ Pg K mg W B σ Z vr (p e) Q
variable {K : Frag} {mg : Str → Option Value} {W : WX} {B : Bs} {σ : L2.St} {Z Z' H : Hp} {e : En}
theorem Pg.up {vr : Hp → β → α → Prop} {r : R α} {Q : β → Hp → Prop} (s : Same Z Z') (h : Pg K mg W B σ Z vr r Q) : Pg K mg W B σ Z' vr r Q := by
  cases r with
  | ok a e => exact fun b Z1 H1 s1 R1 v => h b Z1 H1 (s.trans s1) R1 v
  | ex x e => exact fun c dd Z1 H1 s1 R1 v => h c dd Z1 H1 (s.trans s1) R1 v
  | bad => exact h
theorem Pg.imp {vr : Hp → β → α → Prop} {r : R α} {Q Q' : β → Hp → Prop} (f : ∀ b H, Q b H → Q' b H) (h : Pg K mg W B σ Z vr r Q) : Pg K mg W B σ Z vr r Q' := by
  cases r with
  | ok a e => exact fun b Z1 H1 s1 R1 v => f _ _ (h b Z1 H1 s1 R1 v)
  | ex x e => exact h
  | bad => exact h
theorem rg_bind {vr : Hp → β → α → Prop} {vr2 : Hp → δ → γ → Prop} {p : En → R α} {k : α → En → R γ} {Q : δ → Hp → Prop} {Q' : β → Hp → Prop} (R0 : Rl K B e σ Z H) (h : Pg K mg W B σ Z vr2 ((p e).bind k) Q)
    (f : ∀ x Z1 e1 a H1, Same Z Z1 → Rl K B e1 σ Z1 H1 → vr Z1 x a → Pg K mg W B σ Z1 vr2 (k a e1) Q → Q' x H1) : Rg K mg W vr p σ H Q' := by
  refine ⟨B, e, Z, R0, ?_⟩
  cases hp : p e with
  | ok a e1 =>
    rw [hp] at h
    exact fun b Z1 H1 s1 R1 v => f b Z1 e1 a H1 s1 R1 v (Pg.up s1 h)
  | ex x e1 =>
    rw [hp] at h
    exact h
  | bad =>
    rw [hp] at h
    exact h
/-- the last piece -/
theorem rg_last {vr : Hp → β → α → Prop} {p : En → R α} {Q : β → Hp → Prop} (R0 : Rl K B e σ Z H) (h : Pg K mg W B σ Z vr (p e) Q) : Rg K mg W vr p σ H Q := ⟨B, e, Z, R0, h⟩
/-- new frozen objects alone -/
structure Nw (Z H Z' H' : Hp) : Prop where
  z : Same Z Z'
  h : Same H H'
  s : Same Z' H'
  f : ∀ a o, H a = some o → Z' a = Z a
theorem Nw.refl (s : Same Z H) : Nw Z H Z H := ⟨Same.refl _, Same.refl _, s, fun _ _ _ => rfl⟩
theorem Nw.new {p : Addr} {o : HO} (s : Same Z H) (h : H p = none) : Nw Z H (upd Z p o) (upd H p o) := by
  have zn : Z p = none := by
    cases q : Z p with
    | none => rfl
    | some u => rw [s p u q] at h; cases h
  refine ⟨fun a u q => ?_, fun a u q => ?_, fun a u q => ?_, fun a u q => ?_⟩
  · rw [upd_ne (ne_of_none q zn)]; exact q
  · rw [upd_ne (ne_of_none q h)]; exact q
  · by_cases ha : a = p
    · subst ha; rw [upd_same] at q ⊢; exact q
    · rw [upd_ne ha] at q ⊢; exact s a u q
  · rw [upd_ne (ne_of_none q h)]
theorem Nw.trans {Z1 H1 Z2 H2 : Hp} (a : Nw Z H Z1 H1) (b : Nw Z1 H1 Z2 H2) : Nw Z H Z2 H2 := ⟨a.z.trans b.z, a.h.trans b.h, b.s, fun x o h => (b.f x o (a.h x o h)).trans (a.f x o h)⟩
theorem Rl.nw {Z' H' : Hp} (R : Rl K B e σ Z H) (n : Nw Z H Z' H') : Rl K B e σ Z' H' :=
  R.grow n.z n.s (fun _ _ => trivial) (fun p u ow hp => ⟨n.h p u hp, (n.f p u hp).trans (R.owns ow).2.1⟩) fun a o ha hw => ⟨n.h a o (R.keep a o ha hw), n.f a o (R.keep a o ha hw)⟩
end

/-! ### relations of values -/
abbrev vD (K : Frag) : Hp → V → D → Prop := fun Z v d => Dq K Z v d
abbrev vB : Hp → Bool → Bool → Prop := fun _ a b => a = b
abbrev vA (K : Frag) : Hp → List V → List D → Prop := fun Z vs ds => DqAll K Z vs ds
abbrev vO : Hp → Option Int → Option Int → Prop := fun _ a b => a = b

abbrev XE := En → R D
abbrev XT := En → R Bool
abbrev XA := En → R (List D)

abbrev RE (K : Frag) (mg : Str → Option Value) (W : WX) (p : XE) : TE := Rg K mg W (vD K) p
abbrev RT (K : Frag) (mg : Str → Option Value) (W : WX) (p : XT) : TT := Rg K mg W vB p
abbrev RA (K : Frag) (mg : Str → Option Value) (W : WX) (p : XA) : TA := Rg K mg W (vA K) p
abbrev SE (X : Cx) (W : WX) (e : Expr) (p : XE) : Prop := PE X e (RE X.K X.mg W p)
abbrev ST (X : Cx) (W : WX) (e : Expr) (p : XT) : Prop := PT X e (RT X.K X.mg W p)
abbrev SW (X : Cx) (W : WX) (e : Expr) (p : XT) : Prop := PW X e (RT X.K X.mg W p)
abbrev SA (X : Cx) (W : WX) (es : List Expr) (p : XA) : Prop := PA X es (RA X.K X.mg W p)

section
variable {X : Cx} {W : WX}
theorem PE.imp {e : Expr} {t t' : TE} (h : PE X e t) (f : ∀ σ H Q, t' σ H Q → t σ H Q) : PE X e t' := ⟨fun pins s σ H Q I hq => h.run pins s σ H Q I (f σ H Q hq)⟩
theorem PT.imp {e : Expr} {t t' : TT} (h : PT X e t) (f : ∀ σ H Q, t' σ H Q → t σ H Q) : PT X e t' := ⟨fun pins s σ H Q I hq => h.run pins s σ H Q I (f σ H Q hq)⟩
theorem PW.imp {e : Expr} {t t' : TT} (h : PW X e t) (f : ∀ σ H Q, t' σ H Q → t σ H Q) : PW X e t' := ⟨fun wh pins s σ H Q I hq => h.run wh pins s σ H Q I (f σ H Q hq)⟩
theorem PA.imp {e : List Expr} {t t' : TA} (h : PA X e t) (f : ∀ σ H Q, t' σ H Q → t σ H Q) : PA X e t' := ⟨fun pos pins s σ H Q I hq => h.run pos pins s σ H Q I (f σ H Q hq)⟩
theorem PO.imp {e : Option Expr} {t t' : TO} (h : PO X e t) (f : ∀ σ H Q, t' σ H Q → t σ H Q) : PO X e t' := ⟨fun pins s σ H Q I hq => h.run pins s σ H Q I (f σ H Q hq)⟩

/-! ### names, constants -/
def eVar (i : Nat) : XE := fun e => match e[i]? with
  | some (.dat d) => .ok d e
  | some (.own _ (.lst ds)) => .ok (.list ds) (e.set i (.dat (.list ds)))
  | _ => .bad
theorem se_var {i : Nat} {x : Str} {pos : Pos} (h : PE X (.Name x pos) (tVar i)) : SE X W (.Name x pos) (eVar i) := by
  refine PE.imp h fun σ H Q ⟨B, e, Z, R0, hq⟩ => ?_
  unfold eVar at hq
  split at hq
  · rename_i d he
    obtain ⟨v, e1, e2⟩ := R0.dat he
    exact ⟨v, e1, hq v Z H (Same.refl Z) R0 e2⟩
  · rename_i t ds he
    obtain ⟨p, Z', e1, e2, e3, e4⟩ := R0.freeze he
    exact ⟨_, e1, hq _ Z' H e2 e4 e3⟩
  · exact hq.elim
def eC (d : D) : XE := fun e => .ok d e
theorem se_c {x : Expr} {v : V} {d : D} (h : PE X x (tC v)) (hd : ∀ Z, Dq X.K Z v d) : SE X W x (eC d) :=
  PE.imp h fun σ H Q ⟨B, e, Z, R0, hq⟩ => hq v Z H (Same.refl Z) R0 (hd Z)
theorem se_int {i : Int} {j pos} : SE X W (.Constant (.int i) j pos) (eC (.int i)) := se_c pe_int fun _ => .int i
theorem se_bl {b j pos} : SE X W (.Constant (.bool b) j pos) (eC (.bool b)) := se_c pe_bl fun _ => .bl b
theorem se_non {j pos} : SE X W (.Constant .none j pos) (eC .none) := se_c pe_non fun _ => .non
theorem se_str {x j pos} : SE X W (.Constant (.str x) j pos) (eC (.str x)) := se_c pe_str fun _ => .str x

/-! ### operations by data: g tells the answer, new frozen objects may come -/
def Ok2 (K : Frag) (r : R2) (g : D → D → Option D) : Prop := ∀ Z H x y d1 d2 d (Q : VK), Same Z H → Dq K Z x d1 → Dq K Z y d2 → g d1 d2 = some d → (∀ v Z' H', Nw Z H Z' H' → Dq K Z' v d → Q v H') → r x y H Q
def OkC (K : Frag) (r : List V → Hp → VK → Prop) (g : List D → Option D) : Prop := ∀ Z H xs ds d (Q : VK), Same Z H → DqAll K Z xs ds → g ds = some d → (∀ v Z' H', Nw Z H Z' H' → Dq K Z' v d → Q v H') → r xs H Q
def OkM (K : Frag) (r : V → List V → Hp → VK → Prop) (g : D → List D → Option D) : Prop := ∀ Z H x xs c ds d (Q : VK), Same Z H → Dq K Z x c → DqAll K Z xs ds → g c ds = some d → (∀ v Z' H', Nw Z H Z' H' → Dq K Z' v d → Q v H') → r x xs H Q

def eOp (g : D → D → Option D) (p q : XE) : XE := fun e => (p e).bind fun a e1 => (q e1).bind fun b e2 => R.lift (g a b) e2
theorem pg_lift {K : Frag} {mg : Str → Option Value} {B : Bs} {σ : L2.St} {Z H : Hp} {e : En} {o : Option D} {Q : VK} (R0 : Rl K B e σ Z H) (h : Pg K mg W B σ Z (vD K) (R.lift o e) Q) : ∃ d, o = some d ∧ ∀ v Z' H', Nw Z H Z' H' → Dq K Z' v d → Q v H' := by
  cases o with
  | none => exact h.elim
  | some d => exact ⟨d, rfl, fun v Z' H' n hd => h v Z' H' n.z (R0.nw n) hd⟩
theorem se_tOp {x : Expr} {r : R2} {g : D → D → Option D} {p q : XE} (ok : Ok2 X.K r g) (h : PE X x (tOp r (RE X.K X.mg W p) (RE X.K X.mg W q))) : SE X W x (eOp g p q) := by
  refine PE.imp h fun σ H Q ⟨B, e, Z, R0, hq⟩ => ?_
  refine rg_bind R0 hq fun v1 Z1 e1 d1 H1 s1 R1 D1 h1 => ?_
  refine rg_bind R1 h1 fun v2 Z2 e2 d2 H2 s2 R2 D2 h2 => ?_
  obtain ⟨d, ed, k⟩ := pg_lift R2 h2
  exact ok Z2 H2 v1 v2 d1 d2 d Q R2.sub (dp_mono s2 D1) D2 ed k
theorem se_op {a b : Expr} {pos : Pos} {op : Operator} {r : R2} {g : D → D → Option D} {p q : XE} (ho : OpR X (binaryOp op) r) (ok : Ok2 X.K r g) (ha : SE X W a p) (hb : SE X W b q) : SE X W (.BinOp a op b pos) (eOp g p q) := se_tOp ok (pe_op ho ha hb)
theorem se_cmp {a b : Expr} {pos : Pos} {op : CmpOp} {r : R2} {g : D → D → Option D} {p q : XE} (ho : OpR X (compareOp op) r) (ok : Ok2 X.K r g) (ha : SE X W a p) (hb : SE X W b q) (hm : behindInMarks op b = false) : SE X W (.Compare a [op] [b] pos) (eOp g p q) := se_tOp ok (pe_cmpR ho ha hb hm)
theorem se_ix {a b : Expr} {pos : Pos} {r : R2} {g : D → D → Option D} {p q : XE} (ho : IxR X r) (ok : Ok2 X.K r g) (ha : SE X W a p) (hb : SE X W b q) (hs : PlainIx b) : SE X W (.Subscript a b pos) (eOp g p q) := se_tOp ok (pe_ix ho ha hb hs)
/-- an expression as a test -/
def tOf (p : XE) : XT := fun e => (p e).bind fun d e1 => match d with
  | .bool b => .ok b e1
  | _ => .bad
theorem st_B {x : Expr} {p : XE} (h : PT X x (fun σ H Q => RE X.K X.mg W p σ H fun v H1 => ∃ c, v = .bl c ∧ Q c H1)) : ST X W x (tOf p) := by
  refine PT.imp h fun σ H Q ⟨B, e, Z, R0, hq⟩ => ?_
  refine rg_bind R0 hq fun v1 Z1 e1 d1 H1 s1 R1 D1 h1 => ?_
  cases D1 with
  | bl b => exact ⟨b, rfl, h1 b Z1 H1 (Same.refl _) R1 rfl⟩
  | non => exact h1.elim
  | int _ => exact h1.elim
  | str _ => exact h1.elim
  | lst _ _ => exact h1.elim
  | tup _ _ => exact h1.elim
theorem st_val {x : Expr} {p : XE} (h : SE X W x p) (he : ∀ whole, isTrue x X.env whole = (do let v ← whole; standAt x.pos; holding [v] (truthy v)) := by intro _; rfl) : ST X W x (tOf p) := st_B (pt_val h he)
theorem st_cmp {a b : Expr} {pos : Pos} {op : CmpOp} {r : R2} {g : D → D → Option D} {p q : XE} (ho : OpR X (compareOp op) r) (ok : Ok2 X.K r g) (ha : SE X W a p) (hb : SE X W b q) (hm : behindInMarks op b = false) : ST X W (.Compare a [op] [b] pos) (tOf (eOp g p q)) := by
  refine st_B (PT.imp (pt_cmpR ho ha hb hm) fun σ H Q ⟨B, e, Z, R0, hq⟩ => ?_)
  refine rg_bind R0 hq fun v1 Z1 e1 d1 H1 s1 R1 D1 h1 => ?_
  refine rg_bind R1 h1 fun v2 Z2 e2 d2 H2 s2 R2 D2 h2 => ?_
  obtain ⟨d, ed, k⟩ := pg_lift R2 h2
  exact ok Z2 H2 v1 v2 d1 d2 d _ R2.sub (dp_mono s2 D1) D2 ed k
/-- truth of any value -/
def dTru : D → Option Bool
  | .none => some false
  | .bool b => some b
  | .int i => some (i != 0)
  | .str x => if x.length ≤ sizeLine then some (x.length != 0) else none
  | .list xs => some (!xs.isEmpty)
  | .tuple xs => some (!xs.isEmpty)
  | .dict _ => none
def tTru (p : XE) : XT := fun e => (p e).bind fun d e1 => R.lift (dTru d) e1

/-! ### and, or, not, if -/
def tAnd (p q : XT) : XT := fun e => (p e).bind fun b e1 => if b = true then q e1 else .ok false e1
def tOr (p q : XT) : XT := fun e => (p e).bind fun b e1 => if b = true then .ok true e1 else q e1
def tNot (p : XT) : XT := fun e => (p e).bind fun b e1 => .ok (!b) e1
theorem pt_not' {a : Expr} {pos : Pos} {p : XT} (h : ST X W a p) : ST X W (.UnaryOp .Not a pos) (tNot p) := by
  refine PT.imp (pt_not h) fun σ H Q ⟨B, e, Z, R0, hq⟩ => ?_
  refine rg_bind R0 hq fun v1 Z1 e1 d1 H1 s1 R1 D1 h1 => ?_
  subst D1
  exact h1 _ Z1 H1 (Same.refl _) R1 rfl
theorem sw_and1 {a : Expr} {pos : Pos} {p : XT} (h : ST X W a p) : SW X W (.BoolOp .And [a] pos) p := pw_and1 h
theorem sw_or1 {a : Expr} {pos : Pos} {p : XT} (h : ST X W a p) : SW X W (.BoolOp .Or [a] pos) p := pw_or1 h
theorem sw_and {a b : Expr} {rest : List Expr} {pos : Pos} {p q : XT} (ha : ST X W a p) (hb : SW X W (.BoolOp .And (b :: rest) pos) q) : SW X W (.BoolOp .And (a :: b :: rest) pos) (tAnd p q) := by
  refine PW.imp (pw_and ha hb) fun σ H Q ⟨B, e, Z, R0, hq⟩ => ?_
  refine rg_bind R0 hq fun v1 Z1 e1 d1 H1 s1 R1 D1 h1 => ?_
  subst D1
  cases v1 with
  | true => exact ⟨B, e1, Z1, R1, h1⟩
  | false => exact h1 _ Z1 H1 (Same.refl _) R1 rfl
theorem sw_or {a b : Expr} {rest : List Expr} {pos : Pos} {p q : XT} (ha : ST X W a p) (hb : SW X W (.BoolOp .Or (b :: rest) pos) q) : SW X W (.BoolOp .Or (a :: b :: rest) pos) (tOr p q) := by
  refine PW.imp (pw_or ha hb) fun σ H Q ⟨B, e, Z, R0, hq⟩ => ?_
  refine rg_bind R0 hq fun v1 Z1 e1 d1 H1 s1 R1 D1 h1 => ?_
  subst D1
  cases v1 with
  | true => exact h1 _ Z1 H1 (Same.refl _) R1 rfl
  | false => exact ⟨B, e1, Z1, R1, h1⟩
theorem st_bool {x : Expr} {p : XT} (h : SW X W x p) : ST X W x p := h.pt
def eAnd (p q : XE) : XE := fun e => (p e).bind fun d e1 => match d with
  | .bool b => if b = true then q e1 else .ok (.bool false) e1
  | _ => .bad
def eOr (p q : XE) : XE := fun e => (p e).bind fun d e1 => match d with
  | .bool b => if b = true then .ok (.bool true) e1 else q e1
  | _ => .bad
def eNot (p : XE) : XE := fun e => (p e).bind fun d e1 => match d with
  | .bool b => .ok (.bool (!b)) e1
  | _ => .bad
theorem se_one {a : Expr} {op} {pos : Pos} {p : XE} (h : SE X W a p) : SE X W (.BoolOp op [a] pos) p := pe_one h
theorem se_and {a b : Expr} {rest : List Expr} {pos : Pos} {p q : XE} (ha : SE X W a p) (hb : SE X W (.BoolOp .And (b :: rest) pos) q) : SE X W (.BoolOp .And (a :: b :: rest) pos) (eAnd p q) := by
  refine PE.imp (pe_and ha hb) fun σ H Q ⟨B, e, Z, R0, hq⟩ => ?_
  refine rg_bind R0 hq fun v1 Z1 e1 d1 H1 s1 R1 D1 h1 => ?_
  cases D1 with
  | bl b =>
    refine ⟨b, rfl, ?_⟩
    cases b with
    | true => exact ⟨B, e1, Z1, R1, h1⟩
    | false => exact h1 _ Z1 H1 (Same.refl _) R1 (.bl false)
  | non => exact h1.elim
  | int _ => exact h1.elim
  | str _ => exact h1.elim
  | lst _ _ => exact h1.elim
  | tup _ _ => exact h1.elim
theorem se_or {a b : Expr} {rest : List Expr} {pos : Pos} {p q : XE} (ha : SE X W a p) (hb : SE X W (.BoolOp .Or (b :: rest) pos) q) : SE X W (.BoolOp .Or (a :: b :: rest) pos) (eOr p q) := by
  refine PE.imp (pe_or ha hb) fun σ H Q ⟨B, e, Z, R0, hq⟩ => ?_
  refine rg_bind R0 hq fun v1 Z1 e1 d1 H1 s1 R1 D1 h1 => ?_
  cases D1 with
  | bl b =>
    refine ⟨b, rfl, ?_⟩
    cases b with
    | true => exact h1 _ Z1 H1 (Same.refl _) R1 (.bl true)
    | false => exact ⟨B, e1, Z1, R1, h1⟩
  | non => exact h1.elim
  | int _ => exact h1.elim
  | str _ => exact h1.elim
  | lst _ _ => exact h1.elim
  | tup _ _ => exact h1.elim
theorem se_not {a : Expr} {pos : Pos} {p : XE} (ha : SE X W a p) : SE X W (.UnaryOp .Not a pos) (eNot p) := by
  refine PE.imp (pe_not ha) fun σ H Q ⟨B, e, Z, R0, hq⟩ => ?_
  refine rg_bind R0 hq fun v1 Z1 e1 d1 H1 s1 R1 D1 h1 => ?_
  cases D1 with
  | bl b => exact ⟨b, rfl, h1 _ Z1 H1 (Same.refl _) R1 (.bl _)⟩
  | non => exact h1.elim
  | int _ => exact h1.elim
  | str _ => exact h1.elim
  | lst _ _ => exact h1.elim
  | tup _ _ => exact h1.elim
def eIf (t : XT) (p q : XE) : XE := fun e => (t e).bind fun b e1 => if b = true then p e1 else q e1
theorem se_if {c a b : Expr} {pos : Pos} {t : XT} {p q : XE} (hc : ST X W c t) (ha : SE X W a p) (hb : SE X W b q) : SE X W (.IfExp c a b pos) (eIf t p q) := by
  refine PE.imp (pe_ifExp hc ha hb) fun σ H Q ⟨B, e, Z, R0, hq⟩ => ?_
  refine rg_bind R0 hq fun v1 Z1 e1 d1 H1 s1 R1 D1 h1 => ?_
  subst D1
  cases v1 with
  | true => exact ⟨B, e1, Z1, R1, h1⟩
  | false => exact ⟨B, e1, Z1, R1, h1⟩
/-- is None -/
def dIsN : D → Bool
  | .none => true
  | _ => false
def eIsN (p : XE) : XE := fun e => (p e).bind fun d e1 => .ok (.bool (dIsN d)) e1
def eNotN (p : XE) : XE := fun e => (p e).bind fun d e1 => .ok (.bool (!dIsN d)) e1
theorem isN_of {K : Frag} {Z : Hp} {v : V} {d : D} (h : Dq K Z v d) : decide (v = .non) = dIsN d := by
  cases h <;> rfl
theorem se_isN {a : Expr} {j pos pos'} {p : XE} (ha : SE X W a p) : SE X W (.Compare a [.Is] [.Constant .none j pos'] pos) (eIsN p) := by
  refine PE.imp (pe_cmp (pc_isN ha) rfl) fun σ H Q ⟨B, e, Z, R0, hq⟩ => ?_
  refine rg_bind R0 hq fun v1 Z1 e1 d1 H1 s1 R1 D1 h1 => ?_
  rw [isN_of D1]
  exact h1 _ Z1 H1 (Same.refl _) R1 (.bl _)
theorem se_notN {a : Expr} {j pos pos'} {p : XE} (ha : SE X W a p) : SE X W (.Compare a [.IsNot] [.Constant .none j pos'] pos) (eNotN p) := by
  refine PE.imp (pe_cmp (pc_notN ha) rfl) fun σ H Q ⟨B, e, Z, R0, hq⟩ => ?_
  refine rg_bind R0 hq fun v1 Z1 e1 d1 H1 s1 R1 D1 h1 => ?_
  rw [isN_of D1]
  exact h1 _ Z1 H1 (Same.refl _) R1 (.bl _)
theorem st_isN {a : Expr} {j pos pos'} {p : XE} (ha : SE X W a p) : ST X W (.Compare a [.Is] [.Constant .none j pos'] pos) (tOf (eIsN p)) := by
  refine st_B (PT.imp (pt_cmp (pc_isN ha) rfl) fun σ H Q ⟨B, e, Z, R0, hq⟩ => ?_)
  refine rg_bind R0 hq fun v1 Z1 e1 d1 H1 s1 R1 D1 h1 => ?_
  rw [isN_of D1]
  exact h1 _ Z1 H1 (Same.refl _) R1 (.bl _)
theorem st_notN {a : Expr} {j pos pos'} {p : XE} (ha : SE X W a p) : ST X W (.Compare a [.IsNot] [.Constant .none j pos'] pos) (tOf (eNotN p)) := by
  refine st_B (PT.imp (pt_cmp (pc_notN ha) rfl) fun σ H Q ⟨B, e, Z, R0, hq⟩ => ?_)
  refine rg_bind R0 hq fun v1 Z1 e1 d1 H1 s1 R1 D1 h1 => ?_
  rw [isN_of D1]
  exact h1 _ Z1 H1 (Same.refl _) R1 (.bl _)

/-! ### argument lists, displays, built-in calls -/
def aNil : XA := fun e => .ok [] e
def aCons (p : XE) (q : XA) : XA := fun e => (p e).bind fun d e1 => (q e1).bind fun ds e2 => .ok (d :: ds) e2
theorem sa_nil : SA X W [] aNil := PA.imp pa_nil fun σ H Q ⟨B, e, Z, R0, hq⟩ => hq [] Z H (Same.refl _) R0 .nil
theorem sa_cons {x : Expr} {xs : List Expr} {p : XE} {q : XA} (ha : SE X W x p) (hr : SA X W xs q) (hs : starEach (x :: xs) X.env = (false, eval x X.env) :: starEach xs X.env := by rfl) : SA X W (x :: xs) (aCons p q) := by
  refine PA.imp (pa_cons ha hr hs) fun σ H Q ⟨B, e, Z, R0, hq⟩ => ?_
  refine rg_bind R0 hq fun v1 Z1 e1 d1 H1 s1 R1 D1 h1 => ?_
  refine rg_bind R1 h1 fun v2 Z2 e2 d2 H2 s2 R2 D2 h2 => ?_
  exact h2 _ Z2 H2 (Same.refl _) R2 (.cons (dp_mono s2 D1) D2)
def eCall (g : List D → Option D) (q : XA) : XE := fun e => (q e).bind fun ds e1 => R.lift (g ds) e1
theorem se_tCB {x : Expr} {r : List V → Hp → VK → Prop} {g : List D → Option D} {q : XA} (ok : OkC X.K r g) (h : PE X x (tCB r (RA X.K X.mg W q))) : SE X W x (eCall g q) := by
  refine PE.imp h fun σ H Q ⟨B, e, Z, R0, hq⟩ => ?_
  refine rg_bind R0 hq fun v1 Z1 e1 d1 H1 s1 R1 D1 h1 => ?_
  obtain ⟨d, ed, k⟩ := pg_lift R1 h1
  exact ok Z1 H1 v1 d1 d Q R1.sub D1 ed k
def gTup (ds : List D) : Option D := if ds.length ≤ sizeLine then some (.tuple ds) else none
def gLst (ds : List D) : Option D := if ds.length ≤ sizeLine then some (.list ds) else none
theorem se_tup {es : List Expr} {k} {pos : Pos} {q : XA} (h : SA X W es q) : SE X W (.Tuple es k pos) (eCall gTup q) := by
  refine PE.imp (pe_tup h) fun σ H Q ⟨B, e, Z, R0, hq⟩ => ?_
  refine rg_bind R0 hq fun v1 Z1 e1 d1 H1 s1 R1 D1 h1 => ?_
  obtain ⟨d, ed, k⟩ := pg_lift R1 h1
  unfold gTup at ed
  split at ed
  · cases ed
    refine ⟨by rw [dpa_len D1]; assumption, fun p hp => ?_⟩
    have n := Nw.new (o := .tup v1) R1.sub hp
    exact k _ _ _ n (.tup (.inl (.inl upd_same)) (dpa_mono n.z D1))
  · cases ed
theorem se_lst {es : List Expr} {pos : Pos} {q : XA} (h : SA X W es q) : SE X W (.List es pos) (eCall gLst q) := by
  refine PE.imp (pe_lst h) fun σ H Q ⟨B, e, Z, R0, hq⟩ => ?_
  refine rg_bind R0 hq fun v1 Z1 e1 d1 H1 s1 R1 D1 h1 => ?_
  obtain ⟨d, ed, k⟩ := pg_lift R1 h1
  unfold gLst at ed
  split at ed
  · cases ed
    refine ⟨by rw [dpa_len D1]; assumption, fun p hp => ?_⟩
    have n := Nw.new (o := .lst v1) R1.sub hp
    exact k _ _ _ n (.lst upd_same (dpa_mono n.z D1))
  · cases ed
/-- a built-in type's method -/
def eMeth (ty : D → Bool) (g : D → List D → Option D) (p : XE) (q : XA) : XE := fun e => (p e).bind fun c e1 => if ty c = true then (q e1).bind fun ds e2 => R.lift (g c ds) e2 else .bad
def tyD (K : Frag) (T : String) (ty : D → Bool) : Prop := ∀ Z H v d, Same Z H → Dq K Z v d → ty d = true → tyV K T v H
theorem se_tBM {x : Expr} {T : String} {r : V → List V → Hp → VK → Prop} {g : D → List D → Option D} {ty : D → Bool} {p : XE} {q : XA} (ht : tyD X.K T ty) (ok : OkM X.K r g)
    (h : PE X x (tBM X.K T r (RE X.K X.mg W p) (RA X.K X.mg W q))) : SE X W x (eMeth ty g p q) := by
  refine PE.imp h fun σ H Q ⟨B, e, Z, R0, hq⟩ => ?_
  refine rg_bind R0 hq fun v1 Z1 e1 d1 H1 s1 R1 D1 h1 => ?_
  by_cases hty : ty d1 = true
  · rw [if_pos hty] at h1
    refine ⟨ht Z1 H1 v1 d1 R1.sub D1 hty, ?_⟩
    refine rg_bind R1 h1 fun v2 Z2 e2 d2 H2 s2 R2 D2 h2 => ?_
    obtain ⟨d, ed, k⟩ := pg_lift R2 h2
    exact ok Z2 H2 v1 v2 d1 d2 d Q R2.sub (dp_mono s2 D1) D2 ed k
  · rw [if_neg hty] at h1
    exact h1.elim
theorem se_tBM0 {x : Expr} {T : String} {r : V → List V → Hp → VK → Prop} {g : D → List D → Option D} {ty : D → Bool} {p : XE} (ht : tyD X.K T ty) (ok : OkM X.K r g)
    (h : PE X x (tBM0 X.K T r (RE X.K X.mg W p))) : SE X W x (eMeth ty g p aNil) := by
  refine PE.imp h fun σ H Q ⟨B, e, Z, R0, hq⟩ => ?_
  refine rg_bind R0 hq fun v1 Z1 e1 d1 H1 s1 R1 D1 h1 => ?_
  by_cases hty : ty d1 = true
  · rw [if_pos hty] at h1
    refine ⟨ht Z1 H1 v1 d1 R1.sub D1 hty, ?_⟩
    obtain ⟨d, ed, k⟩ := pg_lift R1 (h1 : Pg X.K X.mg W B σ Z1 (vD X.K) (R.lift (g d1 []) e1) Q)
    exact ok Z1 H1 v1 [] d1 [] d Q R1.sub D1 .nil ed k
  · rw [if_neg hty] at h1
    exact h1.elim
def isStr : D → Bool | .str _ => true | _ => false
def isLst : D → Bool | .list _ => true | _ => false
theorem tyD_str {K : Frag} : tyD K "str" isStr := fun Z H v d s h t => by
  cases h with
  | str x => rfl
  | _ => cases t
theorem tyD_lst {K : Frag} : tyD K "list" isLst := fun Z H v d s h t => by
  cases h with
  | lst q a => exact .inl ⟨rfl, _, .inl (.inl (s _ _ q))⟩
  | _ => cases t

/-! ### slices -/
abbrev XO := En → R (Option Int)
abbrev RO (K : Frag) (mg : Str → Option Value) (W : WX) (p : XO) : TO := Rg K mg W vO p
abbrev SO (X : Cx) (W : WX) (e : Option Expr) (p : XO) : Prop := PO X e (RO X.K X.mg W p)
def oNone : XO := fun e => .ok none e
def oSome (p : XE) : XO := fun e => (p e).bind fun d e1 => match d with
  | .int i => .ok (some i) e1
  | _ => .bad
theorem so_none : SO X W none oNone := PO.imp po_none fun σ H Q ⟨B, e, Z, R0, hq⟩ => hq _ Z H (Same.refl _) R0 rfl
theorem so_some {x : Expr} {p : XE} (h : SE X W x p) : SO X W (some x) (oSome p) := by
  refine PO.imp (po_some h) fun σ H Q ⟨B, e, Z, R0, hq⟩ => ?_
  refine rg_bind R0 hq fun v1 Z1 e1 d1 H1 s1 R1 D1 h1 => ?_
  cases D1 with
  | int i => exact ⟨i, rfl, h1 _ Z1 H1 (Same.refl _) R1 rfl⟩
  | non => exact h1.elim
  | bl _ => exact h1.elim
  | str _ => exact h1.elim
  | lst _ _ => exact h1.elim
  | tup _ _ => exact h1.elim
def OkS (K : Frag) (r : V → Option Int → Option Int → Hp → VK → Prop) (g : D → Option Int → Option Int → Option D) : Prop :=
  ∀ Z H x c lo hi d (Q : VK), Same Z H → Dq K Z x c → g c lo hi = some d → (∀ v Z' H', Nw Z H Z' H' → Dq K Z' v d → Q v H') → r x lo hi H Q
def eSl (g : D → Option Int → Option Int → Option D) (p : XE) (l h : XO) : XE := fun e => (p e).bind fun c e1 => (l e1).bind fun lo e2 => (h e2).bind fun hi e3 => R.lift (g c lo hi) e3
theorem se_sl {x : Expr} {r : V → Option Int → Option Int → Hp → VK → Prop} {g : D → Option Int → Option Int → Option D} {p : XE} {l u : XO} (ok : OkS X.K r g)
    (h : PE X x (tSl r (RE X.K X.mg W p) (RO X.K X.mg W l) (RO X.K X.mg W u))) : SE X W x (eSl g p l u) := by
  refine PE.imp h fun σ H Q ⟨B, e, Z, R0, hq⟩ => ?_
  refine rg_bind R0 hq fun v1 Z1 e1 d1 H1 s1 R1 D1 h1 => ?_
  refine rg_bind R1 h1 fun v2 Z2 e2 d2 H2 s2 R2 D2 h2 => ?_
  refine rg_bind R2 h2 fun v3 Z3 e3 d3 H3 s3 R3 D3 h3 => ?_
  subst D2
  subst D3
  obtain ⟨d, ed, k⟩ := pg_lift R3 h3
  exact ok Z3 H3 v1 d1 v2 v3 d Q R3.sub (dp_mono (s2.trans s3) D1) ed k
end
end G
set_option Elab.async false
set_option linter.all false
set_option maxRecDepth 100000
namespace G
open PySem PySem.Spec PyProof.Rows L2

/-! ### statements -/
inductive Fl where
  | nx | bk | ct
  | rt (d : D)
  | rn (ds : List D)
abbrev XS := En → R Fl

section
variable {K : Frag} {mg : Str → Option Value} {W : WX} {B : Bs} {σ : L2.St} {Z Z' H : Hp} {e : En}
def PgS (K : Frag) (mg : Str → Option Value) (W : WX) (B : Bs) (Z : Hp) (r : R Fl) (Dn : Ends) : Prop := match r with
  | .ok .nx e => ∀ σ' Z' H', Same Z Z' → Rl K B e σ' Z' H' → Dn.nx σ' H'
  | .ok .bk e => ∀ σ' Z' H', Same Z Z' → Rl K B e σ' Z' H' → Dn.bk σ' H'
  | .ok .ct e => ∀ σ' Z' H', Same Z Z' → Rl K B e σ' Z' H' → Dn.ct σ' H'
  | .ok (.rt d) e => ∀ v σ' Z' H', Same Z Z' → Rl K B e σ' Z' H' → Dq K Z' v d → Dn.rt v H'
  | .ok (.rn ds) e => ∀ p vs σ' Z' H', Same Z Z' → Rl K B e σ' Z' H' → H' p = some (.lst vs) → Z' p = none → (B.H p = none ∨ B.W p) → ¬ Owns e σ' p → DqAll K Z' vs ds → Dn.rt (.ref p) H'
  | .ex x e => ∀ c dd σ' Z' H', Same Z Z' → Rl K B e σ' Z' H' → XnOk K mg Z' H' x c dd → W c dd σ' H'
  | .bad => False
def RSt (K : Frag) (mg : Str → Option Value) (W : WX) (p : XS) : TS := fun Dn σ H => ∃ B e Z, Rl K B e σ Z H ∧ PgS K mg W B Z (p e) Dn
theorem PgS.up {r : R Fl} {Dn : Ends} (s : Same Z Z') (h : PgS K mg W B Z r Dn) : PgS K mg W B Z' r Dn := by
  cases r with
  | ok f e =>
    cases f with
    | nx => exact fun b Z1 H1 s1 R1 => h b Z1 H1 (s.trans s1) R1
    | bk => exact fun b Z1 H1 s1 R1 => h b Z1 H1 (s.trans s1) R1
    | ct => exact fun b Z1 H1 s1 R1 => h b Z1 H1 (s.trans s1) R1
    | rt d => exact fun v b Z1 H1 s1 R1 => h v b Z1 H1 (s.trans s1) R1
    | rn d => exact fun p v b Z1 H1 s1 R1 => h p v b Z1 H1 (s.trans s1) R1
  | ex x e => exact fun c dd b Z1 H1 s1 R1 => h c dd b Z1 H1 (s.trans s1) R1
  | bad => exact h
theorem rs_bind {α β : Type} {vr : Hp → β → α → Prop} {p : En → R α} {k : α → En → R Fl} {Dn : Ends} {Q' : β → Hp → Prop} (R0 : Rl K B e σ Z H) (h : PgS K mg W B Z ((p e).bind k) Dn)
    (f : ∀ x Z1 e1 a H1, Same Z Z1 → Rl K B e1 σ Z1 H1 → vr Z1 x a → PgS K mg W B Z1 (k a e1) Dn → Q' x H1) : Rg K mg W vr p σ H Q' := by
  refine ⟨B, e, Z, R0, ?_⟩
  cases hp : p e with
  | ok a e1 =>
    rw [hp] at h
    exact fun b Z1 H1 s1 R1 v => f b Z1 e1 a H1 s1 R1 v (PgS.up s1 h)
  | ex x e1 =>
    rw [hp] at h
    exact fun c dd Z1 H1 s1 R1 x1 => h c dd σ Z1 H1 s1 R1 x1
  | bad =>
    rw [hp] at h
    exact h
end
abbrev SS (X : Cx) (W : WX) (st : Stmt) (p : XS) : Prop := PS X st (RSt X.K X.mg W p)
abbrev SB (X : Cx) (W : WX) (st : List Stmt) (p : XS) : Prop := PSs X st (RSt X.K X.mg W p)
section
variable {X : Cx} {W : WX} {pos : Pos}
theorem PS.imp {e : Stmt} {t t' : TS} (h : PS X e t) (f : ∀ Dn σ H, t' Dn σ H → t Dn σ H) : PS X e t' := ⟨fun pins s σ H Dn I hq => h.run pins s σ H Dn I (f Dn σ H hq)⟩
theorem PSs.imp {e : List Stmt} {t t' : TS} (h : PSs X e t) (f : ∀ Dn σ H, t' Dn σ H → t Dn σ H) : PSs X e t' := ⟨fun pins s σ H Dn I hq => h.run pins s σ H Dn I (f Dn σ H hq)⟩
def sNx : XS := fun e => .ok .nx e
def sSeq (p q : XS) : XS := fun e => (p e).bind fun f e1 => match f with
  | .nx => q e1
  | f => .ok f e1
theorem sb_nil : SB X W [] sNx := PSs.imp pss_nil fun Dn σ H ⟨B, e, Z, R0, hq⟩ => hq σ Z H (Same.refl _) R0
theorem sb_cons {st : Stmt} {rest : List Stmt} {p q : XS} (h1 : SS X W st p) (h2 : SB X W rest q) : SB X W (st :: rest) (sSeq p q) := by
  refine PSs.imp (pss_cons h1 h2) fun Dn σ H ⟨B, e, Z, R0, hq⟩ => ⟨B, e, Z, R0, ?_⟩
  unfold sSeq at hq
  cases hp : p e with
  | ok f e1 =>
    rw [hp] at hq
    cases f with
    | nx => exact fun σ' Z' H' s1 R1 => ⟨B, e1, Z', R1, PgS.up s1 hq⟩
    | bk => exact hq
    | ct => exact hq
    | rt d => exact hq
    | rn d => exact hq
  | ex x e1 =>
    rw [hp] at hq
    exact hq
  | bad =>
    rw [hp] at hq
    exact hq
theorem sb_one {st : Stmt} {p : XS} (h1 : SS X W st p) : SB X W [st] p := pss_one h1
theorem ss_pass : SS X W (.Pass pos) sNx := PS.imp ps_pass fun Dn σ H ⟨B, e, Z, R0, hq⟩ => hq σ Z H (Same.refl _) R0
theorem ss_break : SS X W (.Break pos) (fun e => .ok .bk e) := PS.imp ps_break fun Dn σ H ⟨B, e, Z, R0, hq⟩ => hq σ Z H (Same.refl _) R0
theorem ss_continue : SS X W (.Continue pos) (fun e => .ok .ct e) := PS.imp ps_continue fun Dn σ H ⟨B, e, Z, R0, hq⟩ => hq σ Z H (Same.refl _) R0
theorem ss_doc {x j pos'} : SS X W (.Expr (.Constant (.str x) j pos) pos') sNx := PS.imp ps_doc fun Dn σ H ⟨B, e, Z, R0, hq⟩ => hq σ Z H (Same.refl _) R0
def sExpr (p : XE) : XS := fun e => (p e).bind fun _ e1 => .ok .nx e1
theorem ss_expr {x : Expr} {p : XE} (h : SE X W x p) (hs : swapsWith x none pos.line X.env = pure false := by rfl) : SS X W (.Expr x pos) (sExpr p) := by
  refine PS.imp (ps_expr h hs) fun Dn σ H ⟨B, e, Z, R0, hq⟩ => ?_
  exact rs_bind R0 hq fun v1 Z1 e1 d1 H1 s1 R1 D1 h1 => h1 σ Z1 H1 (Same.refl _) R1
def sRet (p : XE) : XS := fun e => (p e).bind fun d e1 => .ok (.rt d) e1
theorem ss_ret {x : Expr} {p : XE} (h : SE X W x p) : SS X W (.Return (some x) pos) (sRet p) := by
  refine PS.imp (ps_ret h) fun Dn σ H ⟨B, e, Z, R0, hq⟩ => ?_
  exact rs_bind R0 hq fun v1 Z1 e1 d1 H1 s1 R1 D1 h1 => h1 v1 σ Z1 H1 (Same.refl _) R1 D1
theorem ss_retN : SS X W (.Return none pos) (fun e => .ok (.rt .none) e) := PS.imp ps_retN fun Dn σ H ⟨B, e, Z, R0, hq⟩ => hq _ σ Z H (Same.refl _) R0 .non
def sIf (t : XT) (p q : XS) : XS := fun e => (t e).bind fun b e1 => if b = true then p e1 else q e1
theorem ss_if {c : Expr} {a b : List Stmt} {t : XT} {p q : XS} (hc : ST X W c t) (ha : SB X W a p) (hb : SB X W b q) : SS X W (.If c a b pos) (sIf t p q) := by
  refine PS.imp (ps_if hc ha hb) fun Dn σ H ⟨B, e, Z, R0, hq⟩ => ?_
  refine rs_bind R0 hq fun v1 Z1 e1 d1 H1 s1 R1 D1 h1 => ?_
  subst D1
  cases v1 with
  | true => exact ⟨B, e1, Z1, R1, h1⟩
  | false => exact ⟨B, e1, Z1, R1, h1⟩
def sSet (i : Nat) (p : XE) : XS := fun e => (p e).bind fun d e1 => .ok .nx (e1.set i (.dat d))
theorem rs_set {i : Nat} {p : XE} {te : TE} (h : ∀ σ H Q, RE X.K X.mg W p σ H Q → te σ H Q) : ∀ Dn σ H, RSt X.K X.mg W (sSet i p) Dn σ H → tAsg te (gName i) Dn σ H := fun Dn σ H ⟨B, e, Z, R0, hq⟩ => by
  refine h σ H _ ?_
  exact rs_bind R0 hq fun v1 Z1 e1 d1 H1 s1 R1 D1 h1 => h1 _ Z1 H1 (Same.refl _) (R1.set D1)
theorem ss_set {i : Nat} {x : Str} {e : Expr} {p : XE} {pos' : Pos} (hN : X.N.Nodup) (hi : X.N[i]? = some x) (hx : Loc X.env.scope x) (he : SE X W e p) (hs : swapsWith e (some (.Name x pos')) pos.line X.env = pure false := by rfl) (hf : X.fn x = true ∨ X.env.scope.names.lookup x = some .local := by first | exact .inl rfl | exact .inr rfl | assumption) :
    SS X W (.Assign [.Name x pos'] e pos) (sSet i p) := PS.imp (ps_set hN hi hx he hs hf) (rs_set fun _ _ _ h => h)

/-! ### targets -/
abbrev XG := D → En → Option En
def RG (K : Frag) (is : List Nat) (t : XG) : TG := fun v σ H Q => ∃ B e Z d e', Rl K B e σ Z H ∧ Dq K Z v d ∧ t d e = some e' ∧
  ∀ σ', Rl K B e' σ' Z H → σ'.length = σ.length → (∀ i, i ∉ is → σ'[i]? = σ[i]?) → Q σ' H
def RGs (K : Frag) (is : List Nat) (t : List D → En → Option En) : TGs := fun vs σ H Q => ∃ B e Z ds e', Rl K B e σ Z H ∧ DqAll K Z vs ds ∧ t ds e = some e' ∧
  ∀ σ', Rl K B e' σ' Z H → σ'.length = σ.length → (∀ i, i ∉ is → σ'[i]? = σ[i]?) → Q σ' H
abbrev SG (X : Cx) (tg : Expr) (is : List Nat) (t : XG) : Prop := PG X tg (RG X.K is t)
abbrev SGs (X : Cx) (tg : List Expr) (is : List Nat) (t : List D → En → Option En) : Prop := PGs X tg (RGs X.K is t)
theorem PG.imp {e : Expr} {t t' : TG} (h : PG X e t) (f : ∀ v σ H Q, t' v σ H Q → t v σ H Q) : PG X e t' := ⟨fun pins s σ H v u Q I r hq => h.run pins s σ H v u Q I r (f v σ H Q hq)⟩
theorem PGs.imp {e : List Expr} {t t' : TGs} (h : PGs X e t) (f : ∀ v σ H Q, t' v σ H Q → t v σ H Q) : PGs X e t' := ⟨fun pins s σ H v u Q I r hq => h.run pins s σ H v u Q I r (f v σ H Q hq)⟩
def gN (i : Nat) : XG := fun d e => some (e.set i (.dat d))
theorem sg_name {i : Nat} {x : Str} (hN : X.N.Nodup) (hi : X.N[i]? = some x) (hx : Loc X.env.scope x) (hf : X.fn x = true ∨ X.env.scope.names.lookup x = some .local := by first | exact .inl rfl | exact .inr rfl | assumption) : SG X (.Name x pos) [i] (gN i) := by
  refine PG.imp (pg_name hN hi hx hf) fun v σ H Q ⟨B, e, Z, d, e', R0, d0, ht, k⟩ => ?_
  cases ht
  exact k _ (R0.set d0) (by simp) fun j hj => List.getElem?_set_ne (fun z => hj (by simp [z]))
def gsNil : List D → En → Option En := fun ds e => match ds with
  | [] => some e
  | _ => none
def gsCons (t : XG) (u : List D → En → Option En) : List D → En → Option En
  | d :: r, e => (t d e).bind (u r)
  | [], _ => none
theorem sgs_nil : SGs X [] [] gsNil := by
  refine PGs.imp pgs_nil fun vs σ H Q ⟨B, e, Z, ds, e', R0, d0, ht, k⟩ => ?_
  cases d0 with
  | nil =>
    cases ht
    exact ⟨rfl, k σ R0 rfl fun _ _ => rfl⟩
  | cons _ _ => cases ht
theorem sgs_cons {x : Expr} {xs : List Expr} {is js : List Nat} {t : XG} {u : List D → En → Option En} (h1 : SG X x is t) (h2 : SGs X xs js u)
    (hs : (assignEach (x :: xs) X.env).map (·.2) = assign x X.env :: (assignEach xs X.env).map (·.2) := by rfl) : SGs X (x :: xs) (is ++ js) (gsCons t u) := by
  refine PGs.imp (pgs_cons h1 h2 hs) fun vs σ H Q ⟨B, e, Z, ds, e', R0, d0, ht, k⟩ => ?_
  cases d0 with
  | nil => cases ht
  | @cons v vr d dr a b =>
    show ∃ v' r, _ ∧ _
    unfold gsCons at ht
    simp only at ht
    cases h : t d e with
    | none => rw [h] at ht; cases ht
    | some e1 =>
      rw [h] at ht
      refine ⟨v, vr, rfl, B, e, Z, d, e1, R0, a, h, fun σ1 R1 l1 f1 => ?_⟩
      exact ⟨B, e1, Z, dr, e', R1, b, ht, fun σ2 R2 l2 f2 => k σ2 R2 (l2.trans l1) fun i hi => (f2 i fun z => hi (by simp [z])).trans (f1 i fun z => hi (by simp [z]))⟩
def gT (n : Nat) (t : List D → En → Option En) : XG := fun d e => match d with
  | .tuple ds => if ds.length = n then t ds e else none
  | _ => none
theorem sg_tup {xs : List Expr} {k n : Nat} {is : List Nat} {t : List D → En → Option En} (hc : X.calm = true) (h : SGs X xs is t)
    (hn : (assignEach xs X.env).length = n := by rfl) (hst : (assignEach xs X.env).findIdx? (·.1) = none := by rfl) : SG X (.Tuple xs k pos) is (gT n t) := by
  refine PG.imp (pg_tup hc h hn hst) fun v σ H Q ⟨B, e, Z, d, e', R0, d0, ht, kk⟩ => ?_
  cases d0 with
  | tup q a =>
    unfold gT at ht
    simp only at ht
    split at ht
    · exact ⟨_, _, rfl, same_tup R0.sub q, by rw [dpa_len a]; assumption, B, e, Z, _, e', R0, a, ht, kk⟩
    · cases ht
  | non => cases ht
  | bl _ => cases ht
  | int _ => cases ht
  | str _ => cases ht
  | lst _ _ => cases ht
/-- target = e -/
def sAsg (t : XG) (p : XE) : XS := fun e => (p e).bind fun d e1 => match t d e1 with
  | some e2 => .ok .nx e2
  | none => .bad
theorem ss_asg {tg e : Expr} {is : List Nat} {t : XG} {p : XE} (he : SE X W e p) (hg : SG X tg is t) (hs : swapsWithSole [tg] e pos.line X.env = pure false := by rfl) (hw : swappedStores [tg] e X.env = pure none := by rfl)
    (h1 : (assignEach [tg] X.env).map (·.2) = [assign tg X.env] := by rfl) : SS X W (.Assign [tg] e pos) (sAsg t p) := by
  refine PS.imp (ps_asg he hg hs hw h1) fun Dn σ H ⟨B, e, Z, R0, hq⟩ => ?_
  refine rs_bind R0 hq fun v1 Z1 e1 d1 H1 s1 R1 D1 h1 => ?_
  cases h : t d1 e1 with
  | none => rw [h] at h1; exact h1.elim
  | some e2 =>
    rw [h] at h1
    exact ⟨B, e1, Z1, d1, e2, R1, D1, h, fun σ' R2 _ _ => h1 σ' Z1 H1 (Same.refl _) R2⟩

/-! ### walks -/
structure Wk (K : Frag) (Z : Hp) (J : It) (ds : List D) : Prop where
  goes : ∀ i H, i < ds.length → Same Z H → J.go i H
  stops : ∀ H, Same Z H → J.stop ds.length H
  ylds : ∀ i H x H' B e σ Z1, i < ds.length → Same Z Z1 → Rl K B e σ Z1 H → J.yld i H x H' → ∃ Z2 d, Same Z1 Z2 ∧ Rl K B e σ Z2 H' ∧ ds[i]? = some d ∧ Dq K Z2 x d
theorem Wk.up {K : Frag} {Z Z' : Hp} {J : It} {ds : List D} (w : Wk K Z J ds) (s : Same Z Z') : Wk K Z' J ds :=
  ⟨fun i H h q => w.goes i H h (s.trans q), fun H q => w.stops H (s.trans q), fun i H x H' B e σ Z1 h q => w.ylds i H x H' B e σ Z1 h (s.trans q)⟩
abbrev XI := En → R (List D)
abbrev RI (K : Frag) (mg : Str → Option Value) (W : WX) (p : XI) : TI := Rg K mg W (fun Z J ds => Wk K Z J ds) p
abbrev SI (X : Cx) (W : WX) (tg it : Expr) (p : XI) : Prop := PI X tg it (RI X.K X.mg W p)
theorem PI.imp {tg it : Expr} {t t' : TI} (h : PI X tg it t) (f : ∀ σ H Q, t' σ H Q → t σ H Q) : PI X tg it t' := ⟨fun pins s σ H Q I hq => h.run pins s σ H Q I (f σ H Q hq)⟩
def forD (t : XG) (b : XS) : List D → XS
  | [], e => .ok .nx e
  | d :: ds, e => match t d e with
    | none => .bad
    | some e1 => (b e1).bind fun f e2 => match f with
      | .nx => forD t b ds e2
      | .ct => forD t b ds e2
      | .bk => .ok .nx e2
      | .rt d => .ok (.rt d) e2
      | .rn d => .ok (.rn d) e2
def sFor (pi : XI) (t : XG) (b : XS) : XS := fun e => (pi e).bind fun ds e1 => forD t b ds e1
theorem ss_for {tg iter : Expr} {body : List Stmt} {pi : XI} {t : XG} {is : List Nat} {b : XS} (hp : PassesOwn (model X.prog X.w) X.A X.env X.xe) (hc : X.calm = true) (hi : SI X W tg iter pi) (hg : SG X tg is t) (hb : SB X W body b)
    (hs : ∀ x, foldedSetIterable iter X.env x = pure x := by intro _; rfl) : SS X W (.For tg iter body [] pos) (sFor pi t b) := by
  refine PS.imp (ps_for hp hc hi hg hb hs) fun Dn σ H ⟨B, e, Z, R0, hq⟩ => ?_
  refine rs_bind R0 hq fun J Z1 e1 ds H1 s1 R1 w h1 => ?_
  refine ⟨fun i m σ H => m = ds.length - i ∧ i ≤ ds.length ∧ ∃ e Z', Same Z1 Z' ∧ Rl X.K B e σ Z' H ∧ PgS X.K X.mg W B Z' (forD t b (ds.drop i) e) Dn, ⟨ds.length, by simp, Nat.zero_le _, e1, Z1, Same.refl _, R1, h1⟩, ?_⟩
  rintro i m σ H ⟨rfl, hi, e2, Z2, s2, R2, h2⟩
  by_cases hlt : i < ds.length
  · refine .inr ⟨w.goes i H hlt (s2.trans R2.sub), fun σ' H' => (i + 1 ≤ ds.length ∧ ∃ e Z', Same Z1 Z' ∧ Rl X.K B e σ' Z' H' ∧ PgS X.K X.mg W B Z' (forD t b (ds.drop (i + 1)) e) Dn), fun σ' H' h => ⟨ds.length - (i + 1), by omega, rfl, h⟩, fun x H' hy => ?_⟩
    obtain ⟨Z3, d, s3, R3, hd, D3⟩ := w.ylds i H x H' B e2 σ Z2 hlt s2 R2 hy
    have ed : ds.drop i = d :: ds.drop (i + 1) := by
      rw [List.drop_eq_getElem_cons hlt]
      congr 1
      rw [List.getElem?_eq_getElem hlt] at hd
      exact Option.some.inj hd
    rw [ed] at h2
    unfold forD at h2
    cases ht : t d e2 with
    | none =>
      simp only [ht] at h2
      exact h2.elim
    | some e3 =>
      simp only [ht] at h2
      refine ⟨B, e2, Z3, d, e3, R3, D3, ht, fun σ4 R4 _ _ => ⟨B, e3, Z3, R4, ?_⟩⟩
      cases hb : b e3 with
      | bad => rw [hb] at h2; exact h2.elim
      | ex x e4 =>
        rw [hb] at h2
        exact PgS.up s3 h2
      | ok f e4 =>
        rw [hb] at h2
        have h2' := PgS.up s3 h2
        cases f with
        | nx => exact fun σ5 Z5 H5 s5 R5 => ⟨hlt, e4, Z5, (s2.trans s3).trans s5, R5, PgS.up s5 h2'⟩
        | ct => exact fun σ5 Z5 H5 s5 R5 => ⟨hlt, e4, Z5, (s2.trans s3).trans s5, R5, PgS.up s5 h2'⟩
        | bk => exact h2'
        | rt d => exact h2'
        | rn d => exact h2'
  · have ei : i = ds.length := by omega
    subst ei
    refine .inl ⟨w.stops H (s2.trans R2.sub), ?_⟩
    rw [List.drop_length] at h2
    exact h2 σ Z2 H (Same.refl _) R2

/-! ### the walks there are -/
section
variable {tg : Expr}
/-- what data gives when it is walked -/
def iD : D → Option (List D)
  | .list ds => some ds
  | .tuple ds => some ds
  | .str z => some (z.cps.toList.map fun c => .str ⟨#[c]⟩)
  | _ => none
def iOf (p : XE) : XI := fun e => (p e).bind fun d e1 => R.lift (iD d) e1
theorem wk_list {K : Frag} {Z : Hp} {a : Addr} {vs : List V} {ds : List D} (q : SqL K Z a vs) (h : DqAll K Z vs ds) : Wk K Z (Itl K a) ds := by
  refine ⟨fun i H hi s => ?_, fun H s => ⟨vs, Same.seq s q, by rw [dpa_len h]; exact Nat.le_refl _⟩, fun i H x H' B e σ Z1 hi s R hy => ?_⟩
  · obtain ⟨v, e1, _⟩ := dpa_get h (List.getElem?_eq_getElem hi)
    exact ⟨vs, v, Same.seq s q, e1⟩
  · obtain ⟨rfl, f⟩ := hy
    obtain ⟨v, e1, e2⟩ := dpa_get h (List.getElem?_eq_getElem hi)
    have := f vs (Same.seq (s.trans R.sub) q)
    rw [e1] at this
    cases this
    exact ⟨Z1, _, Same.refl _, R, List.getElem?_eq_getElem hi, dp_mono s e2⟩
theorem wk_tup {K : Frag} {Z : Hp} {a : Addr} {vs : List V} {ds : List D} (q : SqT K Z a vs) (h : DqAll K Z vs ds) : Wk K Z (Itt K a) ds := by
  refine ⟨fun i H hi s => ?_, fun H s => ⟨vs, same_tup s q, by rw [dpa_len h]; exact Nat.le_refl _⟩, fun i H x H' B e σ Z1 hi s R hy => ?_⟩
  · obtain ⟨v, e1, _⟩ := dpa_get h (List.getElem?_eq_getElem hi)
    exact ⟨vs, v, same_tup s q, e1⟩
  · obtain ⟨rfl, f⟩ := hy
    obtain ⟨v, e1, e2⟩ := dpa_get h (List.getElem?_eq_getElem hi)
    have := f vs (same_tup (s.trans R.sub) q)
    rw [e1] at this
    cases this
    exact ⟨Z1, _, Same.refl _, R, List.getElem?_eq_getElem hi, dp_mono s e2⟩
theorem wk_str {K : Frag} {Z : Hp} {z : Str} : Wk K Z (Its z) (z.cps.toList.map fun c => .str ⟨#[c]⟩) := by
  have hl : (z.cps.toList.map fun c => PyData.str ⟨#[c]⟩).length = z.cps.size := by simp
  refine ⟨fun i H hi s => walk_str.goes i H (by omega) trivial, fun H s => by rw [hl]; exact walk_str.stops H trivial, fun i H x H' B e σ Z1 hi s R hy => ?_⟩
  obtain ⟨rfl, c, hc, rfl⟩ := walk_str.yields i H x H' (by omega) trivial hy
  refine ⟨Z1, .str ⟨#[c]⟩, Same.refl _, R, ?_, .str _⟩
  rw [List.getElem?_map, Array.getElem?_toList, hc]
  rfl
end
/-- what is walked, by its value -/
def ItR (X : Cx) (tg : Expr) (r : V → Hp → (It → Hp → Prop) → Prop) : Prop :=
  ∀ (pins : List (Addr × Obj)) (s : Shared) (σ : L2.St) (H : Hp) (x : V) (v : Value) (R : It → Hp → Prop), Inv X pins σ H s → RelV x v → r x H R →
    wpAny (model X.prog X.w) X.A (pyIter v) (PIE X pins σ tg R) X.xe s
theorem it_list {tg : Expr} : ItR X tg (fun x H R => ∃ a xs, x = .ref a ∧ SqL X.K H a xs ∧ R (Itl X.K a) H) := by
  intro pins s σ H x v R I r ⟨a, xs, e, hq, q⟩
  subst e
  cases r
  obtain ⟨its, rv, p, hz⟩ := I.list hq
  refine wpAny_pyIter_list p.isList ?_
  refine ⟨s.heap.objs.size, [s.heap.objs.size], _, _, H, rfl, I.kept (t' := s.toks) fun b o e => Heap.get?_push_of_some _ e, turn_list a _, ⟨_, Heap.get?_push_size _ rfl, rfl, rfl⟩, fun b hb => ?_, q⟩
  have e : b = s.heap.objs.size := by simpa using hb
  subst e
  exact I.fpOk (Nat.le_refl _) (I.hok.fresh (Nat.le_refl _))
theorem it_tup {tg : Expr} : ItR X tg (fun x H R => ∃ a xs, x = .ref a ∧ SqT X.K H a xs ∧ R (Itt X.K a) H) := by
  intro pins s σ H x v R I r ⟨a, xs, e, hq, q⟩
  subst e
  cases r
  obtain ⟨its, rv, p, hz⟩ := I.tuple hq
  refine wpAny_pyIter_tuple (show s.heap.IsTuple a its.toArray from p) ?_
  refine ⟨s.heap.objs.size, [s.heap.objs.size], _, _, H, rfl, I.kept (t' := s.toks) fun b o e => Heap.get?_push_of_some _ e, turn_tuple a _, ⟨_, Heap.get?_push_size _ rfl, rfl, rfl⟩, fun b hb => ?_, q⟩
  have e : b = s.heap.objs.size := by simpa using hb
  subst e
  exact I.fpOk (Nat.le_refl _) (I.hok.fresh (Nat.le_refl _))
theorem it_str {tg : Expr} : ItR X tg (fun x H R => ∃ z, x = .str z ∧ R (Its z) H) := by
  intro pins s σ H x v R I r ⟨z, e, q⟩
  subst e
  obtain ⟨t, rfl⟩ := r
  cases ha : z.cps.all (· < 128)
  · exact wpAny_pyIter_wide ha (pi_one (tk := s.toks) I _ (turn_str _ z t "str_iterator" (.inr rfl)) ⟨_, Heap.get?_push_size _ rfl, rfl, rfl⟩ q)
  · exact wpAny_pyIter_ascii ha (pi_one (tk := s.toks) I _ (turn_str _ z t "str_ascii_iterator" (.inl rfl)) ⟨_, Heap.get?_push_size _ rfl, rfl, rfl⟩ q)
/-- a list, a tuple or a text is walked -/
theorem si_dat {tg it : Expr} {p : XE} (h : SE X W it p) : SI X W tg it (iOf p) := by
  refine ⟨fun pins s σ H R I ⟨B, e, Z, R0, hq⟩ => ?_⟩
  have h1 : RE X.K X.mg W p σ H fun v H1 => ∃ J, R J H1 ∧ ((∃ a xs, v = .ref a ∧ SqL X.K H1 a xs ∧ J = Itl X.K a) ∨ (∃ a xs, v = .ref a ∧ SqT X.K H1 a xs ∧ J = Itt X.K a) ∨ ∃ z, v = .str z ∧ J = Its z) := by
    refine rg_bind R0 hq fun v1 Z1 e1 d1 H1 s1 R1 D1 h1 => ?_
    cases D1 with
    | lst q a => exact ⟨_, h1 _ Z1 H1 (Same.refl _) R1 (wk_list (.inl (.inl q)) a), .inl ⟨_, _, rfl, .inl (.inl (R1.sub _ _ q)), rfl⟩⟩
    | tup q a => exact ⟨_, h1 _ Z1 H1 (Same.refl _) R1 (wk_tup q a), .inr (.inl ⟨_, _, rfl, same_tup R1.sub q, rfl⟩)⟩
    | str z => exact ⟨_, h1 _ Z1 H1 (Same.refl _) R1 wk_str, .inr (.inr ⟨_, rfl, rfl⟩)⟩
    | non => exact h1.elim
    | bl _ => exact h1.elim
    | int _ => exact h1.elim
  refine thn (h.run pins s σ H _ I h1) fun v s1 ⟨x, H1, I1, r1, J, hr, q⟩ => ?_
  rcases q with ⟨a, xs, e1, q, rfl⟩ | ⟨a, xs, e1, q, rfl⟩ | ⟨z, e1, rfl⟩
  · exact it_list pins s1 σ H1 x v R I1 r1 ⟨a, xs, e1, q, hr⟩
  · exact it_tup pins s1 σ H1 x v R I1 r1 ⟨a, xs, e1, q, hr⟩
  · exact it_str pins s1 σ H1 x v R I1 r1 ⟨z, e1, hr⟩
/-- range(n), range(a, b) -/
def rgD (a b : Int) : List D := (List.range (b - a).toNat).map fun (i : Nat) => .int (a + (i : Int))
theorem wk_range {K : Frag} {Z : Hp} {lo : Int} {n : Nat} : Wk K Z (Itr lo n) ((List.range n).map fun (i : Nat) => .int (lo + (i : Int))) := by
  have hl : ((List.range n).map fun (i : Nat) => PyData.int (lo + (i : Int))).length = n := by simp
  refine ⟨fun i H hi s => walk_range.goes i H (by omega) trivial, fun H s => by rw [hl]; exact walk_range.stops H trivial, fun i H x H' B e σ Z1 hi s R hy => ?_⟩
  obtain ⟨rfl, rfl⟩ := walk_range.yields i H x H' (by omega) trivial hy
  refine ⟨Z1, .int (lo + i), Same.refl _, R, ?_, .int _⟩
  rw [List.getElem?_map, List.getElem?_range (by omega)]
  rfl
end
end G
set_option Elab.async false
set_option linter.all false
set_option maxRecDepth 100000
namespace G
open PySem PySem.Spec PyProof.Rows L2

section
variable {K : Frag} {Z : Hp} {v : V} {vs : List V}
theorem dp_int {n : Int} (h : Dq K Z v (.int n)) : v = .int n := by cases h; rfl
theorem dp_str {n : Str} (h : Dq K Z v (.str n)) : v = .str n := by cases h; rfl
theorem dp_bool {n : Bool} (h : Dq K Z v (.bool n)) : v = .bl n := by cases h; rfl
theorem dp_none (h : Dq K Z v .none) : v = .non := by cases h; rfl
theorem dp_list {ds : List D} (h : Dq K Z v (.list ds)) : ∃ a ws, v = .ref a ∧ Z a = some (.lst ws) ∧ DqAll K Z ws ds := by cases h with | lst q a => exact ⟨_, _, rfl, q, a⟩
theorem dp_tuple {ds : List D} (h : Dq K Z v (.tuple ds)) : ∃ a ws, v = .ref a ∧ SqT K Z a ws ∧ DqAll K Z ws ds := by cases h with | tup q a => exact ⟨_, _, rfl, q, a⟩
theorem dpa_nil (h : DqAll K Z vs []) : vs = [] := by cases h; rfl
theorem dpa_cons {d : D} {ds : List D} (h : DqAll K Z vs (d :: ds)) : ∃ v ws, vs = v :: ws ∧ Dq K Z v d ∧ DqAll K Z ws ds := by cases h with | cons a b => exact ⟨_, _, rfl, a, b⟩
theorem dpa_1 {d : D} (h : DqAll K Z vs [d]) : ∃ v, vs = [v] ∧ Dq K Z v d := by
  obtain ⟨v, ws, rfl, a, b⟩ := dpa_cons h
  cases dpa_nil b
  exact ⟨v, rfl, a⟩
theorem dpa_2 {d e : D} (h : DqAll K Z vs [d, e]) : ∃ v w, vs = [v, w] ∧ Dq K Z v d ∧ Dq K Z w e := by
  obtain ⟨v, ws, rfl, a, b⟩ := dpa_cons h
  obtain ⟨w, rfl, c⟩ := dpa_1 b
  exact ⟨v, w, rfl, a, c⟩
end

section
variable {X : Cx} {W : WX} {pos : Pos}
def rg1 : List D → Option (List D)
  | [.int n] => if -(2 ^ 62) ≤ n ∧ n < 2 ^ 62 then some (rgD 0 n) else none
  | _ => none
def rg2 : List D → Option (List D)
  | [.int a, .int b] => if (-(2 ^ 62) ≤ a ∧ a < 2 ^ 62) ∧ -(2 ^ 62) ≤ b ∧ b < 2 ^ 62 then some (rgD a b) else none
  | _ => none
def iArgs (g : List D → Option (List D)) (q : XA) : XI := fun e => (q e).bind fun ds e1 => R.lift (g ds) e1
theorem rg1_of {ds xs : List D} (h : rg1 ds = some xs) : ∃ n : Int, ds = [.int n] ∧ (-(2 ^ 62) ≤ n ∧ n < 2 ^ 62) ∧ xs = rgD 0 n := by
  unfold rg1 at h
  split at h
  · split at h
    · cases h; exact ⟨_, rfl, by assumption, rfl⟩
    · cases h
  · cases h
theorem rg2_of {ds xs : List D} (h : rg2 ds = some xs) : ∃ n m : Int, ds = [.int n, .int m] ∧ ((-(2 ^ 62) ≤ n ∧ n < 2 ^ 62) ∧ -(2 ^ 62) ≤ m ∧ m < 2 ^ 62) ∧ xs = rgD n m := by
  unfold rg2 at h
  split at h
  · split at h
    · cases h; exact ⟨_, _, rfl, by assumption, rfl⟩
    · cases h
  · cases h
theorem pgi_lift {β : Type} {vr : Hp → β → List D → Prop} {B : Bs} {σ : L2.St} {Z : Hp} {e : En} {o : Option (List D)} {Q : β → Hp → Prop} (h : Pg X.K X.mg W B σ Z vr (R.lift o e) Q) : ∃ ds, o = some ds ∧ Pg X.K X.mg W B σ Z vr (R.ok ds e) Q := by
  cases o with
  | none => exact h.elim
  | some ds => exact ⟨ds, rfl, h⟩
theorem si_range1 {tg a : Expr} {q : XA} {p pos : Pos} (hg : Gl X "range") (hm : X.mg "range" = none) (ha : SA X W [a] q) (hs : starEach [a] X.env = [(false, eval a X.env)] := by rfl) : SI X W tg (.Call (.Name "range" p) [a] [] pos) (iArgs rg1 q) := by
  refine PI.imp (pi_range1 hg hm ha hs) fun σ H Q ⟨B, e, Z, R0, hq⟩ => ?_
  refine rg_bind R0 hq fun v1 Z1 e1 d1 H1 s1 R1 D1 h1 => ?_
  obtain ⟨ds, e2, h2⟩ := pgi_lift h1
  obtain ⟨n, rfl, hn, rfl⟩ := rg1_of e2
  obtain ⟨v, rfl, a⟩ := dpa_1 D1
  cases dp_int a
  refine ⟨n, rfl, hn.1, hn.2, h2 _ Z1 H1 (Same.refl _) R1 ?_⟩
  have := wk_range (K := X.K) (Z := Z1) (lo := 0) (n := n.toNat)
  unfold rgD
  rw [Int.sub_zero]
  exact this
theorem si_range2 {tg a b : Expr} {q : XA} {p pos : Pos} (hg : Gl X "range") (hm : X.mg "range" = none) (ha : SA X W [a, b] q) (hs : starEach [a, b] X.env = [(false, eval a X.env), (false, eval b X.env)] := by rfl) (hs2 : starEach [b] X.env = [(false, eval b X.env)] := by rfl) : SI X W tg (.Call (.Name "range" p) [a, b] [] pos) (iArgs rg2 q) := by
  refine PI.imp (pi_range2 hg hm ha hs hs2) fun σ H Q ⟨B, e, Z, R0, hq⟩ => ?_
  refine rg_bind R0 hq fun v1 Z1 e1 d1 H1 s1 R1 D1 h1 => ?_
  obtain ⟨ds, e2, h2⟩ := pgi_lift h1
  obtain ⟨n, m, rfl, hn, rfl⟩ := rg2_of e2
  obtain ⟨v, w, rfl, a, b⟩ := dpa_2 D1
  cases dp_int a
  cases dp_int b
  exact ⟨n, m, rfl, ⟨hn.1.1, hn.1.2, hn.2.1, hn.2.2⟩, h2 _ Z1 H1 (Same.refl _) R1 (wk_range (K := X.K) (Z := Z1) (lo := n) (n := (m - n).toNat))⟩

/-! ### new lists -/
def PgF (K : Frag) (mg : Str → Option Value) (W : WX) (B : Bs) (σ : L2.St) (Z : Hp) (r : R (List D)) (Q : VK) : Prop := match r with
  | .ok ds e => ∀ p vs Z' H', Same Z Z' → Rl K B e σ Z' H' → H' p = some (.lst vs) → Z' p = none → (B.H p = none ∨ B.W p) → ¬ Owns e σ p → DqAll K Z' vs ds → Q (.ref p) H'
  | .ex x e => ∀ c dd Z' H', Same Z Z' → Rl K B e σ Z' H' → XnOk K mg Z' H' x c dd → W c dd σ H'
  | .bad => False
def RN (K : Frag) (mg : Str → Option Value) (W : WX) (p : XI) : TE := fun σ H Q => ∃ B e Z, Rl K B e σ Z H ∧ PgF K mg W B σ Z (p e) Q
abbrev SN (X : Cx) (W : WX) (e : Expr) (p : XI) : Prop := PE X e (RN X.K X.mg W p)
theorem PgF.up {K : Frag} {mg : Str → Option Value} {B : Bs} {σ : L2.St} {Z Z' : Hp} {r : R (List D)} {Q : VK} (s : Same Z Z') (h : PgF K mg W B σ Z r Q) : PgF K mg W B σ Z' r Q := by
  cases r with
  | ok a e => exact fun p vs Z1 H1 s1 => h p vs Z1 H1 (s.trans s1)
  | ex x e => exact fun c dd Z1 H1 s1 => h c dd Z1 H1 (s.trans s1)
  | bad => exact h
theorem rn_bind {α β : Type} {K : Frag} {mg : Str → Option Value} {B : Bs} {σ : L2.St} {Z H : Hp} {e : En} {vr : Hp → β → α → Prop} {p : En → R α} {k : α → En → R (List D)} {Q : VK} {Q' : β → Hp → Prop} (R0 : Rl K B e σ Z H) (h : PgF K mg W B σ Z ((p e).bind k) Q)
    (f : ∀ x Z1 e1 a H1, Same Z Z1 → Rl K B e1 σ Z1 H1 → vr Z1 x a → PgF K mg W B σ Z1 (k a e1) Q → Q' x H1) : Rg K mg W vr p σ H Q' := by
  refine ⟨B, e, Z, R0, ?_⟩
  cases hp : p e with
  | ok a e1 =>
    rw [hp] at h
    exact fun b Z1 H1 s1 R1 v => f b Z1 e1 a H1 s1 R1 v (PgF.up s1 h)
  | ex x e1 =>
    rw [hp] at h
    exact h
  | bad =>
    rw [hp] at h
    exact h
def eNew (p : XI) : XE := fun e => (p e).bind fun ds e1 => .ok (.list ds) e1
/-- by value: it is frozen -/
theorem rn_val {σ : L2.St} {H : Hp} {Q : VK} {p : XI} (h : RE X.K X.mg W (eNew p) σ H Q) : RN X.K X.mg W p σ H Q := by
  obtain ⟨B, e, Z, R0, hq⟩ := h
  refine ⟨B, e, Z, R0, ?_⟩
  unfold eNew at hq
  cases hp : p e with
  | ok ds e1 =>
    rw [hp] at hq
    intro a vs Z1 H1 s1 R1 h1 h2 h3 h4 h5
    obtain ⟨R2, s2⟩ := R1.fix h2 h3 h1 h4
    exact hq _ _ H1 (s1.trans s2) R2 (.lst upd_same (dpa_mono s2 h5))
  | ex x e1 => rw [hp] at hq; exact hq
  | bad => rw [hp] at hq; exact hq
theorem se_new {x : Expr} {p : XI} (h : SN X W x p) : SE X W x (eNew p) := PE.imp h fun _ _ _ => rn_val
/-- kept by a name that alone has it -/
def sOwn (i : Nat) (p : XI) : XS := fun e => (p e).bind fun ds e1 => .ok .nx (e1.set i (.own none (.lst ds)))
theorem rs_own {i : Nat} {p : XI} {te : TE} (h : ∀ σ H Q, RN X.K X.mg W p σ H Q → te σ H Q) : ∀ Dn σ H, RSt X.K X.mg W (sOwn i p) Dn σ H → tAsg te (gName i) Dn σ H := fun Dn σ H ⟨B, e, Z, R0, hq⟩ => by
  refine h σ H _ ⟨B, e, Z, R0, ?_⟩
  unfold sOwn at hq
  cases hp : p e with
  | ok ds e1 =>
    rw [hp] at hq
    intro a vs Z1 H1 s1 R1 h1 h2 h3 h4 h5
    exact hq _ Z1 H1 s1 (R1.setOwn h1 h2 h3 h4 ⟨vs, rfl, h5⟩)
  | ex x e1 => rw [hp] at hq; exact fun c dd Z1 H1 s1 R1 x1 => hq c dd σ Z1 H1 s1 R1 x1
  | bad => rw [hp] at hq; exact hq
theorem ss_own {i : Nat} {x : Str} {e : Expr} {p : XI} {pos' : Pos} (hN : X.N.Nodup) (hi : X.N[i]? = some x) (hx : Loc X.env.scope x) (he : SN X W e p) (hs : swapsWith e (some (.Name x pos')) pos.line X.env = pure false := by rfl) (hf : X.fn x = true ∨ X.env.scope.names.lookup x = some .local := by first | exact .inl rfl | exact .inr rfl | assumption) :
    SS X W (.Assign [.Name x pos'] e pos) (sOwn i p) := PS.imp (ps_set hN hi hx he hs hf) (rs_own fun _ _ _ h => h)
/-- from a rule that makes a new list at a free place -/
theorem pgf_new {B : Bs} {σ : L2.St} {Z H : Hp} {e : En} {vs : List V} {ds : List D} {Q : VK} (R0 : Rl X.K B e σ Z H) (d : DqAll X.K Z vs ds) (h : PgF X.K X.mg W B σ Z (R.ok ds e) Q) : ∀ p, H p = none → Q (.ref p) (upd H p (.lst vs)) := fun p hp => by
  have zn : Z p = none := by
    cases q : Z p with
    | none => rfl
    | some u => rw [R0.sub p u q] at hp; cases hp
  refine h p vs Z _ (Same.refl _) (R0.new0 hp) upd_same zn ?_ (fun ow => ?_) d
  · cases hb : B.H p with
    | none => exact .inl rfl
    | some o =>
      by_cases hw : B.W p
      · exact .inr hw
      · rw [R0.keep p o hb hw] at hp; cases hp
  · obtain ⟨⟨u, hu⟩, _⟩ := R0.owns ow
    rw [hu] at hp; cases hp
def nLst (q : XA) : XI := fun e => (q e).bind fun ds e1 => if ds.length ≤ sizeLine then .ok ds e1 else .bad
theorem sn_lst {es : List Expr} {pos : Pos} {q : XA} (h : SA X W es q) : SN X W (.List es pos) (nLst q) := by
  refine PE.imp (pe_lst h) fun σ H Q ⟨B, e, Z, R0, hq⟩ => ?_
  refine rn_bind R0 hq fun v1 Z1 e1 d1 H1 s1 R1 D1 h1 => ?_
  split at h1
  · exact ⟨by rw [dpa_len D1]; assumption, pgf_new R1 D1 h1⟩
  · exact h1.elim

/-- return of a new list that nobody else has -/
def sRetN (p : XI) : XS := fun e => (p e).bind fun ds e1 => .ok (.rn ds) e1
theorem ss_retNew {x : Expr} {p : XI} (h : SN X W x p) : SS X W (.Return (some x) pos) (sRetN p) := by
  refine PS.imp (ps_ret h) fun Dn σ H ⟨B, e, Z, R0, hq⟩ => ⟨B, e, Z, R0, ?_⟩
  unfold sRetN at hq
  cases hp : p e with
  | ok ds e1 =>
    rw [hp] at hq
    exact fun a vs Z1 H1 s1 R1 h1 h2 h3 h4 h5 => hq a vs σ Z1 H1 s1 R1 h1 h2 h3 h4 h5
  | ex x e1 => rw [hp] at hq; exact fun c dd Z1 H1 s1 R1 x1 => hq c dd σ Z1 H1 s1 R1 x1
  | bad => rw [hp] at hq; exact hq
/-- a name's own list, handed on: the name has it no more -/
def nTake (i : Nat) : XI := fun e => match e[i]? with
  | some (.own none (.lst ds)) => .ok ds (e.set i .un)
  | _ => .bad
theorem sn_take {i : Nat} {x : Str} {p : Pos} (h : PE X (.Name x p) (tVar i)) : SN X W (.Name x p) (nTake i) := by
  refine PE.imp h fun σ H Q ⟨B, e, Z, R0, hq⟩ => ?_
  unfold nTake at hq
  split at hq
  · rename_i ds he
    obtain ⟨p, u, h1, h2, h3, ⟨vs, rfl, h4⟩, h5, _⟩ := R0.own he
    have ro : Rl X.K B (e.set i .un) σ Z H := by
      refine R0.env (by simp) fun j s x q1 q2 => ?_
      rcases get_set q1 with ⟨rfl, rfl⟩ | ⟨hj, q⟩
      · exact .inr ⟨trivial, fun _ _ z => nomatch z⟩
      · exact .inl q
    have no : ¬ Owns (e.set i .un) σ p := fun ⟨j, t', o', q1, q2⟩ => by
      rcases get_set q1 with ⟨rfl, z⟩ | ⟨hj, q⟩
      · cases z
      · exact hj (R0.owns_one q q2 he h1)
    exact ⟨_, h1, hq p vs Z H (Same.refl _) ro h2 h3 h5 no h4⟩
  · exact hq.elim

/-! ### comprehensions -/
def wipeE (e : En) : List Nat → En
  | [] => e
  | v :: vs => (wipeE e vs).set v .un
def back (e0 : En) (e : En) : List Nat → En
  | [] => e
  | v :: vs => (back e0 e vs).set v (match e0[v]? with | some (.dat d) => .dat d | _ => .un)
theorem Rl.wipe {K : Frag} {B : Bs} {e : En} {σ : L2.St} {Z H : Hp} (R : Rl K B e σ Z H) : ∀ vs : List Nat, Rl K B (wipeE e vs) (wipe σ vs) Z H
  | [] => R
  | v :: vs => by
    have R1 := R.wipe vs
    show Rl K B ((wipeE e vs).set v .un) ((L2.wipe σ vs).set v none) Z H
    refine ⟨by simp [R1.len], fun j s x h1 h2 => ?_, fun j k t u a b hjk h1 h2 => ?_, R1.sub, R1.zup, R1.keep, R1.zfr⟩
    · rcases get_set h1 with ⟨rfl, rfl⟩ | ⟨hj, q⟩
      · trivial
      · rcases get_set h2 with ⟨rfl, _⟩ | ⟨_, q2⟩
        · exact absurd rfl hj
        · exact R1.ok j s x q q2
    · rcases get_set h1 with ⟨_, z⟩ | ⟨hj, q1⟩
      · cases z
      · rcases get_set h2 with ⟨_, z⟩ | ⟨hk, q2⟩
        · cases z
        · rw [List.getElem?_set_ne (Ne.symm hj), List.getElem?_set_ne (Ne.symm hk)]
          exact R1.sep j k t u a b hjk q1 q2
theorem wipe_get {σ : L2.St} {i : Nat} : ∀ {vs : List Nat}, i ∉ vs → (wipe σ vs)[i]? = σ[i]?
  | [], _ => rfl
  | v :: vs, h => by
    show ((wipe σ vs).set v none)[i]? = _
    rw [List.getElem?_set_ne (fun z => h (by simp [z]))]
    exact wipe_get fun z => h (by simp [z])
theorem back_len {e0 e : En} : ∀ vs : List Nat, (back e0 e vs).length = e.length
  | [] => rfl
  | v :: vs => by
    show ((back e0 e vs).set v _).length = _
    rw [List.length_set, back_len vs]
theorem back_get {e0 e : En} {i : Nat} {s : Sl} : ∀ {vs : List Nat}, (back e0 e vs)[i]? = some s → (i ∉ vs ∧ e[i]? = some s) ∨ (∃ d, e0[i]? = some (.dat d) ∧ s = .dat d) ∨ s = .un
  | [], h => .inl ⟨by simp, h⟩
  | v :: vs, h => by
    rcases get_set (show ((back e0 e vs).set v _)[i]? = some s from h) with ⟨rfl, rfl⟩ | ⟨hj, q⟩
    · split
      · rename_i d hd
        exact .inr (.inl ⟨d, hd, rfl⟩)
      · exact .inr (.inr rfl)
    · rcases back_get q with ⟨h1, h2⟩ | h1
      · exact .inl ⟨by simp [hj, h1], h2⟩
      · exact .inr h1
/-- behind a comprehension: its names are forgotten, what they held ahead is there again -/
theorem Rl.back {K : Frag} {B B0 : Bs} {e0 e : En} {σ : L2.St} {Z0 H0 Z H : Hp} {vs : List Nat} (R0 : Rl K B0 e0 σ Z0 H0) (R : Rl K B e (L2.wipe σ vs) Z H) (s : Same Z0 Z) : Rl K B (G.back e0 e vs) σ Z H := by
  refine ⟨by rw [back_len, R.len, wipe_length], fun i sl x h1 h2 => ?_, fun i j t u a b hij h1 h2 => ?_, R.sub, R.zup, R.keep, R.zfr⟩
  · rcases back_get h1 with ⟨hn, q⟩ | ⟨d, q, rfl⟩ | rfl
    · exact R.ok i sl x q ((wipe_get hn).trans h2)
    · obtain ⟨v, e1, e2⟩ := R0.ok i _ x q h2
      exact ⟨v, e1, dp_mono s e2⟩
    · trivial
  · rcases back_get h1 with ⟨hn, q⟩ | ⟨d, q, z⟩ | z
    · rcases back_get h2 with ⟨hn2, q2⟩ | ⟨d, q2, z⟩ | z
      · rw [← wipe_get (σ := σ) hn, ← wipe_get (σ := σ) hn2]
        exact R.sep i j t u a b hij q q2
      · cases z
      · cases z
    · cases z
    · cases z
abbrev WF : WX := fun _ _ _ _ => False
def lcGo (t : XG) (c : XT) (x : XE) (vs : List Nat) : List D → En → List D → R (List D)
  | [], e, acc => .ok acc e
  | d :: ds, e, acc => match t d e with
    | none => .bad
    | some e1 => (c e1).noex.bind fun b e2 => if b = true then (x e2).noex.bind fun y e3 => lcGo t c x vs ds (wipeE e3 vs) (acc ++ [y]) else lcGo t c x vs ds (wipeE e2 vs) acc
def nLc (pi : XI) (t : XG) (c : XT) (x : XE) (vs : List Nat) : XI := fun e => (pi e).bind fun ds e1 => if ds.length < sizeLine then (lcGo t c x vs ds (wipeE e1 vs) []).bind fun acc e2 => .ok acc (back e1 e2 vs) else .bad
abbrev STs (X : Cx) (ifs : List Expr) (p : XT) : Prop := PTs X ifs (RT X.K X.mg WF p)
theorem PTs.imp {X : Cx} {e : List Expr} {t t' : TT} (h : PTs X e t) (f : ∀ σ H Q, t' σ H Q → t σ H Q) : PTs X e t' := ⟨fun pins s σ H Q I hq => h.run pins s σ H Q I (f σ H Q hq)⟩
theorem sts_nil : STs X [] (fun e => .ok true e) := PTs.imp pts_nil fun σ H Q ⟨B, e, Z, R0, hq⟩ => hq _ Z H (Same.refl _) R0 rfl
theorem sts_one {c : Expr} {p : XT} (h : ST X WF c p) : STs X [c] p := pts_one h
theorem rn_bindX {α β : Type} {K : Frag} {mg : Str → Option Value} {B B' : Bs} {σ σ' : L2.St} {Z H : Hp} {e : En} {vr : Hp → β → α → Prop} {p : En → R α} {k : α → En → R (List D)} {Q : VK} {Q' : β → Hp → Prop} (R0 : Rl K B' e σ' Z H) (h : PgF K mg W B σ Z ((p e).noex.bind k) Q)
    (f : ∀ x Z1 e1 a H1, Same Z Z1 → Rl K B' e1 σ' Z1 H1 → vr Z1 x a → PgF K mg W B σ Z1 (k a e1) Q → Q' x H1) : Rg K mg WF vr p σ' H Q' := by
  refine ⟨B', e, Z, R0, ?_⟩
  cases hp : p e with
  | ok a e1 =>
    rw [hp] at h
    exact fun b Z1 H1 s1 R1 v => f b Z1 e1 a H1 s1 R1 v (PgF.up s1 h)
  | ex x e1 =>
    rw [hp] at h
    exact h.elim
  | bad =>
    rw [hp] at h
    exact h
theorem wipe_get_in {σ : L2.St} {i : Nat} : ∀ {vs : List Nat}, i ∈ vs → (L2.wipe σ vs)[i]? = if i < σ.length then some none else none
  | v :: vs, h => by
    show ((L2.wipe σ vs).set v none)[i]? = _
    by_cases hv : v = i
    · subst hv
      by_cases hl : v < σ.length
      · rw [List.getElem?_set_self (by rw [wipe_length]; exact hl), if_pos hl]
      · rw [List.getElem?_eq_none (by rw [List.length_set, wipe_length]; omega), if_neg hl]
    · rw [List.getElem?_set_ne hv]
      exact wipe_get_in (List.mem_of_ne_of_mem (Ne.symm hv) h)
theorem wipe_eq {σ σ' : L2.St} {vs is : List Nat} (hi : ∀ i ∈ is, i ∈ vs) (hl : σ'.length = (L2.wipe σ vs).length) (hf : ∀ i, i ∉ is → σ'[i]? = (L2.wipe σ vs)[i]?) : L2.wipe σ' vs = L2.wipe σ vs := by
  rw [wipe_length] at hl
  refine List.ext_getElem? fun i => ?_
  by_cases h : i ∈ vs
  · rw [wipe_get_in h, wipe_get_in h, hl]
  · rw [wipe_get h, hf i fun z => h (hi i z)]
theorem Rl.noOwn {K : Frag} {B : Bs} {e : En} {σ : L2.St} {Z H : Hp} (R : Rl K B e σ Z H) {p : Addr} (h : H p = none) : ¬ Owns e σ p := fun ow => by
  obtain ⟨⟨u, hu⟩, _⟩ := R.owns ow
  rw [hu] at h; cases h
theorem Rl.noZ {K : Frag} {B : Bs} {e : En} {σ : L2.St} {Z H : Hp} (R : Rl K B e σ Z H) {p : Addr} (h : H p = none) : Z p = none := by
  cases q : Z p with
  | none => rfl
  | some u => rw [R.sub p u q] at h; cases h
theorem Rl.fresh {K : Frag} {B : Bs} {e : En} {σ : L2.St} {Z H : Hp} (R : Rl K B e σ Z H) {p : Addr} (h : H p = none) : B.H p = none ∨ B.W p := by
  cases hb : B.H p with
  | none => exact .inl rfl
  | some o =>
    by_cases hw : B.W p
    · exact .inr hw
    · rw [R.keep p o hb hw] at h; cases h
theorem lc_imp {pi : XI} {t : XG} {c : XT} {x : XE} {vs is : List Nat} (his : ∀ i ∈ is, i ∈ vs) {σ : L2.St} {H : Hp} {Q : VK} (h : RN X.K X.mg W (nLc pi t c x vs) σ H Q) :
    tLc (RI X.K X.mg W pi) (RG X.K is t) (RT X.K X.mg WF c) (RE X.K X.mg WF x) vs σ H Q := by
  obtain ⟨B, e, Z, R0, hq⟩ := h
  refine rn_bind R0 hq fun J Z1 e1 ds H1 s1 R1 w h1 => ?_
  split at h1
  case isFalse => exact h1.elim
  rename_i hsz
  intro Dd hD
  have hb := R1.fresh hD
  have Rw := R1.wipe vs
  refine ⟨fun i m H => m = ds.length - i ∧ i ≤ ds.length ∧ ∃ e' Z' acc vacc, Same Z1 Z' ∧ Rl X.K B e' (L2.wipe σ vs) Z' H ∧ H Dd = some (.lst vacc) ∧ Z' Dd = none ∧ ¬ Owns e' (L2.wipe σ vs) Dd ∧ DqAll X.K Z' vacc acc ∧ acc.length ≤ i ∧
      PgF X.K X.mg W B σ Z' ((lcGo t c x vs (ds.drop i) e' acc).bind fun acc e2 => .ok acc (back e1 e2 vs)) Q,
    ⟨ds.length, by simp, Nat.zero_le _, _, Z1, [], [], Same.refl _, Rw.new0 hD, upd_same, R1.noZ hD, Rw.noOwn hD, .nil, Nat.le_refl _, h1⟩, ?_⟩
  rintro i m H ⟨rfl, hi, e2, Z2, acc, vacc, s2, R2, hDd, hz2, hn2, da2, hl2, h2⟩
  by_cases hlt : i < ds.length
  · refine .inr ⟨w.goes i H hlt (s2.trans R2.sub), fun H' => (i + 1 ≤ ds.length ∧ ∃ e' Z' acc vacc, Same Z1 Z' ∧ Rl X.K B e' (L2.wipe σ vs) Z' H' ∧ H' Dd = some (.lst vacc) ∧ Z' Dd = none ∧ ¬ Owns e' (L2.wipe σ vs) Dd ∧ DqAll X.K Z' vacc acc ∧ acc.length ≤ i + 1 ∧
      PgF X.K X.mg W B σ Z' ((lcGo t c x vs (ds.drop (i + 1)) e' acc).bind fun acc e2 => .ok acc (back e1 e2 vs)) Q), fun H' h => ⟨ds.length - (i + 1), by omega, rfl, h⟩, fun v H' hy => ?_⟩
    have Rb := R2.rebase
    obtain ⟨Z3, d, s3, R3, hd, D3⟩ := w.ylds i H v H' _ e2 _ Z2 hlt s2 Rb hy
    have ed : ds.drop i = d :: ds.drop (i + 1) := by
      rw [List.drop_eq_getElem_cons hlt]
      congr 1
      rw [List.getElem?_eq_getElem hlt] at hd
      exact Option.some.inj hd
    rw [ed] at h2
    unfold lcGo at h2
    cases ht : t d e2 with
    | none =>
      simp only [ht] at h2
      exact h2.elim
    | some e3 =>
      simp only [ht] at h2
      refine ⟨_, e2, Z3, d, e3, R3, D3, ht, fun σ4 R4 l4 f4 => ?_⟩
      have we := wipe_eq his l4 f4
      refine ⟨we, ?_⟩
      have h2' := PgF.up s3 h2
      have e5 : ∀ (r : R Bool) (k : Bool → En → R (List D)) (k2 : List D → En → R (List D)), (r.bind k).bind k2 = r.bind fun a e => (k a e).bind k2 := fun r k k2 => by cases r <;> rfl
      rw [e5] at h2'
      -- a state as it was made within the turn comes back
      have home : ∀ {e6 : En} {Z6 H6 : Hp}, Rl X.K (B.at e2 (L2.wipe σ vs) Z2 H) e6 σ4 Z6 H6 → Rl X.K B (wipeE e6 vs) (L2.wipe σ vs) Z6 H6 ∧ H6 Dd = some (.lst vacc) ∧ Z6 Dd = none ∧ ¬ Owns (wipeE e6 vs) (L2.wipe σ vs) Dd := fun {e6 Z6 H6} R6 => by
        have R7 := R6.wipe vs
        rw [we] at R7
        have k := Rl.kept R6 hDd hn2
        exact ⟨R2.unbase R7, k.1, k.2.trans hz2, Rl.young R7 hDd hn2⟩
      refine rn_bindX R4 h2' fun b Z5 e5 b' H5 s5 R5 hbb h5 => ?_
      subst hbb
      cases b with
      | false =>
        obtain ⟨g1, g2, g3, g4⟩ := home R5
        exact ⟨hlt, _, Z5, acc, vacc, (s2.trans s3).trans s5, g1, g2, g3, g4, dpa_mono (s3.trans s5) da2, by omega, h5⟩
      | true =>
        simp only [if_true] at h5 ⊢
        have e5' : ∀ (r : R D) (k : D → En → R (List D)) (k2 : List D → En → R (List D)), (r.bind k).bind k2 = r.bind fun a e => (k a e).bind k2 := fun r k k2 => by cases r <;> rfl
        rw [e5'] at h5
        refine rn_bindX R5 h5 fun y Z6 e6 dy H6 s6 R6 D6 h6 => ?_
        obtain ⟨g1, g2, g3, g4⟩ := home R6
        have sz := dpa_len da2
        refine ⟨vacc, g2, by omega, hlt, _, Z6, acc ++ [dy], vacc ++ [y], ((s2.trans s3).trans s5).trans s6, g1.wr g3 hb g4, upd_same, g3, g4, dpa_app (dpa_mono ((s3.trans s5).trans s6) da2) (.cons D6 .nil), by simp; omega, h6⟩
  · have ei : i = ds.length := by omega
    subst ei
    refine .inl ⟨w.stops H (s2.trans R2.sub), ?_⟩
    rw [List.drop_length] at h2
    have Rk := Rl.back R1 R2 s2
    have nb : ¬ Owns (back e1 e2 vs) σ Dd := fun ⟨j, t', o', q1, q2⟩ => by
      rcases back_get q1 with ⟨hj, q⟩ | ⟨d, q, z⟩ | z
      · exact hn2 ⟨j, t', o', q, (wipe_get hj).trans q2⟩
      · cases z
      · cases z
    exact h2 Dd vacc Z2 H (Same.refl _) Rk hDd hz2 hb nb da2
theorem sn_lc {elt tg iter : Expr} {ifs : List Expr} {scope : Scope} {own : List (Str × Nat)} {pos : Pos} {pi : XI} {t : XG} {is : List Nat} {c : XT} {x : XE} (hc : X.calm = true) (hN : X.N.Nodup) (hi : SI X W tg iter pi) (ok : BlkOk X.N X.env.scope scope own) (his : ∀ i ∈ is, i ∈ own.map (·.2))
    (hg : ∀ (s : Shared) (H : Hp) (C : Addr) (cl : List (Str × Addr)) (fp : List Addr), SG (X.blk s H scope (compEnvC scope cl C X.env) fp) tg is t) (ht : ∀ (s : Shared) (H : Hp) (C : Addr) (cl : List (Str × Addr)) (fp : List Addr), STs (X.blk s H scope (compEnvC scope cl C X.env) fp) ifs c)
    (he : ∀ (s : Shared) (H : Hp) (C : Addr) (cl : List (Str × Addr)) (fp : List Addr), SE (X.blk s H scope (compEnvC scope cl C X.env) fp) WF elt x) (hs : ∀ x, foldedSetIterable iter X.env x = pure x := by intro _; rfl) :
    SN X W (.ListComp elt [⟨tg, iter, ifs, 0⟩] scope pos) (nLc pi t c x (own.map (·.2))) :=
  PE.imp (pe_lc hc hN hi ok hg ht he hs) fun _ _ _ => lc_imp his
theorem ss_setLc {i : Nat} {y : Str} {py : Pos} {elt tg iter : Expr} {ifs : List Expr} {scope : Scope} {own : List (Str × Nat)} {pos spos : Pos} {pi : XI} {t : XG} {is : List Nat} {c : XT} {x : XE} (hc : X.calm = true) (hN : X.N.Nodup) (hy : X.N[i]? = some y) (hyl : X.env.scope.names.lookup y = some .local)
    (hsw : swapsWith (.ListComp elt [⟨tg, iter, ifs, 0⟩] scope pos) (some (.Name y py)) spos.line X.env = pure true) (hi : SI X W tg iter pi) (ok : BlkOk X.N X.env.scope scope own) (his : ∀ i ∈ is, i ∈ own.map (·.2))
    (hg : ∀ (s : Shared) (H : Hp) (C : Addr) (cl : List (Str × Addr)) (fp : List Addr), SG (X.blk s H scope (compEnvC scope cl C X.env) fp) tg is t) (ht : ∀ (s : Shared) (H : Hp) (C : Addr) (cl : List (Str × Addr)) (fp : List Addr), STs (X.blk s H scope (compEnvC scope cl C X.env) fp) ifs c)
    (he : ∀ (s : Shared) (H : Hp) (C : Addr) (cl : List (Str × Addr)) (fp : List Addr), SE (X.blk s H scope (compEnvC scope cl C X.env) fp) WF elt x) (hs : ∀ x, foldedSetIterable iter X.env x = pure x := by intro _; rfl) :
    SS X W (.Assign [.Name y py] (.ListComp elt [⟨tg, iter, ifs, 0⟩] scope pos) spos) (sSet i (eNew (nLc pi t c x (own.map (·.2))))) :=
  PS.imp (ps_setLc hc hN hy hyl hsw hi ok hg ht he hs) (rs_set fun _ _ _ h => lc_imp his (rn_val h))
theorem ss_ownLc {i : Nat} {y : Str} {py : Pos} {elt tg iter : Expr} {ifs : List Expr} {scope : Scope} {own : List (Str × Nat)} {pos spos : Pos} {pi : XI} {t : XG} {is : List Nat} {c : XT} {x : XE} (hc : X.calm = true) (hN : X.N.Nodup) (hy : X.N[i]? = some y) (hyl : X.env.scope.names.lookup y = some .local)
    (hsw : swapsWith (.ListComp elt [⟨tg, iter, ifs, 0⟩] scope pos) (some (.Name y py)) spos.line X.env = pure true) (hi : SI X W tg iter pi) (ok : BlkOk X.N X.env.scope scope own) (his : ∀ i ∈ is, i ∈ own.map (·.2))
    (hg : ∀ (s : Shared) (H : Hp) (C : Addr) (cl : List (Str × Addr)) (fp : List Addr), SG (X.blk s H scope (compEnvC scope cl C X.env) fp) tg is t) (ht : ∀ (s : Shared) (H : Hp) (C : Addr) (cl : List (Str × Addr)) (fp : List Addr), STs (X.blk s H scope (compEnvC scope cl C X.env) fp) ifs c)
    (he : ∀ (s : Shared) (H : Hp) (C : Addr) (cl : List (Str × Addr)) (fp : List Addr), SE (X.blk s H scope (compEnvC scope cl C X.env) fp) WF elt x) (hs : ∀ x, foldedSetIterable iter X.env x = pure x := by intro _; rfl) :
    SS X W (.Assign [.Name y py] (.ListComp elt [⟨tg, iter, ifs, 0⟩] scope pos) spos) (sOwn i (nLc pi t c x (own.map (·.2)))) :=
  PS.imp (ps_setLc hc hN hy hyl hsw hi ok hg ht he hs) (rs_own fun _ _ _ h => lc_imp his h)
end
end G
set_option Elab.async false
set_option linter.all false
set_option maxRecDepth 100000
namespace G
open PySem PySem.Spec PyProof.Rows L2
section
variable {X : Cx} {W : WX} {pos : Pos}
theorem R.bind_assoc {α β γ : Type} (r : R α) (k : α → En → R β) (k2 : β → En → R γ) : (r.bind k).bind k2 = r.bind fun a e => (k a e).bind k2 := by cases r <;> rfl
/-! ### two fors -/
def lc2Go (t : XG) (c : XT) (pi1 : XI) (t1 : XG) (c1 : XT) (x : XE) (vs vs1 : List Nat) : List D → En → List D → R (List D)
  | [], e, acc => .ok acc e
  | d :: ds, e, acc => match t d e with
    | none => .bad
    | some e1 => (c e1).noex.bind fun b e2 => if b = true then
        (pi1 e2).noex.bind fun ds1 e3 => if acc.length + ds1.length < sizeLine then (lcGo t1 c1 x vs1 ds1 (wipeE e3 vs1) acc).bind fun acc' e4 => lc2Go t c pi1 t1 c1 x vs vs1 ds (wipeE e4 vs) acc' else .bad
      else lc2Go t c pi1 t1 c1 x vs vs1 ds (wipeE e2 vs) acc
def nLc2 (pi : XI) (t : XG) (c : XT) (pi1 : XI) (t1 : XG) (c1 : XT) (x : XE) (vs vs1 : List Nat) : XI := fun e => (pi e).bind fun ds e1 => (lc2Go t c pi1 t1 c1 x vs vs1 ds (wipeE e1 vs) []).bind fun acc e2 => .ok acc (back e1 e2 vs)
theorem wipe_wipe {σ σ2 : L2.St} {vs vs1 : List Nat} (h1 : ∀ i ∈ vs1, i ∈ vs) (h : L2.wipe σ2 vs = L2.wipe σ vs) : L2.wipe (L2.wipe σ2 vs1) vs = L2.wipe σ vs := by
  rw [← h]
  refine List.ext_getElem? fun i => ?_
  by_cases hi : i ∈ vs
  · rw [wipe_get_in hi, wipe_get_in hi, wipe_length]
  · rw [wipe_get hi, wipe_get hi, wipe_get fun z => hi (h1 i z)]
theorem drop_at {ds : List D} {i : Nat} {d : D} (hlt : i < ds.length) (hd : ds[i]? = some d) : ds.drop i = d :: ds.drop (i + 1) := by
  rw [List.drop_eq_getElem_cons hlt]
  congr 1
  rw [List.getElem?_eq_getElem hlt] at hd
  exact Option.some.inj hd
theorem lc2_imp {pi pi1 : XI} {t t1 : XG} {c c1 : XT} {x : XE} {vs vs1 is is1 : List Nat} (his : ∀ i ∈ is, i ∈ vs) (his1 : ∀ i ∈ is1, i ∈ vs1) (hvs : ∀ i ∈ vs1, i ∈ vs) {σ : L2.St} {H : Hp} {Q : VK} (h : RN X.K X.mg W (nLc2 pi t c pi1 t1 c1 x vs vs1) σ H Q) :
    tLc2 (RI X.K X.mg W pi) (RG X.K is t) (RT X.K X.mg WF c) (RI X.K X.mg WF pi1) (RG X.K is1 t1) (RT X.K X.mg WF c1) (RE X.K X.mg WF x) vs vs1 σ H Q := by
  obtain ⟨B, e, Z, R0, hq⟩ := h
  refine rn_bind R0 hq fun J Z1 e1 ds H1 s1 R1 w h1 => ?_
  intro Dd hD
  have hb := R1.fresh hD
  have Rw := R1.wipe vs
  refine ⟨fun i m H => m = ds.length - i ∧ i ≤ ds.length ∧ ∃ e' Z' acc vacc, Same Z1 Z' ∧ Rl X.K B e' (L2.wipe σ vs) Z' H ∧ H Dd = some (.lst vacc) ∧ Z' Dd = none ∧ ¬ Owns e' (L2.wipe σ vs) Dd ∧ DqAll X.K Z' vacc acc ∧
      PgF X.K X.mg W B σ Z' ((lc2Go t c pi1 t1 c1 x vs vs1 (ds.drop i) e' acc).bind fun acc e2 => .ok acc (back e1 e2 vs)) Q,
    ⟨ds.length, by simp, Nat.zero_le _, _, Z1, [], [], Same.refl _, Rw.new0 hD, upd_same, R1.noZ hD, Rw.noOwn hD, .nil, h1⟩, ?_⟩
  rintro i m H ⟨rfl, hi, e2, Z2, acc, vacc, s2, R2, hDd, hz2, hn2, da2, h2⟩
  by_cases hlt : i < ds.length
  · refine .inr ⟨w.goes i H hlt (s2.trans R2.sub), fun H' => (i + 1 ≤ ds.length ∧ ∃ e' Z' acc vacc, Same Z1 Z' ∧ Rl X.K B e' (L2.wipe σ vs) Z' H' ∧ H' Dd = some (.lst vacc) ∧ Z' Dd = none ∧ ¬ Owns e' (L2.wipe σ vs) Dd ∧ DqAll X.K Z' vacc acc ∧
      PgF X.K X.mg W B σ Z' ((lc2Go t c pi1 t1 c1 x vs vs1 (ds.drop (i + 1)) e' acc).bind fun acc e2 => .ok acc (back e1 e2 vs)) Q), fun H' h => ⟨ds.length - (i + 1), by omega, rfl, h⟩, fun v H' hy => ?_⟩
    have Rb := R2.rebase
    obtain ⟨Z3, d, s3, R3, hd, D3⟩ := w.ylds i H v H' _ e2 _ Z2 hlt s2 Rb hy
    rw [drop_at hlt hd] at h2
    unfold lc2Go at h2
    cases ht : t d e2 with
    | none =>
      simp only [ht] at h2
      exact h2.elim
    | some e3 =>
      simp only [ht] at h2
      refine ⟨_, e2, Z3, d, e3, R3, D3, ht, fun σ4 R4 l4 f4 => ?_⟩
      have we := wipe_eq his l4 f4
      refine ⟨we, ?_⟩
      have h2' := PgF.up s3 h2
      rw [R.bind_assoc] at h2'
      -- a state as it was made within the turn comes back
      have home : ∀ {e6 : En} {Z6 H6 : Hp} {σ6 : L2.St}, L2.wipe σ6 vs = L2.wipe σ vs → Rl X.K (B.at e2 (L2.wipe σ vs) Z2 H) e6 σ6 Z6 H6 → Rl X.K B (wipeE e6 vs) (L2.wipe σ vs) Z6 H6 := fun {e6 Z6 H6 σ6} w6 R6 => by
        have R7 := R6.wipe vs
        rw [w6] at R7
        exact R2.unbase R7
      refine rn_bindX R4 h2' fun b Z5 e5 b' H5 s5 R5 hbb h5 => ?_
      subst hbb
      have k5 := Rl.kept R5 hDd hn2
      have y5 : ¬ Owns e5 σ4 Dd := Rl.young R5 hDd hn2
      cases b with
      | false =>
        have y5' : ¬ Owns (wipeE e5 vs) (L2.wipe σ vs) Dd := by
          have R7 := R5.wipe vs
          rw [we] at R7
          exact Rl.young R7 hDd hn2
        exact ⟨hlt, _, Z5, acc, vacc, (s2.trans s3).trans s5, home we R5, k5.1, k5.2.trans hz2, y5', dpa_mono (s3.trans s5) da2, h5⟩
      | true =>
        simp only [if_true] at h5 ⊢
        rw [R.bind_assoc] at h5
        refine rn_bindX R5 h5 fun J1 Z6 e6 ds1 H6 s6 R6 w6 h6 => ?_
        split at h6
        case isFalse => exact h6.elim
        rename_i hsz
        have Rw1 := R6.wipe vs1
        have k6 := Rl.kept R6 hDd hn2
        have y6 : ¬ Owns (wipeE e6 vs1) (L2.wipe σ4 vs1) Dd := Rl.young Rw1 hDd hn2
        -- the inner loop over the turn's base, the list at Dd apart
        have B1 : Bs := B
        refine ⟨fun j k H => k = ds1.length - j ∧ j ≤ ds1.length ∧ ∃ e' Z' acc' vacc', Same Z6 Z' ∧ Rl X.K B (wipeE e' []) (L2.wipe σ4 vs1) Z' H ∧ H Dd = some (.lst vacc') ∧ Z' Dd = none ∧ ¬ Owns e' (L2.wipe σ4 vs1) Dd ∧ DqAll X.K Z' vacc' acc' ∧ acc'.length ≤ acc.length + j ∧
          PgF X.K X.mg W B σ Z' (((lcGo t1 c1 x vs1 (ds1.drop j) e' acc').bind fun acc' e4 => lc2Go t c pi1 t1 c1 x vs vs1 (ds.drop (i + 1)) (wipeE e4 vs) acc').bind fun acc e2 => .ok acc (back e1 e2 vs)) Q,
          ⟨ds1.length, by simp, Nat.zero_le _, _, Z6, acc, vacc, Same.refl _, R2.unbase Rw1, k6.1, k6.2.trans hz2, y6, dpa_mono ((s3.trans s5).trans s6) da2, Nat.le_refl _, h6⟩, ?_⟩
        rintro j k H ⟨rfl, hj, e7, Z7, acc7, vacc7, s7, R7, hD7, hz7, hn7, da7, hl7, h7⟩
        have R7' : Rl X.K B e7 (L2.wipe σ4 vs1) Z7 H := R7
        by_cases hlj : j < ds1.length
        · refine .inr ⟨w6.goes j H hlj (s7.trans R7'.sub), fun H' => (j + 1 ≤ ds1.length ∧ ∃ e' Z' acc' vacc', Same Z6 Z' ∧ Rl X.K B (wipeE e' []) (L2.wipe σ4 vs1) Z' H' ∧ H' Dd = some (.lst vacc') ∧ Z' Dd = none ∧ ¬ Owns e' (L2.wipe σ4 vs1) Dd ∧ DqAll X.K Z' vacc' acc' ∧ acc'.length ≤ acc.length + (j + 1) ∧
            PgF X.K X.mg W B σ Z' (((lcGo t1 c1 x vs1 (ds1.drop (j + 1)) e' acc').bind fun acc' e4 => lc2Go t c pi1 t1 c1 x vs vs1 (ds.drop (i + 1)) (wipeE e4 vs) acc').bind fun acc e2 => .ok acc (back e1 e2 vs)) Q), fun H' h => ⟨ds1.length - (j + 1), by omega, rfl, h⟩, fun v H' hy => ?_⟩
          have Rb := R7'.rebase
          obtain ⟨Z8, d8, s8, R8, hd8, D8⟩ := w6.ylds j H v H' _ e7 _ Z7 hlj s7 Rb hy
          rw [drop_at hlj hd8] at h7
          unfold lcGo at h7
          cases ht : t1 d8 e7 with
          | none =>
            simp only [ht] at h7
            exact h7.elim
          | some e8 =>
            simp only [ht] at h7
            refine ⟨_, e7, Z8, d8, e8, R8, D8, ht, fun σ9 R9 l9 f9 => ?_⟩
            have we9 := wipe_eq his1 l9 f9
            refine ⟨we9, ?_⟩
            have h7' := PgF.up s8 h7
            rw [R.bind_assoc, R.bind_assoc] at h7'
            have home1 : ∀ {e6 : En} {Z6 H6 : Hp}, Rl X.K (B.at e7 (L2.wipe σ4 vs1) Z7 H) e6 σ9 Z6 H6 → Rl X.K B (wipeE e6 vs1) (L2.wipe σ4 vs1) Z6 H6 ∧ H6 Dd = some (.lst vacc7) ∧ Z6 Dd = none ∧ ¬ Owns (wipeE e6 vs1) (L2.wipe σ4 vs1) Dd := fun {e6 Z6 H6} R6 => by
              have R7 := R6.wipe vs1
              rw [we9] at R7
              have k := Rl.kept R6 hD7 hn7
              exact ⟨R7'.unbase R7, k.1, k.2.trans hz7, Rl.young R7 hD7 hn7⟩
            refine rn_bindX R9 h7' fun b ZA eA b' HA sA RA hbb hA => ?_
            subst hbb
            cases b with
            | false =>
              obtain ⟨g1, g2, g3, g4⟩ := home1 RA
              exact ⟨hlj, _, ZA, acc7, vacc7, (s7.trans s8).trans sA, g1, g2, g3, g4, dpa_mono (s8.trans sA) da7, by omega, by rw [R.bind_assoc]; exact hA⟩
            | true =>
              simp only [if_true] at hA ⊢
              rw [R.bind_assoc] at hA
              refine rn_bindX RA hA fun y ZC eC dy HC sC RC DC hC => ?_
              obtain ⟨g1, g2, g3, g4⟩ := home1 RC
              have sz := dpa_len da7
              refine ⟨vacc7, g2, by omega, hlj, _, ZC, acc7 ++ [dy], vacc7 ++ [y], ((s7.trans s8).trans sA).trans sC, g1.wr g3 hb g4, upd_same, g3, g4, dpa_app (dpa_mono ((s8.trans sA).trans sC) da7) (.cons DC .nil), by simp; omega, ?_⟩
              rw [R.bind_assoc]
              exact hC
        · have ej : j = ds1.length := by omega
          subst ej
          refine .inl ⟨w6.stops H (s7.trans R7'.sub), ?_⟩
          rw [List.drop_length] at h7
          have ww : L2.wipe (L2.wipe σ4 vs1) vs = L2.wipe σ vs := wipe_wipe hvs we
          have R9 := R7'.wipe vs
          rw [ww] at R9
          have n9 : ¬ Owns (wipeE e7 vs) (L2.wipe σ vs) Dd := by
            have Rz := (R7'.rebase).wipe vs
            rw [ww] at Rz
            exact Rl.young Rz hD7 hn7
          exact ⟨hlt, _, Z7, acc7, vacc7, (((s2.trans s3).trans s5).trans s6).trans s7, R9, hD7, hz7, n9, da7, h7⟩
  · have ei : i = ds.length := by omega
    subst ei
    refine .inl ⟨w.stops H (s2.trans R2.sub), ?_⟩
    rw [List.drop_length] at h2
    have Rk := Rl.back R1 R2 s2
    have nb : ¬ Owns (back e1 e2 vs) σ Dd := fun ⟨j, t', o', q1, q2⟩ => by
      rcases back_get q1 with ⟨hj, q⟩ | ⟨d, q, z⟩ | z
      · exact hn2 ⟨j, t', o', q, (wipe_get hj).trans q2⟩
      · cases z
      · cases z
    exact h2 Dd vacc Z2 H (Same.refl _) Rk hDd hz2 hb nb da2
theorem sn_lc2 {elt tg iter tg1 iter1 : Expr} {ifs ifs1 : List Expr} {scope : Scope} {own : List (Str × Nat)} {vs1 : List Nat} {pos : Pos} {pi pi1 : XI} {t t1 : XG} {is is1 : List Nat} {c c1 : XT} {x : XE} (hc : X.calm = true) (hN : X.N.Nodup) (hi : SI X W tg iter pi) (ok : BlkOk X.N X.env.scope scope own)
    (hv : ∀ i ∈ vs1, i ∈ own.map (·.2)) (his : ∀ i ∈ is, i ∈ own.map (·.2)) (his1 : ∀ i ∈ is1, i ∈ vs1)
    (hg : ∀ (s : Shared) (H : Hp) (C : Addr) (cl : List (Str × Addr)) (fp : List Addr), SG (X.blk s H scope (compEnvC scope cl C X.env) fp) tg is t) (ht : ∀ (s : Shared) (H : Hp) (C : Addr) (cl : List (Str × Addr)) (fp : List Addr), STs (X.blk s H scope (compEnvC scope cl C X.env) fp) ifs c)
    (hi1 : ∀ (s : Shared) (H : Hp) (C : Addr) (cl : List (Str × Addr)) (fp : List Addr), SI (X.blk s H scope (compEnvC scope cl C X.env) fp) WF tg1 iter1 pi1)
    (hg1 : ∀ (s : Shared) (H : Hp) (C : Addr) (cl : List (Str × Addr)) (fp : List Addr), SG (X.blk s H scope (compEnvC scope cl C X.env) fp) tg1 is1 t1) (ht1 : ∀ (s : Shared) (H : Hp) (C : Addr) (cl : List (Str × Addr)) (fp : List Addr), STs (X.blk s H scope (compEnvC scope cl C X.env) fp) ifs1 c1)
    (he : ∀ (s : Shared) (H : Hp) (C : Addr) (cl : List (Str × Addr)) (fp : List Addr), SE (X.blk s H scope (compEnvC scope cl C X.env) fp) WF elt x) (hs : ∀ x, foldedSetIterable iter X.env x = pure x := by intro _; rfl) (hs1 : ∀ env x, foldedSetIterable iter1 env x = pure x := by intro _ _; rfl) :
    SN X W (.ListComp elt [⟨tg, iter, ifs, 0⟩, ⟨tg1, iter1, ifs1, 0⟩] scope pos) (nLc2 pi t c pi1 t1 c1 x (own.map (·.2)) vs1) :=
  PE.imp (pe_lc2 hc hN hi ok hv hg ht hi1 hg1 ht1 he hs hs1) fun _ _ _ => lc2_imp his his1 hv
theorem ss_setLc2 {i : Nat} {y : Str} {py : Pos} {elt tg iter tg1 iter1 : Expr} {ifs ifs1 : List Expr} {scope : Scope} {own : List (Str × Nat)} {vs1 : List Nat} {pos spos : Pos} {pi pi1 : XI} {t t1 : XG} {is is1 : List Nat} {c c1 : XT} {x : XE} (hc : X.calm = true) (hN : X.N.Nodup) (hy : X.N[i]? = some y) (hyl : X.env.scope.names.lookup y = some .local)
    (hsw : swapsWith (.ListComp elt [⟨tg, iter, ifs, 0⟩, ⟨tg1, iter1, ifs1, 0⟩] scope pos) (some (.Name y py)) spos.line X.env = pure true) (hi : SI X W tg iter pi) (ok : BlkOk X.N X.env.scope scope own)
    (hv : ∀ i ∈ vs1, i ∈ own.map (·.2)) (his : ∀ i ∈ is, i ∈ own.map (·.2)) (his1 : ∀ i ∈ is1, i ∈ vs1)
    (hg : ∀ (s : Shared) (H : Hp) (C : Addr) (cl : List (Str × Addr)) (fp : List Addr), SG (X.blk s H scope (compEnvC scope cl C X.env) fp) tg is t) (ht : ∀ (s : Shared) (H : Hp) (C : Addr) (cl : List (Str × Addr)) (fp : List Addr), STs (X.blk s H scope (compEnvC scope cl C X.env) fp) ifs c)
    (hi1 : ∀ (s : Shared) (H : Hp) (C : Addr) (cl : List (Str × Addr)) (fp : List Addr), SI (X.blk s H scope (compEnvC scope cl C X.env) fp) WF tg1 iter1 pi1)
    (hg1 : ∀ (s : Shared) (H : Hp) (C : Addr) (cl : List (Str × Addr)) (fp : List Addr), SG (X.blk s H scope (compEnvC scope cl C X.env) fp) tg1 is1 t1) (ht1 : ∀ (s : Shared) (H : Hp) (C : Addr) (cl : List (Str × Addr)) (fp : List Addr), STs (X.blk s H scope (compEnvC scope cl C X.env) fp) ifs1 c1)
    (he : ∀ (s : Shared) (H : Hp) (C : Addr) (cl : List (Str × Addr)) (fp : List Addr), SE (X.blk s H scope (compEnvC scope cl C X.env) fp) WF elt x) (hs : ∀ x, foldedSetIterable iter X.env x = pure x := by intro _; rfl) (hs1 : ∀ env x, foldedSetIterable iter1 env x = pure x := by intro _ _; rfl) :
    SS X W (.Assign [.Name y py] (.ListComp elt [⟨tg, iter, ifs, 0⟩, ⟨tg1, iter1, ifs1, 0⟩] scope pos) spos) (sSet i (eNew (nLc2 pi t c pi1 t1 c1 x (own.map (·.2)) vs1))) :=
  PS.imp (ps_setLc2 hc hN hy hyl hsw hi ok hv hg ht hi1 hg1 ht1 he hs hs1) (rs_set fun _ _ _ h => lc2_imp his his1 hv (rn_val h))

/-! ### defs -/
inductive RF where
  | ok (d : D) (outs : List Ob)
  | new (ds : List D) (outs : List Ob)
  | ex (x : Xn) (outs : List Ob)
  | bad
def ownK (k : Nat) : En → Option Ob
  | [] => none
  | .own (some j) o :: r => if j = k then some o else ownK k r
  | _ :: r => ownK k r
def outsOf (n : Nat) (e : En) : Option (List Ob) := (List.range n).mapM fun k => ownK k e
/-- a body as a function of its arguments -/
def runF (n nio : Nat) (b : XS) (args : List Sl) : RF := match b (args ++ List.replicate (n - args.length) .un) with
  | .ok (.rt d) e => match outsOf nio e with
    | some os => .ok d os
    | none => .bad
  | .ok .nx e => match outsOf nio e with
    | some os => .ok .none os
    | none => .bad
  | .ok (.rn ds) e => match outsOf nio e with
    | some os => .new ds os
    | none => .bad
  | .ex x e => match outsOf nio e with
    | some os => .ex x os
    | none => .bad
  | _ => .bad
def ArgOk (K : Frag) (io : List Addr) (Z H : Hp) : V → Sl → Prop
  | v, .dat d => Dq K Z v d
  | v, .raw w => v = w
  | v, .scr ds => ∃ a vs, v = .ref a ∧ SqL K Z a vs ∧ DqAll K Z vs ds
  | v, .own t o => ∃ k p u, t = some k ∧ io[k]? = some p ∧ v = .ref p ∧ H p = some u ∧ Z p = none ∧ ObOk K Z o u
  | _, .un => False
/-- what holds behind a def: Z' the frozen part -/
structure After (K : Frag) (io : List Addr) (Z H : Hp) (outs : List Ob) (Z' H' : Hp) : Prop where
  z : Same Z Z'
  s : Same Z' H'
  h : ∀ a o, H a = some o → a ∉ io → H' a = some o
  f : ∀ a o, H a = some o → Z' a = Z a
  o : ∀ (k : Nat) (p : Addr), io[k]? = some p → ∃ o u, outs[k]? = some o ∧ H' p = some u ∧ ObOk K Z' o u
def spF (K : Frag) (mg : Str → Option Value) (n nio : Nat) (F : List Sl → RF) : Sp := fun vs H Q E => vs.length = n ∧ ∃ (Z : Hp) (args : List Sl) (io : List Addr), io.length = nio ∧ Same Z H ∧ Paired (ArgOk K io Z H) vs args ∧
  (∀ (i j : Nat) (t u : Option Nat) (a b : Ob), i ≠ j → args[i]? = some (.own t a) → args[j]? = some (.own u b) → vs[i]? ≠ vs[j]?) ∧ (∀ p ∈ io, (∃ u, H p = some u) ∧ Z p = none) ∧
  match F args with
  | .ok d outs => ∀ v Z' H', After K io Z H outs Z' H' → Dq K Z' v d → Q v H'
  | .new ds outs => ∀ p vs Z' H', After K io Z H outs Z' H' → H p = none → H' p = some (.lst vs) → Z' p = none → DqAll K Z' vs ds → Q (.ref p) H'
  | .ex x outs => ∀ c dd Z' H', After K io Z H outs Z' H' → XnOk K mg Z' H' x c dd → E c dd H'
  | .bad => False
theorem ownK_get {k : Nat} {o : Ob} : ∀ {e : En}, ownK k e = some o → ∃ i : Nat, e[i]? = some (.own (some k) o)
  | [], h => nomatch h
  | .own (some j) o' :: r, h => by
    unfold ownK at h
    split at h
    · rename_i hj
      subst hj
      cases h
      exact ⟨0, rfl⟩
    · obtain ⟨i, q⟩ := ownK_get h
      exact ⟨i + 1, by simpa using q⟩
  | .own none _ :: r, h => by
    obtain ⟨i, q⟩ := ownK_get (e := r) h
    exact ⟨i + 1, by simpa using q⟩
  | .un :: r, h => by
    obtain ⟨i, q⟩ := ownK_get (e := r) h
    exact ⟨i + 1, by simpa using q⟩
  | .dat _ :: r, h => by
    obtain ⟨i, q⟩ := ownK_get (e := r) h
    exact ⟨i + 1, by simpa using q⟩
  | .raw _ :: r, h => by
    obtain ⟨i, q⟩ := ownK_get (e := r) h
    exact ⟨i + 1, by simpa using q⟩
  | .scr _ :: r, h => by
    obtain ⟨i, q⟩ := ownK_get (e := r) h
    exact ⟨i + 1, by simpa using q⟩
theorem mapM_get {α β : Type} {f : α → Option β} : ∀ {xs : List α} {ys : List β} {i : Nat} {x : α}, xs.mapM f = some ys → xs[i]? = some x → ∃ y, ys[i]? = some y ∧ f x = some y
  | [], _, _, _, _, h => by simp at h
  | x :: xs, ys, i, a, h, hi => by
    rw [List.mapM_cons] at h
    cases hx : f x with
    | none => rw [hx] at h; cases h
    | some y =>
      rw [hx] at h
      cases hr : xs.mapM f with
      | none => simp [hr] at h
      | some r =>
        simp only [hr, Option.bind_eq_bind, Option.bind_some, Option.pure_def, Option.some.injEq] at h
        subst h
        cases i with
        | zero =>
          simp at hi
          subst hi
          exact ⟨y, rfl, hx⟩
        | succ i =>
          obtain ⟨z, h1, h2⟩ := mapM_get hr (by simpa using hi)
          exact ⟨z, by simpa using h1, h2⟩
theorem outs_own {K : Frag} {io : List Addr} {Z H : Hp} {e : En} {σ : L2.St} {Z' H' : Hp} {outs : List Ob} (R : Rl K ⟨io, (· ∈ io), H, Z⟩ e σ Z' H') (h : outsOf io.length e = some outs) {p : Addr} (hp : p ∈ io) : Owns e σ p := by
  obtain ⟨k, hk, rfl⟩ := List.getElem_of_mem hp
  obtain ⟨o, h1, h2⟩ := mapM_get h (show (List.range io.length)[k]? = some k by rw [List.getElem?_range hk])
  obtain ⟨i, hi⟩ := ownK_get h2
  obtain ⟨q, u, e1, e2, e3, e4, _, e6⟩ := R.own hi
  have : io[k]? = some q := e6 k rfl
  rw [List.getElem?_eq_getElem hk] at this
  cases this
  exact ⟨i, _, _, hi, e1⟩
theorem after_of {K : Frag} {io : List Addr} {Z H : Hp} {e : En} {σ : L2.St} {Z' H' : Hp} {outs : List Ob} (hio : ∀ p ∈ io, (∃ u, H p = some u) ∧ Z p = none) (R : Rl K ⟨io, (· ∈ io), H, Z⟩ e σ Z' H') (h : outsOf io.length e = some outs) : After K io Z H outs Z' H' := by
  have get : ∀ (k : Nat) (p : Addr), io[k]? = some p → ∃ o u, outs[k]? = some o ∧ H' p = some u ∧ ObOk K Z' o u ∧ Z' p = none := fun k p hp => by
    have hk : k < io.length := (List.getElem?_eq_some_iff.mp hp).1
    obtain ⟨o, h1, h2⟩ := mapM_get h (show (List.range io.length)[k]? = some k by rw [List.getElem?_range hk])
    obtain ⟨i, hi⟩ := ownK_get h2
    obtain ⟨q, u, e1, e2, e3, e4, _, e6⟩ := R.own hi
    have : io[k]? = some q := e6 k rfl
    rw [hp] at this
    cases this
    exact ⟨o, u, h1, e2, e4, e3⟩
  refine ⟨R.zup, R.sub, fun a o ha hn => R.keep a o ha hn, fun a o ha => ?_, fun k p hp => ?_⟩
  · by_cases hn : a ∈ io
    · obtain ⟨k, hk, rfl⟩ := List.getElem_of_mem hn
      obtain ⟨_, _, _, _, _, z⟩ := get k _ (List.getElem?_eq_getElem hk)
      rw [z, (hio _ hn).2]
    · exact R.zfr a o ha hn
  · obtain ⟨o, u, h1, h2, h3, _⟩ := get k p hp
    exact ⟨o, u, h1, h2, h3⟩
theorem paired_get {α β : Type} {F : α → β → Prop} : ∀ {xs : List α} {ys : List β} {i : Nat} {y : β}, Paired F xs ys → ys[i]? = some y → ∃ x, xs[i]? = some x ∧ F x y
  | _, _, 0, _, .cons h _, e => ⟨_, rfl, by cases e; exact h⟩
  | _, _, i + 1, y, .cons _ t, e => by
    obtain ⟨x, h1, h2⟩ := paired_get (i := i) t (by simpa using e)
    exact ⟨x, by simpa using h1, h2⟩
theorem paired_get' {α β : Type} {F : α → β → Prop} : ∀ {xs : List α} {ys : List β} {i : Nat} {y : α}, Paired F xs ys → xs[i]? = some y → ∃ x, ys[i]? = some x ∧ F y x
  | _, _, 0, _, .cons h _, e => ⟨_, rfl, by cases e; exact h⟩
  | _, _, i + 1, y, .cons _ t, e => by
    obtain ⟨x, h1, h2⟩ := paired_get' (i := i) t (by simpa using e)
    exact ⟨x, by simpa using h1, h2⟩
/-- at a def's entry -/
theorem rl_start {K : Frag} {io : List Addr} {Z H : Hp} {vs : List V} {args : List Sl} {N : List Str} (hs : Same Z H) (h : Paired (ArgOk K io Z H) vs args)
    (hsep : ∀ (i j : Nat) (t u : Option Nat) (a b : Ob), i ≠ j → args[i]? = some (.own t a) → args[j]? = some (.own u b) → vs[i]? ≠ vs[j]?) :
    Rl K ⟨io, (· ∈ io), H, Z⟩ (args ++ List.replicate (N.length - args.length) .un) (L2.start N vs) Z H := by
  have hl := h.length
  have at1 : ∀ (i : Nat) (s : Sl), (args ++ List.replicate (N.length - args.length) .un)[i]? = some s → (args[i]? = some s ∧ i < args.length) ∨ (args.length ≤ i ∧ s = .un) := fun i s hi => by
    by_cases hlt : i < args.length
    · rw [List.getElem?_append_left hlt] at hi
      exact .inl ⟨hi, hlt⟩
    · rw [List.getElem?_append_right (by omega)] at hi
      exact .inr ⟨by omega, (List.mem_replicate.mp (List.mem_of_getElem? hi)).2⟩
  have at2 : ∀ i : Nat, i < args.length → (L2.start N vs)[i]? = vs[i]?.map some := fun i hi => by
    unfold L2.start
    rw [List.getElem?_append_left (by rw [List.length_map]; omega), List.getElem?_map]
  refine ⟨by unfold L2.start; simp [hl], fun i s x h1 h2 => ?_, fun i j t u a b hij h1 h2 => ?_, hs, Same.refl _, fun a o ha _ => ha, fun _ _ _ _ => rfl⟩
  · rcases at1 i s h1 with ⟨q, hlt⟩ | ⟨_, rfl⟩
    · obtain ⟨v, e1, e2⟩ := paired_get h q
      rw [at2 i hlt, e1] at h2
      cases h2
      cases s with
      | un => exact e2.elim
      | dat d => exact ⟨v, rfl, e2⟩
      | raw w => exact congrArg some e2
      | scr ds => obtain ⟨a, ws, z1, z2⟩ := e2; exact ⟨a, ws, congrArg some z1, z2⟩
      | own t o =>
        obtain ⟨k, p, u, rfl, z2, rfl, z4, z5, z6⟩ := e2
        exact ⟨p, u, rfl, z4, z5, z6, .inr (List.mem_of_getElem? z2), fun k' hk' => by cases hk'; exact z2⟩
    · trivial
  · rcases at1 i _ h1 with ⟨q1, l1⟩ | ⟨_, z⟩
    · rcases at1 j _ h2 with ⟨q2, l2⟩ | ⟨_, z⟩
      · rw [at2 i l1, at2 j l2]
        intro z
        have := hsep i j t u a b hij q1 q2
        apply this
        cases h3 : vs[i]? <;> cases h4 : vs[j]? <;> rw [h3, h4] at z <;> simp at z <;> first | rfl | (rw [z])
      · cases z
    · cases z
/-- .. where none leaves -/
def RF.nox : RF → RF
  | .ex _ _ => .bad
  | r => r
/-- THE RULE for a def, no exception leaving -/
theorem fn_ok {P : Program} {w : World} {K : Frag} {mg : Str → Option Value} {base : Heap} {x qual : Str} {st : Stmt} {f : Addr} {fd : FuncData} {N ps : List Str} {k nio : Nat} {b : XS} (F : Fun K x qual st f fd) (S : FnScope N ps (defScope st))
    (hb : ∀ (cdv : Value) (A : Around) (outer : List Env) (s : Shared) (H : Hp) (E : XK), Room k (A.deeper (envOfC qual (defScope st) s.heap.objs.size f cdv)) → SB (cxOf CX0 P w K mg base N qual (defScope st) f cdv A outer s H E).nox WF (defBody st) b) :
    FnOk P w K mg base CX0 (k + 1) f fd ps (spF K mg ps.length nio fun a => (runF N.length nio b a).nox) := by
  refine F.ok S (fun vs H Q E h => h.1) (fun cdv A outer s H vs Q E hr h => ?_)
  obtain ⟨hl, Z, args, io, hio, hs, hp, hsep, hz, h⟩ := h
  refine ⟨_, hb cdv A outer s H E hr, _, _, Z, rl_start hs hp hsep, ?_⟩
  show PgS K mg WF _ Z (b (args ++ List.replicate (N.length - args.length) .un)) _
  unfold runF at h
  subst hio
  dsimp only at h
  cases hb : b (args ++ List.replicate (N.length - args.length) .un) with
  | bad => rw [hb] at h; exact h
  | ex x e =>
    rw [hb] at h
    simp only at h
    cases ho : outsOf io.length e with
    | none => rw [ho] at h; exact h.elim
    | some os => rw [ho] at h; exact h.elim
  | ok fl e =>
    rw [hb] at h
    cases fl with
    | bk => exact h.elim
    | ct => exact h.elim
    | nx =>
      simp only at h
      cases ho : outsOf io.length e with
      | none => rw [ho] at h; exact h.elim
      | some os =>
        rw [ho] at h
        exact fun σ' Z' H' s1 R1 => h _ Z' H' (after_of hz R1 ho) .non
    | rn ds =>
      simp only at h
      cases ho : outsOf io.length e with
      | none => rw [ho] at h; exact h.elim
      | some os =>
        rw [ho] at h
        exact fun p vs σ' Z' H' s1 R1 g1 g2 g3 g4 g5 => h p vs Z' H' (after_of hz R1 ho) (g3.resolve_right fun z => g4 (outs_own R1 ho z)) g1 g2 g5
    | rt d =>
      simp only at h
      cases ho : outsOf io.length e with
      | none => rw [ho] at h; exact h.elim
      | some os =>
        rw [ho] at h
        exact fun v σ' Z' H' s1 R1 dd => h v Z' H' (after_of hz R1 ho) dd

/-! ### calls -/
inductive Ar where
  | d (d : D)
  | io (i : Nat)
  | raw (v : V)
  | scr (ds : List D)
def ArOk (K : Frag) (σ : L2.St) (Z : Hp) : V → Ar → Prop
  | v, .d d => Dq K Z v d
  | v, .io i => σ[i]? = some (some v)
  | v, .raw w => v = w
  | v, .scr ds => ∃ a vs, v = .ref a ∧ SqL K Z a vs ∧ DqAll K Z vs ds
abbrev vAr (K : Frag) (σ : L2.St) : Hp → List V → List Ar → Prop := fun Z vs as => Paired (ArOk K σ Z) vs as
abbrev XR := En → R (List Ar)
abbrev RR (K : Frag) (mg : Str → Option Value) (W : WX) (p : XR) : TA := fun σ => Rg K mg W (vAr K σ) p σ
abbrev SR (X : Cx) (W : WX) (es : List Expr) (p : XR) : Prop := PA X es (RR X.K X.mg W p)
def rNil : XR := fun e => .ok [] e
def rCons (p : XE) (q : XR) : XR := fun e => (p e).bind fun d e1 => (q e1).bind fun ds e2 => .ok (.d d :: ds) e2
def rScr (i : Nat) (q : XR) : XR := fun e => match e[i]? with
  | some (.scr xs) => (q e).bind fun ds e2 => .ok (.scr xs :: ds) e2
  | _ => .bad
def rIo (i : Nat) (q : XR) : XR := fun e => match e[i]? with
  | some (.own _ _) => (q e).bind fun ds e2 => .ok (.io i :: ds) e2
  | _ => .bad
theorem sr_nil : SR X W [] rNil := PA.imp pa_nil fun σ H Q ⟨B, e, Z, R0, hq⟩ => hq [] Z H (Same.refl _) R0 .nil
theorem ArOk.up {K : Frag} {σ : L2.St} {Z Z' : Hp} (s : Same Z Z') : ∀ {v : V} {a : Ar}, ArOk K σ Z v a → ArOk K σ Z' v a
  | _, .d _, h => dp_mono s h
  | _, .io _, h => h
  | _, .raw _, h => h
  | _, .scr _, ⟨a, vs, h1, h2, h3⟩ => ⟨a, vs, h1, Same.seq s h2, dpa_mono s h3⟩
theorem sr_cons {x : Expr} {xs : List Expr} {p : XE} {q : XR} (ha : SE X W x p) (hr : SR X W xs q) (hs : starEach (x :: xs) X.env = (false, eval x X.env) :: starEach xs X.env := by rfl) : SR X W (x :: xs) (rCons p q) := by
  refine PA.imp (pa_cons ha hr hs) fun σ H Q ⟨B, e, Z, R0, hq⟩ => ?_
  refine rg_bind R0 hq fun v1 Z1 e1 d1 H1 s1 R1 D1 h1 => ?_
  refine rg_bind R1 h1 fun v2 Z2 e2 d2 H2 s2 R2 D2 h2 => ?_
  exact h2 _ Z2 H2 (Same.refl _) R2 (.cons (dp_mono s2 D1) D2)
theorem sr_io {i : Nat} {x : Str} {p : Pos} {xs : List Expr} {q : XR} (ha : PE X (.Name x p) (tVar i)) (hr : SR X W xs q) (hs : starEach (.Name x p :: xs) X.env = (false, eval (.Name x p) X.env) :: starEach xs X.env := by rfl) : SR X W (.Name x p :: xs) (rIo i q) := by
  refine PA.imp (pa_cons ha hr hs) fun σ H Q ⟨B, e, Z, R0, hq⟩ => ?_
  unfold rIo at hq
  split at hq
  · rename_i t o he
    obtain ⟨a, u, h1, _⟩ := R0.own he
    refine ⟨_, h1, ?_⟩
    refine rg_bind R0 hq fun v2 Z2 e2 d2 H2 s2 R2 D2 h2 => ?_
    exact h2 _ Z2 H2 (Same.refl _) R2 (.cons h1 D2)
  · exact hq.elim
theorem sr_scr {i : Nat} {x : Str} {p : Pos} {xs : List Expr} {q : XR} (ha : PE X (.Name x p) (tVar i)) (hr : SR X W xs q) (hs : starEach (.Name x p :: xs) X.env = (false, eval (.Name x p) X.env) :: starEach xs X.env := by rfl) : SR X W (.Name x p :: xs) (rScr i q) := by
  refine PA.imp (pa_cons ha hr hs) fun σ H Q ⟨B, e, Z, R0, hq⟩ => ?_
  unfold rScr at hq
  split at hq
  · rename_i ds he
    obtain ⟨a, vs, h1, h2, h3⟩ := R0.scr he
    refine ⟨_, h1, ?_⟩
    refine rg_bind R0 hq fun v2 Z2 e2 d2 H2 s2 R2 D2 h4 => ?_
    exact h4 _ Z2 H2 (Same.refl _) R2 (.cons ⟨a, vs, rfl, Same.seq s2 h2, dpa_mono s2 h3⟩ D2)
  · exact hq.elim
/-- the arguments as a def takes them: what is written through comes as it is now -/
def resolve (e : En) : List Ar → Nat → Option (List Sl)
  | [], _ => some []
  | .d d :: r, k => (resolve e r k).map (.dat d :: ·)
  | .raw v :: r, k => (resolve e r k).map (.raw v :: ·)
  | .scr v :: r, k => (resolve e r k).map (.scr v :: ·)
  | .io i :: r, k => match e[i]? with
    | some (.own _ o) => (resolve e r (k + 1)).map (.own (some k) o :: ·)
    | _ => none
def ios : List Ar → List Nat
  | [] => []
  | .io i :: r => i :: ios r
  | _ :: r => ios r
def putO (e : En) (i : Nat) (o : Ob) : Option En := match e[i]? with
  | some (.own t _) => some (e.set i (.own t o))
  | _ => none
/-- what stands behind a call: no thing or one is written through -/
def behind (e : En) (as : List Ar) (r : RF) : R D := match ios as, r with
  | [], .ok d _ => .ok d e
  | [], .new ds _ => .ok (.list ds) e
  | [], .ex x _ => .ex x e
  | [i], .ok d [o] => match putO e i o with
    | some e' => .ok d e'
    | none => .bad
  | [i], .new ds [o] => match putO e i o with
    | some e' => .ok (.list ds) e'
    | none => .bad
  | [i], .ex x [o] => match putO e i o with
    | some e' => .ex x e'
    | none => .bad
  | _, _ => .bad
def behindN (e : En) (as : List Ar) (r : RF) : R (List D) := match ios as, r with
  | [], .new ds _ => .ok ds e
  | [], .ex x _ => .ex x e
  | [i], .new ds [o] => match putO e i o with
    | some e' => .ok ds e'
    | none => .bad
  | [i], .ex x [o] => match putO e i o with
    | some e' => .ex x e'
    | none => .bad
  | _, _ => .bad
def nFn (n nio : Nat) (F : List Sl → RF) (q : XR) : XI := fun e => (q e).bind fun as e1 => if as.length = n ∧ (ios as).length = nio then match resolve e1 as 0 with
  | some args => behindN e1 as (F args)
  | none => .bad
  else .bad
def eFn (n nio : Nat) (F : List Sl → RF) (q : XR) : XE := fun e => (q e).bind fun as e1 => if as.length = n ∧ (ios as).length = nio then match resolve e1 as 0 with
  | some args => behind e1 as (F args)
  | none => .bad
  else .bad
theorem rl_after0 {K : Frag} {B : Bs} {e : En} {σ : L2.St} {Z H Z' H' : Hp} {outs : List Ob} (R : Rl K B e σ Z H) (a : After K [] Z H outs Z' H') : Rl K B e σ Z' H' :=
  R.nw ⟨a.z, fun x o h => a.h x o h (by simp), a.s, a.f⟩
theorem rl_after1 {K : Frag} {B : Bs} {e : En} {σ : L2.St} {Z H Z' H' : Hp} {i : Nat} {t : Option Nat} {o o' : Ob} {p : Addr} (R : Rl K B e σ Z H) (h : e[i]? = some (.own t o)) (h1 : σ[i]? = some (some (.ref p))) (a : After K [p] Z H [o'] Z' H') : Rl K B (e.set i (.own t o')) σ Z' H' := by
  obtain ⟨q, w, h1', h2, h3, h4, h5, h6⟩ := R.own h
  rw [h1] at h1'
  cases h1'
  obtain ⟨o2, u, g1, g2, g3⟩ := a.o 0 p rfl
  cases g1
  refine ⟨by simp [R.len], fun j s x q1 q2 => ?_, fun j k t1 u1 a' b hjk q1 q2 => ?_, a.s, R.zup.trans a.z, fun x y hx hw => ?_, fun x y hx hw => ?_⟩
  · rcases get_set q1 with ⟨rfl, rfl⟩ | ⟨hj, q⟩
    · rw [h1] at q2
      cases q2
      exact ⟨p, u, rfl, g2, (a.f p w h2).trans h3, g3, h5, h6⟩
    · have z := R.ok j s x q q2
      cases s with
      | un => trivial
      | dat d => obtain ⟨v, e1, e2⟩ := z; exact ⟨v, e1, dp_mono a.z e2⟩
      | raw v => exact z
      | scr ds => obtain ⟨b, ws, z1, z2, z3⟩ := z; exact ⟨b, ws, z1, Same.seq a.z z2, dpa_mono a.z z3⟩
      | own t' o'' =>
        obtain ⟨p', u', z1, z2, z3, z4, z5, z6⟩ := z
        subst z1
        have ne : p' ≠ p := fun z => hj (R.owns_one q (z ▸ q2) h h1)
        exact ⟨p', u', rfl, a.h p' u' z2 (by simpa using ne), (a.f p' u' z2).trans z3, z4.mono a.z, z5, z6⟩
  · have g : ∀ (m : Nat) (t' : Option Nat) (a : Ob), (e.set i (.own t o'))[m]? = some (.own t' a) → ∃ t2 o2, e[m]? = some (.own t2 o2) := fun m t' a hm => by
      rcases get_set hm with ⟨rfl, _⟩ | ⟨_, q⟩
      · exact ⟨_, _, h⟩
      · exact ⟨_, _, q⟩
    obtain ⟨_, _, g1⟩ := g j _ a' q1
    obtain ⟨_, _, g2⟩ := g k _ b q2
    exact R.sep j k _ _ _ _ hjk g1 g2
  · have hq := R.keep x y hx hw
    refine a.h x y hq fun z => ?_
    have z' : x = p := by simpa using z
    subst z'
    rcases h5 with h5 | h5
    · rw [h5] at hx; cases hx
    · exact hw h5
  · exact (a.f x y (R.keep x y hx hw)).trans (R.zfr x y hx hw)
theorem resolve_ok {K : Frag} {B : Bs} {e : En} {σ : L2.St} {Z H : Hp} {io : List Addr} (R : Rl K B e σ Z H) : ∀ {as : List Ar} {k : Nat} {vs : List V} {args : List Sl}, Paired (ArOk K σ Z) vs as → resolve e as k = some args →
    (∀ j i : Nat, (ios as)[j]? = some i → ∃ p, io[k + j]? = some p ∧ σ[i]? = some (some (.ref p))) → Paired (ArgOk K io Z H) vs args
  | [], k, _, args, .nil, h, _ => by cases h; exact .nil
  | .d d :: r, k, _, args, .cons a b, h, g => by
    cases hr : resolve e r k with
    | none => simp [resolve, hr] at h
    | some ar =>
      simp only [resolve, hr, Option.map_some, Option.some.injEq] at h
      subst h
      exact .cons a (resolve_ok R b hr g)
  | .raw v :: r, k, _, args, .cons a b, h, g => by
    cases hr : resolve e r k with
    | none => simp [resolve, hr] at h
    | some ar =>
      simp only [resolve, hr, Option.map_some, Option.some.injEq] at h
      subst h
      exact .cons a (resolve_ok R b hr g)
  | .scr v :: r, k, _, args, .cons a b, h, g => by
    cases hr : resolve e r k with
    | none => simp [resolve, hr] at h
    | some ar =>
      simp only [resolve, hr, Option.map_some, Option.some.injEq] at h
      subst h
      exact .cons a (resolve_ok R b hr g)
  | .io i :: r, k, _, args, .cons a b, h, g => by
    unfold resolve at h
    split at h
    · rename_i t o he
      cases hr : resolve e r (k + 1) with
      | none => simp [hr] at h
      | some ar =>
        simp only [hr, Option.map_some, Option.some.injEq] at h
        subst h
        obtain ⟨p, u, h1, h2, h3, h4, h5, h6⟩ := R.own he
        obtain ⟨p', g1, g2⟩ := g 0 i rfl
        rw [h1] at g2
        cases g2
        have av : some (some (V.ref p)) = some (some _) := h1.symm.trans a
        cases av
        exact .cons ⟨k, p, u, rfl, g1, rfl, h2, h3, h4⟩ (resolve_ok R b hr fun j m hj => by
          have := g (j + 1) m hj
          rw [show k + 1 + j = k + (j + 1) by omega]
          exact this)
    · cases h
theorem resolve_own {e : En} : ∀ {as : List Ar} {k : Nat} {args : List Sl} {i : Nat} {t : Option Nat} {o : Ob}, resolve e as k = some args → args[i]? = some (.own t o) → ∃ m : Nat, as[i]? = some (.io m)
  | [], k, args, i, t, o, h, g => by cases h; simp at g
  | .d d :: r, k, args, i, t, o, h, g => by
    cases hr : resolve e r k with
    | none => simp [resolve, hr] at h
    | some ar =>
      simp only [resolve, hr, Option.map_some, Option.some.injEq] at h
      subst h
      cases i with
      | zero => cases g
      | succ i => exact resolve_own (i := i) hr (by simpa using g)
  | .raw v :: r, k, args, i, t, o, h, g => by
    cases hr : resolve e r k with
    | none => simp [resolve, hr] at h
    | some ar =>
      simp only [resolve, hr, Option.map_some, Option.some.injEq] at h
      subst h
      cases i with
      | zero => cases g
      | succ i => exact resolve_own (i := i) hr (by simpa using g)
  | .scr v :: r, k, args, i, t, o, h, g => by
    cases hr : resolve e r k with
    | none => simp [resolve, hr] at h
    | some ar =>
      simp only [resolve, hr, Option.map_some, Option.some.injEq] at h
      subst h
      cases i with
      | zero => cases g
      | succ i => exact resolve_own (i := i) hr (by simpa using g)
  | .io m :: r, k, args, i, t, o, h, g => by
    unfold resolve at h
    split at h
    · cases hr : resolve e r (k + 1) with
      | none => simp [hr] at h
      | some ar =>
        simp only [hr, Option.map_some, Option.some.injEq] at h
        subst h
        cases i with
        | zero => exact ⟨m, rfl⟩
        | succ i => exact resolve_own (i := i) hr (by simpa using g)
    · cases h
theorem ios_none : ∀ {as : List Ar} {i m : Nat}, ios as = [] → as[i]? = some (.io m) → False
  | [], i, m, _, g => by simp at g
  | .d d :: r, 0, m, h, g => by cases g
  | .d d :: r, i + 1, m, h, g => ios_none (as := r) (i := i) h (by simpa using g)
  | .raw d :: r, 0, m, h, g => by cases g
  | .raw d :: r, i + 1, m, h, g => ios_none (as := r) (i := i) h (by simpa using g)
  | .scr d :: r, 0, m, h, g => by cases g
  | .scr d :: r, i + 1, m, h, g => ios_none (as := r) (i := i) h (by simpa using g)
  | .io _ :: r, i, m, h, g => by cases h
theorem ios_one : ∀ {as : List Ar} {i j m n q : Nat}, ios as = [q] → as[i]? = some (.io m) → as[j]? = some (.io n) → i = j
  | [], i, j, m, n, q, h, g, g' => by simp at g
  | .d d :: r, 0, _, m, n, q, h, g, g' => by cases g
  | .d d :: r, _, 0, m, n, q, h, g, g' => by cases g'
  | .d d :: r, i + 1, j + 1, m, n, q, h, g, g' => congrArg (· + 1) (ios_one (as := r) (i := i) (j := j) h (by simpa using g) (by simpa using g'))
  | .raw d :: r, 0, _, m, n, q, h, g, g' => by cases g
  | .raw d :: r, _, 0, m, n, q, h, g, g' => by cases g'
  | .raw d :: r, i + 1, j + 1, m, n, q, h, g, g' => congrArg (· + 1) (ios_one (as := r) (i := i) (j := j) h (by simpa using g) (by simpa using g'))
  | .scr d :: r, 0, _, m, n, q, h, g, g' => by cases g
  | .scr d :: r, _, 0, m, n, q, h, g, g' => by cases g'
  | .scr d :: r, i + 1, j + 1, m, n, q, h, g, g' => congrArg (· + 1) (ios_one (as := r) (i := i) (j := j) h (by simpa using g) (by simpa using g'))
  | .io a :: r, 0, 0, m, n, q, h, g, g' => rfl
  | .io a :: r, i + 1, _, m, n, q, h, g, g' => by
    have h' : ios r = [] := (List.cons.inj h).2
    exact (ios_none h' (i := i) (by simpa using g)).elim
  | .io a :: r, 0, j + 1, m, n, q, h, g, g' => by
    have h' : ios r = [] := (List.cons.inj h).2
    exact (ios_none h' (i := j) (by simpa using g')).elim
/-- the heart of a call: what the answer gives, for any end -/
theorem fn_core {n nio : Nat} {F : List Sl → RF} {B : Bs} {e : En} {σ : L2.St} {Z H : Hp} {vs : List V} {as : List Ar} {args : List Sl} {Q : VK} {E : XK} (R0 : Rl X.K B e σ Z H) (hp : Paired (ArOk X.K σ Z) vs as)
    (hn : as.length = n ∧ (ios as).length = nio) (hr : resolve e as 0 = some args) (h0 : ∀ i, ios as = [i] → ∃ t o, e[i]? = some (.own t o)) (h2 : ios as = [] ∨ ∃ i, ios as = [i])
    (k : ∀ io : List Addr, (ios as = [] ∧ io = []) ∨ (∃ i p, ios as = [i] ∧ σ[i]? = some (some (.ref p)) ∧ io = [p]) → match F args with
      | .ok d outs => ∀ v Z' H', After X.K io Z H outs Z' H' → Dq X.K Z' v d → Q v H'
      | .new ds outs => ∀ p vs Z' H', After X.K io Z H outs Z' H' → H p = none → H' p = some (.lst vs) → Z' p = none → DqAll X.K Z' vs ds → Q (.ref p) H'
      | .ex x outs => ∀ c dd Z' H', After X.K io Z H outs Z' H' → XnOk X.K X.mg Z' H' x c dd → E c dd H'
      | .bad => False) : spF X.K X.mg n nio F vs H Q E := by
  refine ⟨by rw [hp.length]; exact hn.1, Z, args, ?_⟩
  rcases h2 with hi | ⟨i, hi⟩
  · refine ⟨[], by simp [← hn.2, hi], R0.sub, resolve_ok R0 hp hr (fun j i hj => by rw [hi] at hj; simp at hj), fun i j t u a b hij h1 h2 => ?_, fun p hp => by simp at hp, k [] (.inl ⟨hi, rfl⟩)⟩
    obtain ⟨m, hm⟩ := resolve_own hr h1
    exact (ios_none hi hm).elim
  · obtain ⟨t, o, he⟩ := h0 i hi
    obtain ⟨p, u, h1, h2, h3, h4, h5, h6⟩ := R0.own he
    refine ⟨[p], by simp [← hn.2, hi], R0.sub, resolve_ok R0 hp hr (fun j m hj => ?_), fun i' j t u a b hij g1 g2 => ?_, fun q hq => ?_, k [p] (.inr ⟨i, p, hi, h1, rfl⟩)⟩
    · rw [hi] at hj
      cases j with
      | zero => cases hj; exact ⟨p, rfl, h1⟩
      | succ j => simp at hj
    · obtain ⟨m, hm⟩ := resolve_own hr g1
      obtain ⟨m', hm'⟩ := resolve_own hr g2
      exact absurd (ios_one hi hm hm') hij
    · have : q = p := by simpa using hq
      subst this
      exact ⟨⟨u, h2⟩, h3⟩
theorem putO_own {e e' : En} {i : Nat} {o : Ob} (h : putO e i o = some e') : ∃ t o', e[i]? = some (.own t o') ∧ e' = e.set i (.own t o) := by
  unfold putO at h
  split at h
  · rename_i t o' he
    cases h
    exact ⟨t, o', he, rfl⟩
  · cases h
theorem resolve_io {e : En} : ∀ {as : List Ar} {k i : Nat} {args : List Sl}, resolve e as k = some args → i ∈ ios as → ∃ t o, e[i]? = some (.own t o)
  | [], k, i, args, h, g => by simp [ios] at g
  | .d d :: r, k, i, args, h, g => by
    cases hr : resolve e r k with
    | none => simp [resolve, hr] at h
    | some ar => exact resolve_io hr g
  | .raw d :: r, k, i, args, h, g => by
    cases hr : resolve e r k with
    | none => simp [resolve, hr] at h
    | some ar => exact resolve_io hr g
  | .scr d :: r, k, i, args, h, g => by
    cases hr : resolve e r k with
    | none => simp [resolve, hr] at h
    | some ar => exact resolve_io hr g
  | .io m :: r, k, i, args, h, g => by
    unfold resolve at h
    split at h
    · rename_i t o he
      cases hr : resolve e r (k + 1) with
      | none => simp [hr] at h
      | some ar =>
        rcases List.mem_cons.mp g with rfl | g
        · exact ⟨t, o, he⟩
        · exact resolve_io hr g
    · cases h
/-- the state behind a call, where one thing or none is written through -/
theorem behind_rl {B : Bs} {e : En} {σ : L2.St} {Z H Z' H' : Hp} {as : List Ar} {io : List Addr} {outs : List Ob} (R0 : Rl X.K B e σ Z H) (hio : (ios as = [] ∧ io = []) ∨ (∃ i p, ios as = [i] ∧ σ[i]? = some (some (.ref p)) ∧ io = [p])) (a : After X.K io Z H outs Z' H') :
    (ios as = [] → Rl X.K B e σ Z' H') ∧ ∀ i o e', ios as = [i] → outs = [o] → putO e i o = some e' → Rl X.K B e' σ Z' H' := by
  rcases hio with ⟨h1, rfl⟩ | ⟨i, p, h1, h2, rfl⟩
  · exact ⟨fun _ => rl_after0 R0 a, fun i o e' z => (by rw [h1] at z; cases z)⟩
  · refine ⟨fun z => (by rw [h1] at z; cases z), fun j o e' z w hput => ?_⟩
    rw [h1] at z
    cases z
    subst w
    obtain ⟨t, o', he, rfl⟩ := putO_own hput
    exact rl_after1 R0 he h2 a
theorem fn_run {n nio : Nat} {F : List Sl → RF} {B : Bs} {e : En} {σ : L2.St} {Z H : Hp} {vs : List V} {as : List Ar} {Q : VK} {E : XK} (R0 : Rl X.K B e σ Z H) (hp : Paired (ArOk X.K σ Z) vs as)
    (hE : (∀ c dd H', W c dd σ H' → E c dd H') ∨ ∀ a x o, F a ≠ .ex x o)
    (h : Pg X.K X.mg W B σ Z (vD X.K) (if as.length = n ∧ (ios as).length = nio then match resolve e as 0 with
      | some args => behind e as (F args)
      | none => .bad
      else .bad) Q) : spF X.K X.mg n nio F vs H Q E := by
  split at h
  case isFalse => exact h.elim
  rename_i hn
  cases hr : resolve e as 0 with
  | none => rw [hr] at h; exact h.elim
  | some args =>
    rw [hr] at h
    simp only at h
    have own1 : ∀ i, ios as = [i] → ∃ t o, e[i]? = some (.own t o) := fun i hi => resolve_io hr (by rw [hi]; simp)
    have two : ios as = [] ∨ ∃ i, ios as = [i] := by
      unfold behind at h
      match hi : ios as, h with
      | [], _ => exact .inl rfl
      | [i], _ => exact .inr ⟨i, rfl⟩
      | _ :: _ :: _, h => exact h.elim
    refine fn_core R0 hp hn hr own1 two fun io hio => ?_
    cases hF : F args with
    | bad =>
      rw [hF] at h
      unfold behind at h
      rcases two with hi | ⟨i, hi⟩ <;> simp only [hi] at h <;> exact h.elim
    | ok d outs =>
      rw [hF] at h
      intro v Z' H' a dd
      have b := behind_rl R0 hio a
      unfold behind at h
      rcases two with hi | ⟨i, hi⟩
      · simp only [hi] at h
        exact h v Z' H' a.z (b.1 hi) dd
      · simp only [hi] at h
        match outs, h with
        | [], h => exact h.elim
        | _ :: _ :: _, h => exact h.elim
        | [o], h =>
          cases hput : putO e i o with
          | none => simp only [hput] at h; exact h.elim
          | some e' =>
            simp only [hput] at h
            exact h v Z' H' a.z (b.2 i o e' hi rfl hput) dd
    | new ds outs =>
      rw [hF] at h
      intro p vs' Z' H' a hp0 h1 h2 h3
      have b := behind_rl R0 hio a
      have fr : ∀ {e' : En}, Rl X.K B e' σ Z' H' → (∀ q, Owns e' σ q → Owns e σ q) → Rl X.K B e' σ (upd Z' p (.lst vs')) H' ∧ Same Z' (upd Z' p (.lst vs')) := fun R' ow => R'.fix h2 (R0.fresh hp0) h1 fun z => R0.noOwn hp0 (ow _ z)
      unfold behind at h
      rcases two with hi | ⟨i, hi⟩
      · simp only [hi] at h
        obtain ⟨R2, s2⟩ := fr (b.1 hi) fun _ z => z
        exact h _ _ H' (a.z.trans s2) R2 (.lst upd_same (dpa_mono s2 h3))
      · simp only [hi] at h
        match outs, h with
        | [], h => exact h.elim
        | _ :: _ :: _, h => exact h.elim
        | [o], h =>
          cases hput : putO e i o with
          | none => simp only [hput] at h; exact h.elim
          | some e' =>
            simp only [hput] at h
            obtain ⟨t, o', he, rfl⟩ := putO_own hput
            obtain ⟨R2, s2⟩ := fr (b.2 i o _ hi rfl hput) fun q ⟨j, t', o'', q1, q2⟩ => by
              rcases get_set q1 with ⟨rfl, _⟩ | ⟨_, q3⟩
              · exact ⟨j, _, _, he, q2⟩
              · exact ⟨j, _, _, q3, q2⟩
            exact h _ _ H' (a.z.trans s2) R2 (.lst upd_same (dpa_mono s2 h3))
    | ex x outs =>
      rw [hF] at h
      intro c dd Z' H' a xx
      have b := behind_rl R0 hio a
      refine (hE.resolve_right fun z => z _ _ _ hF) _ _ _ ?_
      unfold behind at h
      rcases two with hi | ⟨i, hi⟩
      · simp only [hi] at h
        exact h c dd Z' H' a.z (b.1 hi) xx
      · simp only [hi] at h
        match outs, h with
        | [], h => exact h.elim
        | _ :: _ :: _, h => exact h.elim
        | [o], h =>
          cases hput : putO e i o with
          | none => simp only [hput] at h; exact h.elim
          | some e' =>
            simp only [hput] at h
            exact h c dd Z' H' a.z (b.2 i o e' hi rfl hput) xx
theorem fn_runN {n nio : Nat} {F : List Sl → RF} {B : Bs} {e : En} {σ : L2.St} {Z H : Hp} {vs : List V} {as : List Ar} {Q : VK} {E : XK} (R0 : Rl X.K B e σ Z H) (hp : Paired (ArOk X.K σ Z) vs as)
    (hE : (∀ c dd H', W c dd σ H' → E c dd H') ∨ ∀ a x o, F a ≠ .ex x o)
    (h : PgF X.K X.mg W B σ Z (if as.length = n ∧ (ios as).length = nio then match resolve e as 0 with
      | some args => behindN e as (F args)
      | none => .bad
      else .bad) Q) : spF X.K X.mg n nio F vs H Q E := by
  split at h
  case isFalse => exact h.elim
  rename_i hn
  cases hr : resolve e as 0 with
  | none => rw [hr] at h; exact h.elim
  | some args =>
    rw [hr] at h
    simp only at h
    have own1 : ∀ i, ios as = [i] → ∃ t o, e[i]? = some (.own t o) := fun i hi => resolve_io hr (by rw [hi]; simp)
    have two : ios as = [] ∨ ∃ i, ios as = [i] := by
      unfold behindN at h
      match hi : ios as, h with
      | [], _ => exact .inl rfl
      | [i], _ => exact .inr ⟨i, rfl⟩
      | _ :: _ :: _, h => exact h.elim
    refine fn_core R0 hp hn hr own1 two fun io hio => ?_
    cases hF : F args with
    | bad =>
      rw [hF] at h
      unfold behindN at h
      rcases two with hi | ⟨i, hi⟩ <;> simp only [hi] at h <;> exact h.elim
    | ok d outs =>
      rw [hF] at h
      unfold behindN at h
      rcases two with hi | ⟨i, hi⟩ <;> simp only [hi] at h <;> exact h.elim
    | new ds outs =>
      rw [hF] at h
      intro p vs' Z' H' a hp0 h1 h2 h3
      have b := behind_rl R0 hio a
      unfold behindN at h
      rcases two with hi | ⟨i, hi⟩
      · simp only [hi] at h
        exact h p vs' Z' H' a.z (b.1 hi) h1 h2 (R0.fresh hp0) (R0.noOwn hp0) h3
      · simp only [hi] at h
        match outs, h with
        | [], h => exact h.elim
        | _ :: _ :: _, h => exact h.elim
        | [o], h =>
          cases hput : putO e i o with
          | none => simp only [hput] at h; exact h.elim
          | some e' =>
            simp only [hput] at h
            obtain ⟨t, o', he, rfl⟩ := putO_own hput
            refine h p vs' Z' H' a.z (b.2 i o _ hi rfl hput) h1 h2 (R0.fresh hp0) (fun ⟨j, t', o'', q1, q2⟩ => ?_) h3
            rcases get_set q1 with ⟨rfl, _⟩ | ⟨_, q3⟩
            · exact R0.noOwn hp0 ⟨j, _, _, he, q2⟩
            · exact R0.noOwn hp0 ⟨j, _, _, q3, q2⟩
    | ex x outs =>
      rw [hF] at h
      intro c dd Z' H' a xx
      have b := behind_rl R0 hio a
      refine (hE.resolve_right fun z => z _ _ _ hF) _ _ _ ?_
      unfold behindN at h
      rcases two with hi | ⟨i, hi⟩
      · simp only [hi] at h
        exact h c dd Z' H' a.z (b.1 hi) xx
      · simp only [hi] at h
        match outs, h with
        | [], h => exact h.elim
        | _ :: _ :: _, h => exact h.elim
        | [o], h =>
          cases hput : putO e i o with
          | none => simp only [hput] at h; exact h.elim
          | some e' =>
            simp only [hput] at h
            exact h c dd Z' H' a.z (b.2 i o e' hi rfl hput) xx
theorem nox_ne {F : List Sl → RF} : ∀ a x o, (F a).nox ≠ .ex x o := fun a x o z => by cases hf : F a <;> simp [hf, RF.nox] at z
theorem sn_fn {k n nio : Nat} {f : Addr} {fd : FuncData} {ps : List Str} {x : Str} {p pos : Pos} {a : Expr} {es : List Expr} {F : List Sl → RF} {q : XR} (GF : FnOk X.prog X.w X.K X.mg X.base CX0 k f fd ps (spF X.K X.mg n nio fun a => (F a).nox)) (hr : Room k X.A) (hg : Gl X x) (hm : X.mg x = some (.ref f)) (hk : PySem.W.keepIn X.K (.ref f) = true) (hb : Binds X.K fd ps [])
    (ha : SR X W (a :: es) q) (hdb : (x == ("__debug__" : Str)) = false := by decide) (he : starEach (a :: es) X.env = (false, eval a X.env) :: starEach es X.env := by rfl) (hpl : (backTo pos (starEach es X.env)).any (·.1) = false := by rfl) :
    SN X W (.Call (.Name x p) (a :: es) [] pos) (nFn n nio (fun a => (F a).nox) q) := by
  refine PE.imp (pe_call GF hr hg hm hk hb .nil (pass0 (X := X)) ha hdb he hpl) fun σ H Q ⟨B, e, Z, R0, hq⟩ => ?_
  refine rn_bind R0 hq fun v1 Z1 e1 as H1 s1 R1 D1 h1 => ?_
  rw [List.append_nil]
  exact fn_runN R1 D1 (.inr nox_ne) h1
theorem se_fn {k n nio : Nat} {f : Addr} {fd : FuncData} {ps : List Str} {x : Str} {p pos : Pos} {a : Expr} {es : List Expr} {F : List Sl → RF} {q : XR} (GF : FnOk X.prog X.w X.K X.mg X.base CX0 k f fd ps (spF X.K X.mg n nio fun a => (F a).nox)) (hr : Room k X.A) (hg : Gl X x) (hm : X.mg x = some (.ref f)) (hk : PySem.W.keepIn X.K (.ref f) = true) (hb : Binds X.K fd ps [])
    (ha : SR X W (a :: es) q) (hdb : (x == ("__debug__" : Str)) = false := by decide) (he : starEach (a :: es) X.env = (false, eval a X.env) :: starEach es X.env := by rfl) (hpl : (backTo pos (starEach es X.env)).any (·.1) = false := by rfl) :
    SE X W (.Call (.Name x p) (a :: es) [] pos) (eFn n nio (fun a => (F a).nox) q) := by
  refine PE.imp (pe_call GF hr hg hm hk hb .nil (pass0 (X := X)) ha hdb he hpl) fun σ H Q ⟨B, e, Z, R0, hq⟩ => ?_
  refine rg_bind R0 hq fun v1 Z1 e1 as H1 s1 R1 D1 h1 => ?_
  rw [List.append_nil]
  exact fn_run R1 D1 (.inr nox_ne) h1
end
end G
set_option Elab.async false
set_option linter.all false
set_option maxRecDepth 100000
namespace G
open PySem PySem.Spec PyProof.Rows L2
section
variable {X : Cx} {W : WX} {pos : Pos}

theorem opr_or {f : Value → Value → Sem Value} {r r' : R2} (h : OpR X f r) (h' : OpR X f r') : OpR X f (fun x y H Q => r x y H Q ∨ r' x y H Q) := by
  intro pins s σ H x y v u Q I rx ry q
  rcases q with q | q
  · exact h pins s σ H x y v u Q I rx ry q
  · exact h' pins s σ H x y v u Q I rx ry q
theorem ok2_or {K : Frag} {r r' : R2} {g g' : D → D → Option D} (h : Ok2 K r g) (h' : Ok2 K r' g') : Ok2 K (fun x y H Q => r x y H Q ∨ r' x y H Q) (fun a b => (g a b).orElse fun _ => g' a b) := by
  intro Z H x y d1 d2 d Q s D1 D2 e k
  dsimp only at e
  cases hg : g d1 d2 with
  | some a =>
    rw [hg] at e
    cases e
    exact .inl (h Z H x y d1 d2 _ Q s D1 D2 hg k)
  | none =>
    rw [hg] at e
    exact .inr (h' Z H x y d1 d2 d Q s D1 D2 e k)
/-- ints under a condition -/
def dI (C : Int → Int → Prop) [∀ i j, Decidable (C i j)] (g : Int → Int → D) : D → D → Option D
  | .int i, .int j => if C i j then some (g i j) else none
  | _, _ => none
theorem dI_of {C : Int → Int → Prop} [∀ i j, Decidable (C i j)] {g : Int → Int → D} {a b d : D} (h : dI C g a b = some d) : ∃ i j, a = .int i ∧ b = .int j ∧ C i j ∧ d = g i j := by
  unfold dI at h
  split at h
  · split at h
    · cases h; exact ⟨_, _, rfl, rfl, by assumption, rfl⟩
    · cases h
  · cases h
theorem ok_I {K : Frag} {C : Int → Int → Prop} [∀ i j, Decidable (C i j)] {g : Int → Int → Int} : Ok2 K (rI C fun i j => .int (g i j)) (dI C fun i j => .int (g i j)) := by
  intro Z H x y d1 d2 d Q s D1 D2 e k
  obtain ⟨i, j, rfl, rfl, c, rfl⟩ := dI_of e
  cases dp_int D1
  cases dp_int D2
  exact ⟨i, j, rfl, rfl, c, k _ Z H (Nw.refl s) (.int _)⟩
theorem ok_I0 {K : Frag} {g : Int → Int → Int} : Ok2 K (rI0 fun i j => .int (g i j)) (dI (fun _ _ => True) fun i j => .int (g i j)) := by
  intro Z H x y d1 d2 d Q s D1 D2 e k
  obtain ⟨i, j, rfl, rfl, c, rfl⟩ := dI_of e
  cases dp_int D1
  cases dp_int D2
  exact ⟨i, j, rfl, rfl, k _ Z H (Nw.refl s) (.int _)⟩
theorem ok_B0 {K : Frag} {g : Int → Int → Bool} : Ok2 K (rI0 fun i j => .bl (g i j)) (dI (fun _ _ => True) fun i j => .bool (g i j)) := by
  intro Z H x y d1 d2 d Q s D1 D2 e k
  obtain ⟨i, j, rfl, rfl, c, rfl⟩ := dI_of e
  cases dp_int D1
  cases dp_int D2
  exact ⟨i, j, rfl, rfl, k _ Z H (Nw.refl s) (.bl _)⟩
instance : ∀ i j, Decidable (CMul i j) := fun i j => by unfold CMul; infer_instance
instance : ∀ i j, Decidable (CDiv i j) := fun i j => by unfold CDiv; infer_instance
instance : ∀ i j, Decidable (CPow i j) := fun i j => by unfold CPow; infer_instance

/-! ### + -/
def dAddS : D → D → Option D
  | .str a, .str b => if a.length + b.length ≤ sizeLine then some (.str (a ++ b)) else none
  | _, _ => none
theorem ok_addS {K : Frag} : Ok2 K (fun x y H Q => ∃ i j, x = .str i ∧ y = .str j ∧ i.length + j.length ≤ sizeLine ∧ Q (.str (i ++ j)) H) dAddS := by
  intro Z H x y d1 d2 d Q s D1 D2 e k
  unfold dAddS at e
  split at e
  · split at e
    · cases e
      cases dp_str D1
      cases dp_str D2
      exact ⟨_, _, rfl, rfl, by assumption, k _ Z H (Nw.refl s) (.str _)⟩
    · cases e
  · cases e
def dAddL : D → D → Option D
  | .list a, .list b => if a.length + b.length ≤ sizeLine then some (.list (a ++ b)) else none
  | _, _ => none
theorem ok_addL {K : Frag} : Ok2 K rCat dAddL := by
  intro Z H x y d1 d2 d Q s D1 D2 e k
  unfold dAddL at e
  split at e
  · split at e
    · cases e
      obtain ⟨a, ws, rfl, h1, h2⟩ := dp_list D1
      obtain ⟨b, us, rfl, h3, h4⟩ := dp_list D2
      refine ⟨a, b, ws, us, rfl, rfl, s _ _ h1, s _ _ h3, by rw [dpa_len h2, dpa_len h4]; assumption, fun p hp => ?_⟩
      have n := Nw.new (o := .lst (ws ++ us)) s hp
      exact k _ _ _ n (.lst upd_same (dpa_mono n.z (dpa_app h2 h4)))
    · cases e
  · cases e
def dAddT : D → D → Option D
  | .tuple a, .tuple b => if a ≠ [] ∧ a.length + b.length ≤ sizeLine then some (.tuple (a ++ b)) else none
  | _, _ => none
theorem ok_addT {K : Frag} : Ok2 K (rCatT K) dAddT := by
  intro Z H x y d1 d2 d Q s D1 D2 e k
  unfold dAddT at e
  split at e
  · split at e
    · rename_i hc
      cases e
      obtain ⟨a, ws, rfl, h1, h2⟩ := dp_tuple D1
      obtain ⟨b, us, rfl, h3, h4⟩ := dp_tuple D2
      refine ⟨a, b, ws, us, rfl, rfl, same_tup s h1, same_tup s h3, fun z => ?_, by rw [dpa_len h2, dpa_len h4]; exact hc.2, fun z => ?_, fun z p hp => ?_⟩
      · subst z
        cases h2
        exact hc.1 rfl
      · subst z
        cases h4
        refine k _ Z H (Nw.refl s) ?_
        rw [List.append_nil]
        exact .tup h1 h2
      · have n := Nw.new (o := .tup (ws ++ us)) s hp
        exact k _ _ _ n (.tup (.inl (.inl upd_same)) (dpa_mono n.z (dpa_app h2 h4)))
    · cases e
  · cases e
def dAdd : D → D → Option D := fun a b => ((((dI (fun _ _ => True) fun i j => .int (i + j)) a b).orElse fun _ => dAddS a b).orElse fun _ => dAddL a b).orElse fun _ => dAddT a b
theorem op_addA : OpR X (binaryOp .Add) (fun x y H Q => (((rI0 fun i j => .int (i + j)) x y H Q ∨ (∃ i j, x = .str i ∧ y = .str j ∧ i.length + j.length ≤ sizeLine ∧ Q (.str (i ++ j)) H)) ∨ rCat x y H Q) ∨ rCatT X.K x y H Q) :=
  opr_or (opr_or (opr_or op_add op_add_str) op_cat) op_catT
theorem se_add {a b : Expr} {p q : XE} (ha : SE X W a p) (hb : SE X W b q) : SE X W (.BinOp a .Add b pos) (eOp dAdd p q) :=
  se_op op_addA (ok2_or (ok2_or (ok2_or ok_I0 ok_addS) ok_addL) ok_addT) ha hb

/-! ### other arithmetic -/
def dSub : D → D → Option D := dI (fun _ _ => True) fun i j => .int (i - j)
def dMulI : D → D → Option D := dI CMul fun i j => .int (i * j)
def dMod : D → D → Option D := dI (fun _ j => 0 < j) fun i j => .int (i % j)
def dDiv : D → D → Option D := dI CDiv fun i j => .int (i / j)
def dPow : D → D → Option D := dI CPow fun i j => .int (i ^ j.toNat)
def dShl : D → D → Option D := dI CPow fun i j => .int (i * 2 ^ j.toNat)
def dShr : D → D → Option D := dI (fun _ j => 0 ≤ j) fun i j => .int (i / 2 ^ j.toNat)
def dAnd : D → D → Option D := dI (fun _ _ => True) fun i j => .int (Builtin.bitAnd i j)
theorem se_sub {a b : Expr} {p q : XE} (ha : SE X W a p) (hb : SE X W b q) : SE X W (.BinOp a .Sub b pos) (eOp dSub p q) := se_op op_sub ok_I0 ha hb
theorem se_mod {a b : Expr} {p q : XE} (ha : SE X W a p) (hb : SE X W b q) : SE X W (.BinOp a .Mod b pos) (eOp dMod p q) := se_op op_mod ok_I ha hb
theorem se_div {a b : Expr} {p q : XE} (ha : SE X W a p) (hb : SE X W b q) : SE X W (.BinOp a .FloorDiv b pos) (eOp dDiv p q) := se_op op_fdiv ok_I ha hb
theorem se_pow {a b : Expr} {p q : XE} (ha : SE X W a p) (hb : SE X W b q) : SE X W (.BinOp a .Pow b pos) (eOp dPow p q) := se_op op_pow ok_I ha hb
theorem se_shl {a b : Expr} {p q : XE} (ha : SE X W a p) (hb : SE X W b q) : SE X W (.BinOp a .LShift b pos) (eOp dShl p q) := se_op op_shl ok_I ha hb
theorem se_shr {a b : Expr} {p q : XE} (ha : SE X W a p) (hb : SE X W b q) : SE X W (.BinOp a .RShift b pos) (eOp dShr p q) := se_op op_shr ok_I ha hb
theorem se_bitand {a b : Expr} {p q : XE} (ha : SE X W a p) (hb : SE X W b q) : SE X W (.BinOp a .BitAnd b pos) (eOp dAnd p q) := se_op op_and ok_I0 ha hb
def dMulL : D → D → Option D
  | .list xs, .int k => if (-(2 ^ 63) ≤ k ∧ k < 2 ^ 63) ∧ xs.length * k.toNat ≤ sizeLine then some (.list (List.replicate k.toNat xs).flatten) else none
  | _, _ => none
theorem dpa_rep {K : Frag} {Z : Hp} {vs : List V} {ds : List D} (h : DqAll K Z vs ds) : ∀ n : Nat, DqAll K Z (List.replicate n vs).flatten (List.replicate n ds).flatten
  | 0 => .nil
  | n + 1 => by
    rw [List.replicate_succ, List.replicate_succ, List.flatten_cons, List.flatten_cons]
    exact dpa_app h (dpa_rep h n)
theorem ok_mulL {K : Frag} : Ok2 K rRep dMulL := by
  intro Z H x y d1 d2 d Q s D1 D2 e k
  unfold dMulL at e
  split at e
  · split at e
    · rename_i hc
      cases e
      obtain ⟨a, ws, rfl, h1, h2⟩ := dp_list D1
      cases dp_int D2
      refine ⟨a, _, ws, rfl, rfl, s _ _ h1, hc.1.1, hc.1.2, by rw [dpa_len h2]; exact hc.2, fun p hp => ?_⟩
      rename_i xs k0
      have n := Nw.new (o := .lst (List.replicate k0.toNat ws).flatten) s hp
      exact k _ _ _ n (.lst upd_same (dpa_mono n.z (dpa_rep h2 _)))
    · cases e
  · cases e
def dMul : D → D → Option D := fun a b => (dMulI a b).orElse fun _ => dMulL a b
theorem se_mul {a b : Expr} {p q : XE} (ha : SE X W a p) (hb : SE X W b q) : SE X W (.BinOp a .Mult b pos) (eOp dMul p q) :=
  se_op (opr_or op_mul op_rep) (ok2_or ok_I ok_mulL) ha hb

/-! ### comparisons -/
def scD : D → D → Option Bool
  | .str a, .str b => some (decide (a = b))
  | .int a, .int b => some (decide (a = b))
  | .bool a, .bool b => some (decide (a = b))
  | .none, .none => some true
  | .none, .str _ => some false
  | .str _, .none => some false
  | .none, .int _ => some false
  | .int _, .none => some false
  | .none, .bool _ => some false
  | .bool _, .none => some false
  | .str _, .int _ => some false
  | .int _, .str _ => some false
  | _, _ => none
theorem scD_of {K : Frag} {Z : Hp} {x y : V} {a b : D} {c : Bool} (h : scD a b = some c) (ha : Dq K Z x a) (hb : Dq K Z y b) : scal x y = true ∧ decide (x = y) = c := by
  unfold scD at h
  split at h <;> cases h <;> (first | cases dp_str ha | cases dp_int ha | cases dp_bool ha | cases dp_none ha) <;> (first | cases dp_str hb | cases dp_int hb | cases dp_bool hb | cases dp_none hb) <;> refine ⟨rfl, ?_⟩ <;> simp
def eqD (neg : Bool) (a b : D) : Option D := match scD a b with
  | some c => some (.bool (if neg then !c else c))
  | none => if SeqAt.shaped a = true ∧ SeqAt.shaped b = true then some (.bool (if neg then !PyData.eqv a b else PyData.eqv a b)) else none
def dEq : D → D → Option D := eqD false
def dNe : D → D → Option D := eqD true
theorem ok_eq {K : Frag} : Ok2 K (fun x y H Q => rEq x y H Q ∨ rEqD K x y H Q) dEq := by
  intro Z H x y d1 d2 d Q s D1 D2 e k
  unfold dEq eqD at e
  split at e
  · rename_i c hc
    cases e
    obtain ⟨h1, h2⟩ := scD_of hc D1 D2
    exact .inl ⟨h1, by rw [h2]; exact k _ Z H (Nw.refl s) (.bl _)⟩
  · split at e
    · rename_i hc
      cases e
      exact .inr ⟨d1, d2, (dp_mono s D1).dp, (dp_mono s D2).dp, hc.1, hc.2, k _ Z H (Nw.refl s) (.bl _)⟩
    · cases e
theorem ok_ne {K : Frag} : Ok2 K (fun x y H Q => rNe x y H Q ∨ rNeD K x y H Q) dNe := by
  intro Z H x y d1 d2 d Q s D1 D2 e k
  unfold dNe eqD at e
  split at e
  · rename_i c hc
    cases e
    obtain ⟨h1, h2⟩ := scD_of hc D1 D2
    exact .inl ⟨h1, by rw [h2]; exact k _ Z H (Nw.refl s) (.bl _)⟩
  · split at e
    · rename_i hc
      cases e
      exact .inr ⟨d1, d2, (dp_mono s D1).dp, (dp_mono s D2).dp, hc.1, hc.2, k _ Z H (Nw.refl s) (.bl _)⟩
    · cases e
def dLt : D → D → Option D := dI (fun _ _ => True) fun i j => .bool (decide (i < j))
def dLe : D → D → Option D := dI (fun _ _ => True) fun i j => .bool (decide (i ≤ j))
def dGt : D → D → Option D := dI (fun _ _ => True) fun i j => .bool (decide (j < i))
def dGe : D → D → Option D := dI (fun _ _ => True) fun i j => .bool (decide (j ≤ i))
theorem se_eq {a b : Expr} {p q : XE} (hu : X.A.units + 64 < cLine) (ha : SE X W a p) (hb : SE X W b q) : SE X W (.Compare a [.Eq] [b] pos) (eOp dEq p q) := se_cmp (opr_or op_eq (op_eqD hu)) ok_eq ha hb (nobehind _ (by decide) (by decide))
theorem se_ne {a b : Expr} {p q : XE} (hu : X.A.units + 64 < cLine) (ha : SE X W a p) (hb : SE X W b q) : SE X W (.Compare a [.NotEq] [b] pos) (eOp dNe p q) := se_cmp (opr_or op_ne (op_neD hu)) ok_ne ha hb (nobehind _ (by decide) (by decide))
theorem se_lt {a b : Expr} {p q : XE} (ha : SE X W a p) (hb : SE X W b q) : SE X W (.Compare a [.Lt] [b] pos) (eOp dLt p q) := se_cmp op_lt ok_B0 ha hb (nobehind _ (by decide) (by decide))
theorem se_le {a b : Expr} {p q : XE} (ha : SE X W a p) (hb : SE X W b q) : SE X W (.Compare a [.LtE] [b] pos) (eOp dLe p q) := se_cmp op_le ok_B0 ha hb (nobehind _ (by decide) (by decide))
theorem se_gt {a b : Expr} {p q : XE} (ha : SE X W a p) (hb : SE X W b q) : SE X W (.Compare a [.Gt] [b] pos) (eOp dGt p q) := se_cmp op_gt ok_B0 ha hb (nobehind _ (by decide) (by decide))
theorem se_ge {a b : Expr} {p q : XE} (ha : SE X W a p) (hb : SE X W b q) : SE X W (.Compare a [.GtE] [b] pos) (eOp dGe p q) := se_cmp op_ge ok_B0 ha hb (nobehind _ (by decide) (by decide))
theorem st_eq {a b : Expr} {p q : XE} (hu : X.A.units + 64 < cLine) (ha : SE X W a p) (hb : SE X W b q) : ST X W (.Compare a [.Eq] [b] pos) (tOf (eOp dEq p q)) := st_cmp (opr_or op_eq (op_eqD hu)) ok_eq ha hb (nobehind _ (by decide) (by decide))
theorem st_ne {a b : Expr} {p q : XE} (hu : X.A.units + 64 < cLine) (ha : SE X W a p) (hb : SE X W b q) : ST X W (.Compare a [.NotEq] [b] pos) (tOf (eOp dNe p q)) := st_cmp (opr_or op_ne (op_neD hu)) ok_ne ha hb (nobehind _ (by decide) (by decide))
theorem st_lt {a b : Expr} {p q : XE} (ha : SE X W a p) (hb : SE X W b q) : ST X W (.Compare a [.Lt] [b] pos) (tOf (eOp dLt p q)) := st_cmp op_lt ok_B0 ha hb (nobehind _ (by decide) (by decide))
theorem st_le {a b : Expr} {p q : XE} (ha : SE X W a p) (hb : SE X W b q) : ST X W (.Compare a [.LtE] [b] pos) (tOf (eOp dLe p q)) := st_cmp op_le ok_B0 ha hb (nobehind _ (by decide) (by decide))
theorem st_gt {a b : Expr} {p q : XE} (ha : SE X W a p) (hb : SE X W b q) : ST X W (.Compare a [.Gt] [b] pos) (tOf (eOp dGt p q)) := st_cmp op_gt ok_B0 ha hb (nobehind _ (by decide) (by decide))
theorem st_ge {a b : Expr} {p q : XE} (ha : SE X W a p) (hb : SE X W b q) : ST X W (.Compare a [.GtE] [b] pos) (tOf (eOp dGe p q)) := st_cmp op_ge ok_B0 ha hb (nobehind _ (by decide) (by decide))

/-! ### subscripts -/
def dIx : D → D → Option D
  | .list xs, .int i => atI xs i
  | .tuple xs, .int i => atI xs i
  | .str z, .int i => if z.length ≤ sizeLine then (atI z.cps.toList i).map fun c => .str ⟨#[c]⟩ else none
  | _, _ => none
theorem atI_dq {K : Frag} {Z : Hp} {vs : List V} {ds : List D} {i : Int} {d : D} (h : DqAll K Z vs ds) (e : atI ds i = some d) : ∃ v, atI vs i = some v ∧ Dq K Z v d := by
  unfold atI at e ⊢
  rw [dpa_len h]
  cases hn : ixN ds.length i with
  | none => rw [hn] at e; cases e
  | some j =>
    rw [hn] at e
    exact dpa_get h e
theorem ok_ix {K : Frag} : Ok2 K (fun x y H Q => rIxL K x y H Q ∨ rIxT K x y H Q ∨ rIxS x y H Q) dIx := by
  intro Z H x y d1 d2 d Q s D1 D2 e k
  unfold dIx at e
  split at e
  · obtain ⟨a, ws, rfl, h1, h2⟩ := dp_list D1
    cases dp_int D2
    obtain ⟨v, e1, e2⟩ := atI_dq h2 e
    exact .inl ⟨a, ws, _, v, rfl, rfl, .inl (.inl (s _ _ h1)), e1, k _ Z H (Nw.refl s) e2⟩
  · obtain ⟨a, ws, rfl, h1, h2⟩ := dp_tuple D1
    cases dp_int D2
    obtain ⟨v, e1, e2⟩ := atI_dq h2 e
    exact .inr (.inl ⟨a, ws, _, v, rfl, rfl, same_tup s h1, e1, k _ Z H (Nw.refl s) e2⟩)
  · split at e
    · cases dp_str D1
      cases dp_int D2
      rename_i z i hz
      cases hc : atI z.cps.toList i with
      | none => rw [hc] at e; cases e
      | some c =>
        rw [hc] at e
        cases e
        exact .inr (.inr ⟨z, i, c, rfl, rfl, hz, hc, k _ Z H (Nw.refl s) (.str _)⟩)
    · cases e
  · cases e
theorem se_ixA {a b : Expr} {p q : XE} (ha : SE X W a p) (hb : SE X W b q) (hs : PlainIx b) : SE X W (.Subscript a b pos) (eOp dIx p q) := se_ix (.or ix_list (.or ix_tup ix_str)) ok_ix ha hb hs
/-- xs[i], xs a name's own list: read as it is when the index is known -/
def eIxOwn (i : Nat) (q : XE) : XE := fun e => match e[i]? with
  | some (.own _ (.lst _)) => (q e).bind fun d e1 => match e1[i]? with
    | some (.own _ (.lst xs)) => R.lift (dIx (.list xs) d) e1
    | _ => .bad
  | _ => .bad
theorem se_ixOwn {i : Nat} {x : Str} {p : Pos} {b : Expr} {q : XE} (ha : PE X (.Name x p) (tVar i)) (hb : SE X W b q) (hs : PlainIx b) : SE X W (.Subscript (.Name x p) b pos) (eIxOwn i q) := by
  refine PE.imp (pe_ix ix_list ha hb hs) fun σ H Q ⟨B, e, Z, R0, hq⟩ => ?_
  unfold eIxOwn at hq
  split at hq
  · rename_i t ds he
    obtain ⟨a, u, h1, _⟩ := R0.own he
    refine ⟨_, h1, ?_⟩
    refine rg_bind R0 hq fun v1 Z1 e1 d1 H1 s1 R1 D1 g1 => ?_
    split at g1
    · rename_i t2 xs he2
      obtain ⟨d, ed, kk⟩ := pg_lift R1 g1
      obtain ⟨a2, u2, g2, g3, g4, ⟨vs, rfl, g5⟩, _⟩ := R1.own he2
      rw [h1] at g2
      cases g2
      cases D1 with
      | int k =>
        obtain ⟨v, z1, z2⟩ := atI_dq g5 (show atI xs k = some d from ed)
        exact ⟨a, vs, k, v, rfl, rfl, .inl (.inl g3), z1, kk _ Z1 H1 (Nw.refl R1.sub) z2⟩
      | non => cases ed
      | bl _ => cases ed
      | str _ => cases ed
      | lst _ _ => cases ed
      | tup _ _ => cases ed
    · exact g1.elim
  · exact hq.elim
/-- xs[i] = e, xs a name's own list -/
def sSetIx (i : Nat) (q p : XE) : XS := fun e => (p e).bind fun d e1 => match e1[i]? with
  | some (.own _ (.lst _)) => (q e1).bind fun k e2 => match e2[i]?, k with
    | some (.own t (.lst xs)), .int k => match ixN xs.length k with
      | some j => .ok .nx (e2.set i (.own t (.lst (xs.set j d))))
      | none => .bad
    | _, _ => .bad
  | _ => .bad
theorem ss_setIx {i : Nat} {x : Str} {px ps : Pos} {b v : Expr} {q p : XE} (ha : PE X (.Name x px) (tVar i)) (hb : SE X W b q) (hv : SE X W v p)
    (hs : swapsWithSole [.Subscript (.Name x px) b ps] v pos.line X.env = pure false := by rfl) (hw : swappedStores [.Subscript (.Name x px) b ps] v X.env = pure none := by rfl)
    (h1 : (assignEach [.Subscript (.Name x px) b ps] X.env).map (·.2) = [assign (.Subscript (.Name x px) b ps) X.env] := by rfl)
    (h2 : ∀ w, assign (.Subscript (.Name x px) b ps) X.env w = (do
      let ov ← holding [w] (eval (.Name x px) X.env)
      let iv ← holding [w, ov] (eval b X.env)
      standAt ps
      holding [w, ov, iv] (setItem ov iv w)
      release [w, ov, iv] []) := by intro _; rfl) : SS X W (.Assign [.Subscript (.Name x px) b ps] v pos) (sSetIx i q p) := by
  refine PS.imp (ps_asg hv (pg_sub ha hb set_list h2) hs hw h1) fun Dn σ H ⟨B, e, Z, R0, hq⟩ => ?_
  refine rs_bind R0 hq fun v1 Z1 e1 d1 H1 s1 R1 D1 g1 => ?_
  split at g1
  · rename_i t ds he
    obtain ⟨a, u, h1, _⟩ := R1.own he
    refine ⟨_, h1, ?_⟩
    refine rs_bind R1 g1 fun v2 Z2 e2 d2 H2 s2 R2 D2 g2 => ?_
    split at g2
    · rename_i t2 xs k he2
      obtain ⟨a2, u2, z2, z3, z4, ⟨vs, rfl, z5⟩, _⟩ := R2.own he2
      rw [h1] at z2
      cases z2
      cases dp_int D2
      cases hj : ixN xs.length k with
      | none => rw [hj] at g2; exact g2.elim
      | some j =>
        rw [hj] at g2
        exact ⟨a, vs, k, j, rfl, rfl, z3, by rw [dpa_len z5]; exact hj, g2 σ Z2 _ (Same.refl _) (R2.write he2 h1 ⟨_, rfl, dpa_set (dp_mono s2 D1) j z5⟩)⟩
    · exact g2.elim
  · exact g1.elim
/-- a method that changes a name's own list -/
def OkMut (K : Frag) (r : V → List V → Hp → VK → Prop) (g : List D → List D → Option (D × List D)) : Prop :=
  ∀ Z H l xs vs ds as d ys (Q : VK), Same Z H → H l = some (.lst xs) → Z l = none → DqAll K Z xs ds → DqAll K Z vs as → g ds as = some (d, ys) → (∀ v ws, DqAll K Z ws ys → Dq K Z v d → Q v (upd H l (.lst ws))) → r (.ref l) vs H Q
def eMut (i : Nat) (g : List D → List D → Option (D × List D)) (q : XA) : XE := fun e => match e[i]? with
  | some (.own _ (.lst _)) => (q e).bind fun as e1 => match e1[i]? with
    | some (.own t (.lst xs)) => match g xs as with
      | some (d, ys) => .ok d (e1.set i (.own t (.lst ys)))
      | none => .bad
    | _ => .bad
  | _ => .bad
theorem mut_imp {i : Nat} {r : V → List V → Hp → VK → Prop} {g : List D → List D → Option (D × List D)} {q : XA} (ok : OkMut X.K r g) {σ : L2.St} {H : Hp} {Q : VK} (h : RE X.K X.mg W (eMut i g q) σ H Q) :
    tBM X.K "list" r (tVar i) (RA X.K X.mg W q) σ H Q := by
  obtain ⟨B, e, Z, R0, hq⟩ := h
  unfold eMut at hq
  split at hq
  · rename_i t ds he
    obtain ⟨a, u, h1, h2, h3, ⟨vs, rfl, _⟩, _⟩ := R0.own he
    refine ⟨_, h1, .inl ⟨rfl, _, .inl (.inl h2)⟩, ?_⟩
    refine rg_bind R0 hq fun v1 Z1 e1 d1 H1 s1 R1 D1 g1 => ?_
    split at g1
    · rename_i t2 xs he2
      obtain ⟨a2, u2, z2, z3, z4, ⟨vs2, rfl, z5⟩, _⟩ := R1.own he2
      rw [h1] at z2
      cases z2
      cases hg : g xs d1 with
      | none => rw [hg] at g1; exact g1.elim
      | some dy =>
        obtain ⟨d, ys⟩ := dy
        rw [hg] at g1
        exact ok Z1 H1 a vs2 v1 xs d1 d ys Q R1.sub z3 z4 z5 D1 hg fun v ws hw hd => g1 v Z1 _ (Same.refl _) (R1.write he2 h1 ⟨ws, rfl, hw⟩) hd
    · exact g1.elim
  · exact hq.elim
theorem mut_imp0 {i : Nat} {r : V → List V → Hp → VK → Prop} {g : List D → List D → Option (D × List D)} (ok : OkMut X.K r g) {σ : L2.St} {H : Hp} {Q : VK} (h : RE X.K X.mg W (eMut i g aNil) σ H Q) :
    tBM0 X.K "list" r (tVar i) σ H Q := by
  obtain ⟨B, e, Z, R0, hq⟩ := h
  unfold eMut at hq
  split at hq
  · rename_i t ds he
    obtain ⟨a, u, h1, h2, h3, ⟨vs, rfl, z5⟩, _⟩ := R0.own he
    refine ⟨_, h1, .inl ⟨rfl, _, .inl (.inl h2)⟩, ?_⟩
    simp only [aNil, R.bind_ok, he] at hq
    cases hg : g ds [] with
    | none => rw [hg] at hq; exact hq.elim
    | some dy =>
      obtain ⟨d, ys⟩ := dy
      rw [hg] at hq
      exact ok Z H a vs [] ds [] d ys Q R0.sub h2 h3 z5 .nil hg fun v ws hw hd => hq v Z _ (Same.refl _) (R0.write he h1 ⟨ws, rfl, hw⟩) hd
  · exact hq.elim
def mAppend : List D → List D → Option (D × List D)
  | xs, [y] => if xs.length < sizeLine then some (.none, xs ++ [y]) else none
  | _, _ => none
theorem ok_append {K : Frag} : OkMut K rAppend mAppend := by
  intro Z H l xs vs ds as d ys Q s h1 h2 h3 h4 e k
  unfold mAppend at e
  split at e
  · split at e
    · cases e
      obtain ⟨v, rfl, hv⟩ := dpa_1 h4
      exact ⟨l, xs, v, rfl, rfl, h1, by rw [dpa_len h3]; assumption, k _ _ (dpa_app h3 (.cons hv .nil)) .non⟩
    · cases e
  · cases e
def mExtend : List D → List D → Option (D × List D)
  | xs, [.list ys] => if xs.length + ys.length ≤ sizeLine then some (.none, xs ++ ys) else none
  | _, _ => none
theorem ok_extend {K : Frag} : OkMut K rExtend mExtend := by
  intro Z H l xs vs ds as d ys Q s h1 h2 h3 h4 e k
  unfold mExtend at e
  split at e
  · split at e
    · cases e
      obtain ⟨v, rfl, hv⟩ := dpa_1 h4
      obtain ⟨b, us, rfl, g1, g2⟩ := dp_list hv
      exact ⟨l, b, xs, us, rfl, rfl, h1, s _ _ g1, by rw [dpa_len h3, dpa_len g2]; assumption, k _ _ (dpa_app h3 g2) .non⟩
    · cases e
  · cases e
theorem se_append {i : Nat} {x : Str} {px ap pos : Pos} {a : Expr} {q : XA} (hx : PE X (.Name x px) (tVar i)) (ha : SA X W [a] q)
    (hbase : attributeBase (.Name x px) "append" X.env (eval (.Name x px) X.env) = eval (.Name x px) X.env := by rfl)
    (hfew : ((backTo pos (starEach [a] X.env)).all (fun x => !x.1) && (backToKw pos (keywordEach [] X.env)).all (fun x => x.1.isSome)
      && decide ([a].length + ([] : List Keyword).length + (if ([] : List Keyword).isEmpty then 0 else 1) < 30)) = true := by rfl)
    (hline : (ap.endLine == pos.line) = true := by rfl) (hs : starEach [a] X.env = (false, eval a X.env) :: starEach [] X.env := by rfl) (hplain : (backTo pos (starEach [] X.env)).any (·.1) = false := by rfl) :
    SE X W (.Call (.Attribute (.Name x px) "append" ap) [a] [] pos) (eMut i mAppend q) :=
  PE.imp (pe_bm PySem.F.plainAttrs_list PySem.F.slot_list_append PySem.F.type_list_append mt_append hx ha hbase hfew hline hs hplain) fun _ _ _ => mut_imp ok_append
theorem se_extend {i : Nat} {x : Str} {px ap pos : Pos} {a : Expr} {q : XA} (hx : PE X (.Name x px) (tVar i)) (ha : SA X W [a] q)
    (hbase : attributeBase (.Name x px) "extend" X.env (eval (.Name x px) X.env) = eval (.Name x px) X.env := by rfl)
    (hfew : ((backTo pos (starEach [a] X.env)).all (fun x => !x.1) && (backToKw pos (keywordEach [] X.env)).all (fun x => x.1.isSome)
      && decide ([a].length + ([] : List Keyword).length + (if ([] : List Keyword).isEmpty then 0 else 1) < 30)) = true := by rfl)
    (hline : (ap.endLine == pos.line) = true := by rfl) (hs : starEach [a] X.env = (false, eval a X.env) :: starEach [] X.env := by rfl) (hplain : (backTo pos (starEach [] X.env)).any (·.1) = false := by rfl) :
    SE X W (.Call (.Attribute (.Name x px) "extend" ap) [a] [] pos) (eMut i mExtend q) :=
  PE.imp (pe_bm PySem.F.plainAttrs_list PySem.F.slot_list_extend PySem.F.type_list_extend mt_extend hx ha hbase hfew hline hs hplain) fun _ _ _ => mut_imp ok_extend
end
end G
set_option Elab.async false
set_option linter.all false
set_option maxRecDepth 100000
/-! zip of any two of: lists, tuples, texts -/
namespace G
open PySem PySem.Spec PyProof.Rows L2
open PySem.Sem (wp)

/-- one of the two iterators within a zip; ls: what it leans on -/
structure Inn (prog : Program) (w : World) (it : Addr) (ls : List Addr) (n : Nat) (Y : Nat → Value → Prop) (tn : Nat → Heap → Prop) : Prop where
  obj : ∀ i h, tn i h → ∃ o, h.get? it = some o ∧ ∀ v, o.data ≠ .cell v
  keep : ∀ i h h', tn i h → (∀ b, b = it ∨ b ∈ ls → ∀ o, h.get? b = some o → h'.get? b = some o) → tn i h'
  item : ∀ (A : Around) i (s : Shared) (Q : Value → Shared → Prop) (E : Value → Shared → Prop), A.handled = none → i < n → tn i s.heap →
    (∀ v h' t', Y i v → tn (i + 1) h' → Heap.SameBut it s.heap h' → Q v { s with heap := h', toks := t' }) → wpAny (model prog w) A (Builtin.SmallTypes.nextOf (.ref it)) Q E s
  done : ∀ (A : Around) (s : Shared) (Q : Value → Shared → Prop) (E : Value → Shared → Prop), A.handled = none → tn n s.heap →
    (∀ h' e, Heap.ExtBut it s.heap h' → (∃ o, h'.get? e = some o ∧ o.cls = .type "StopIteration") → E (.ref e) { s with heap := h' }) → wpAny (model prog w) A (Builtin.SmallTypes.nextOf (.ref it)) Q E s

section
variable {prog : Program} {w : World} {A : Around} {E : Value → Shared → Prop} {s : Shared}
theorem inn_list (it l : Addr) (xs : Array Value) : Inn prog w it [l] xs.size (fun i v => xs[i]? = some v) (fun i h => h.IsListIter it l i ∧ h.IsList l xs) where
  obj := fun i h ⟨⟨o, e, _, d⟩, _⟩ => ⟨o, e, fun v z => by rw [d] at z; cases z⟩
  keep := fun i h h' ⟨a, b⟩ k => ⟨a.at fun o e => k it (.inl rfl) o e, b.at fun o e => k l (.inr (by simp)) o e⟩
  item := fun A i s Q E hh hi ⟨a, b⟩ hQ => wpAny_nextOf_list_item a b (Array.getElem?_eq_getElem hi) fun h' a' sb => hQ _ h' s.toks (Array.getElem?_eq_getElem hi) ⟨a', b.at fun o e => (sb.2 l (fun z => by
      subst z
      obtain ⟨o1, e1, c1, _⟩ := a
      obtain ⟨o2, e2, c2, _⟩ := b
      rw [e1] at e2
      cases e2
      rw [c1] at c2
      simp at c2)).trans e⟩ sb
  done := fun A s Q E hh ⟨a, b⟩ hE => wpAny_nextOf_list_end hh a b (Array.getElem?_eq_none (Nat.le_refl _)) hE
theorem inn_tup (it l : Addr) (xs : Array Value) : Inn prog w it [l] xs.size (fun i v => xs[i]? = some v) (fun i h => h.IsTupleIter it l i ∧ h.IsTuple l xs) where
  obj := fun i h ⟨⟨o, e, _, d⟩, _⟩ => ⟨o, e, fun v z => by rw [d] at z; cases z⟩
  keep := fun i h h' ⟨a, b⟩ k => ⟨a.at fun o e => k it (.inl rfl) o e, b.at fun o e => k l (.inr (by simp)) o e⟩
  item := fun A i s Q E hh hi ⟨a, b⟩ hQ => RZ.nextOf_tuple_item a b (Array.getElem?_eq_getElem hi) fun h' a' sb => hQ _ h' s.toks (Array.getElem?_eq_getElem hi) ⟨a', b.at fun o e => (sb.2 l (fun z => by
      subst z
      obtain ⟨o1, e1, c1, _⟩ := a
      obtain ⟨o2, e2, c2, _⟩ := b
      rw [e1] at e2
      cases e2
      rw [c1] at c2
      simp at c2)).trans e⟩ sb
  done := fun A s Q E hh ⟨a, b⟩ hE => RZ.nextOf_tuple_end hh a b (Array.getElem?_eq_none (Nat.le_refl _)) hE
theorem nextOf_ascii {it : Addr} {x : Str} {t : Tok} {i c : Nat} {Q : Value → Shared → Prop} (hit : s.heap.IsStrIter it "str_ascii_iterator" x t i) (hx : x.cps[i]? = some c)
    (hQ : ∀ h', h'.IsStrIter it "str_ascii_iterator" x t (i + 1) → Heap.SameBut it s.heap h' → Q (.str ⟨#[c]⟩ s.toks) { s with heap := h', toks := s.toks + 1 }) : wpAny (model prog w) A (Builtin.SmallTypes.nextOf (.ref it)) Q E s := by
  obtain ⟨o, ho, hcl, hda⟩ := _root_.id hit
  unfold Builtin.SmallTypes.nextOf
  refine wpAny_bind (wpAny_callSpecial?_slot (name := Str.ofString "__next__") hit.typeIs F.slot_str_ascii_iterator_next (wpAny_call_entry F.slot_str_ascii_iterator_next hit.typeIs F.entry_str_ascii_iterator_next ?_ (F.args_str_ascii_iterator_next_1 _)))
  show wpAny _ _ (field (.ref it) 0 >>= _) _ _ s
  refine wpAny_bind (wpAny_field ho hda (x := .str x t) rfl ?_)
  show wpAny _ _ (field (.ref it) 1 >>= _) _ _ s
  refine wpAny_bind (wpAny_field ho hda (x := .int i 0) rfl ?_)
  simp only [Int.toNat_natCast, hx]
  refine wpAny_bind (wpAny_setField ho hda (by simp) (wpAny_bind (wpAny_mkStr (wpAny_pure ⟨_, rfl, wpAny_pure (hQ _ ?_ (Heap.SameBut.update ..))⟩) (by show 1 ≤ sizeLine; decide))))
  exact ⟨_, Heap.get?_update_self _ ho (Obj.isFreed_of_fields (Obj.data_mapFields hda _)), (Obj.cls_mapFields ..).trans hcl, by rw [Obj.data_mapFields hda]; simp [rawInt]⟩
theorem nextOf_wide {it : Addr} {x : Str} {t : Tok} {i c : Nat} {Q : Value → Shared → Prop} (hit : s.heap.IsStrIter it "str_iterator" x t i) (hx : x.cps[i]? = some c)
    (hQ : ∀ h', h'.IsStrIter it "str_iterator" x t (i + 1) → Heap.SameBut it s.heap h' → Q (.str ⟨#[c]⟩ s.toks) { s with heap := h', toks := s.toks + 1 }) : wpAny (model prog w) A (Builtin.SmallTypes.nextOf (.ref it)) Q E s := by
  obtain ⟨o, ho, hcl, hda⟩ := _root_.id hit
  unfold Builtin.SmallTypes.nextOf
  refine wpAny_bind (wpAny_callSpecial?_slot (name := Str.ofString "__next__") hit.typeIs F.slot_str_iterator_next (wpAny_call_entry F.slot_str_iterator_next hit.typeIs F.entry_str_iterator_next ?_ (F.args_str_iterator_next_1 _)))
  show wpAny _ _ (field (.ref it) 0 >>= _) _ _ s
  refine wpAny_bind (wpAny_field ho hda (x := .str x t) rfl ?_)
  show wpAny _ _ (field (.ref it) 1 >>= _) _ _ s
  refine wpAny_bind (wpAny_field ho hda (x := .int i 0) rfl ?_)
  simp only [Int.toNat_natCast, hx]
  refine wpAny_bind (wpAny_setField ho hda (by simp) (wpAny_bind (wpAny_mkStr (wpAny_pure ⟨_, rfl, wpAny_pure (hQ _ ?_ (Heap.SameBut.update ..))⟩) (by show 1 ≤ sizeLine; decide))))
  exact ⟨_, Heap.get?_update_self _ ho (Obj.isFreed_of_fields (Obj.data_mapFields hda _)), (Obj.cls_mapFields ..).trans hcl, by rw [Obj.data_mapFields hda]; simp [rawInt]⟩
theorem stop_raised {it : Addr} {h1 : Heap} (hh : A.handled = none) (k : Heap.ExtBut it s.heap h1)
    (hE : ∀ h' e, Heap.ExtBut it s.heap h' → (∃ o, h'.get? e = some o ∧ o.cls = .type "StopIteration") → E (.ref e) { s with heap := h' }) {Q : Fin → Shared → Prop} :
    wpAny (model prog w) A (newExc (.type "StopIteration") [] >>= fun e => raiseNew e) Q E { s with heap := h1 } := by
  refine wpAny_bind ?_
  simp only [newExc, newTuple]
  refine wpAny_bind (wpAny_newObj_type ?_ (by size_fits))
  refine wpAny_bind (m := firstArgMember _ _) (wpAny_of_eq (a := Value.none) (by first | rfl | (simp only [firstArgMember]; rfl)) ?_)
  refine wpAny_newObj_type ?_ (by size_fits)
  simp only [raiseNew]
  refine wpAny_bind (wpAny_handled ?_)
  rw [hh]
  refine wpAny_bind (wpAny_pure (wpAny_throw ?_))
  exact hE _ _ ((k.push _).push _) ⟨_, Heap.get?_push_size _ rfl, rfl⟩
theorem nextOf_ascii_end {it : Addr} {x : Str} {t : Tok} {i : Nat} {Q : Value → Shared → Prop} (hh : A.handled = none) (hit : s.heap.IsStrIter it "str_ascii_iterator" x t i) (hx : x.cps[i]? = none)
    (hE : ∀ h' e, Heap.ExtBut it s.heap h' → (∃ o, h'.get? e = some o ∧ o.cls = .type "StopIteration") → E (.ref e) { s with heap := h' }) : wpAny (model prog w) A (Builtin.SmallTypes.nextOf (.ref it)) Q E s := by
  obtain ⟨o, ho, hcl, hda⟩ := _root_.id hit
  unfold Builtin.SmallTypes.nextOf
  refine wpAny_bind (wpAny_callSpecial?_slot (name := Str.ofString "__next__") hit.typeIs F.slot_str_ascii_iterator_next (wpAny_call_entry F.slot_str_ascii_iterator_next hit.typeIs F.entry_str_ascii_iterator_next ?_ (F.args_str_ascii_iterator_next_1 _)))
  show wpAny _ _ (field (.ref it) 0 >>= _) _ _ s
  refine wpAny_bind (wpAny_field ho hda (x := .str x t) rfl ?_)
  show wpAny _ _ (field (.ref it) 1 >>= _) _ _ s
  refine wpAny_bind (wpAny_field ho hda (x := .int i 0) rfl ?_)
  simp only [Int.toNat_natCast, hx]
  refine wpAny_bind (wpAny_rule (wpAny_bind (wpAny_setField ho hda (by simp) (wpAny_bind (wpAny_letGo ?_)))))
  exact stop_raised (A := A.in1) (it := it) hh (Heap.SameBut.update ..).extBut hE
theorem nextOf_wide_end {it : Addr} {x : Str} {t : Tok} {i : Nat} {Q : Value → Shared → Prop} (hh : A.handled = none) (hit : s.heap.IsStrIter it "str_iterator" x t i) (hx : x.cps[i]? = none)
    (hE : ∀ h' e, Heap.ExtBut it s.heap h' → (∃ o, h'.get? e = some o ∧ o.cls = .type "StopIteration") → E (.ref e) { s with heap := h' }) : wpAny (model prog w) A (Builtin.SmallTypes.nextOf (.ref it)) Q E s := by
  obtain ⟨o, ho, hcl, hda⟩ := _root_.id hit
  unfold Builtin.SmallTypes.nextOf
  refine wpAny_bind (wpAny_callSpecial?_slot (name := Str.ofString "__next__") hit.typeIs F.slot_str_iterator_next (wpAny_call_entry F.slot_str_iterator_next hit.typeIs F.entry_str_iterator_next ?_ (F.args_str_iterator_next_1 _)))
  show wpAny _ _ (field (.ref it) 0 >>= _) _ _ s
  refine wpAny_bind (wpAny_field ho hda (x := .str x t) rfl ?_)
  show wpAny _ _ (field (.ref it) 1 >>= _) _ _ s
  refine wpAny_bind (wpAny_field ho hda (x := .int i 0) rfl ?_)
  simp only [Int.toNat_natCast, hx]
  refine wpAny_bind (wpAny_rule (wpAny_bind (wpAny_setField ho hda (by simp) (wpAny_bind (wpAny_letGo ?_)))))
  exact stop_raised (A := A.in1) (it := it) hh (Heap.SameBut.update ..).extBut hE
theorem inn_str (it : Addr) (x : Str) (t : Tok) (ty : String) (hty : ty = "str_ascii_iterator" ∨ ty = "str_iterator") : Inn prog w it [] x.cps.size (fun i v => ∃ c u, x.cps[i]? = some c ∧ v = .str ⟨#[c]⟩ u) (fun i h => h.IsStrIter it ty x t i) where
  obj := fun i h ⟨o, e, _, d⟩ => ⟨o, e, fun v z => by rw [d] at z; cases z⟩
  keep := fun i h h' ⟨o, e, r⟩ k => ⟨o, k it (.inl rfl) o e, r⟩
  item := fun A i s Q E hh hi a hQ => by
    rcases hty with e | e
    · subst e
      exact nextOf_ascii a (Array.getElem?_eq_getElem hi) fun h' a' sb => hQ _ h' _ ⟨_, _, Array.getElem?_eq_getElem hi, rfl⟩ a' sb
    · subst e
      exact nextOf_wide a (Array.getElem?_eq_getElem hi) fun h' a' sb => hQ _ h' _ ⟨_, _, Array.getElem?_eq_getElem hi, rfl⟩ a' sb
  done := fun A s Q E hh a hE => by
    rcases hty with e | e
    · subst e
      exact nextOf_ascii_end hh a (Array.getElem?_eq_none (Nat.le_refl _)) hE
    · subst e
      exact nextOf_wide_end hh a (Array.getElem?_eq_none (Nat.le_refl _)) hE
/-- how the parts of a zip stand apart -/
structure Zap (z TI TO i1 i2 : Addr) (l1 l2 : List Addr) : Prop where
  nd : [z, TI, TO, i1, i2].Nodup
  a1 : ∀ b ∈ l1, b ∉ [z, TI, TO, i1, i2]
  a2 : ∀ b ∈ l2, b ∉ [z, TI, TO, i1, i2]
section
variable {n1 n2 : Nat} {Y1 Y2 : Nat → Value → Prop} {t1 t2 : Nat → Heap → Prop} {z TI TO i1 i2 : Addr} {l1 l2 : List Addr}
theorem Zap.ne (D : Zap z TI TO i1 i2 l1 l2) : (TI ≠ z ∧ TO ≠ z ∧ i1 ≠ z ∧ i2 ≠ z) ∧ (TO ≠ TI ∧ i1 ≠ TI ∧ i2 ≠ TI) ∧ (i1 ≠ TO ∧ i2 ≠ TO) ∧ i2 ≠ i1 := by
  have h := D.nd
  simp only [List.nodup_cons, List.mem_cons, not_or, List.not_mem_nil, not_false_eq_true, List.nodup_nil, and_true] at h
  obtain ⟨⟨h1, h2, h3, h4⟩, ⟨h5, h6, h7⟩, ⟨h8, h9⟩, h10⟩ := h
  exact ⟨⟨Ne.symm h1, Ne.symm h2, Ne.symm h3, Ne.symm h4⟩, ⟨Ne.symm h5, Ne.symm h6, Ne.symm h7⟩, ⟨Ne.symm h8, Ne.symm h9⟩, Ne.symm h10⟩
/-- an inner iterator is kept where its own object and what it leans on are -/
theorem Inn.but {it : Addr} {ls : List Addr} {n : Nat} {Y : Nat → Value → Prop} {tn : Nat → Heap → Prop} (I : Inn prog w it ls n Y tn) {i : Nat} {h h' : Heap} {c : Addr} (t : tn i h) (k : Heap.ExtBut c h h') (h1 : c ≠ it) (h2 : c ∉ ls) : tn i h' :=
  I.keep i h h' t fun b hb o e => k b o (fun q => by
    subst q
    rcases hb with hb | hb
    · exact h1 hb
    · exact h2 hb) e
theorem zg_item {hh : A.handled = none} (D : Zap z TI TO i1 i2 l1 l2) (I1 : Inn prog w i1 l1 n1 Y1 t1) (I2 : Inn prog w i2 l2 n2 Y2 t2) {k : Nat} {a b : Value} {Q : Value → Shared → Prop}
    (hz : IsZip s.heap z TI TO .none) (hTI : IsPair s.heap TI (.ref i1) (.ref i2)) (hTO : IsPair s.heap TO a b) (h1 : t1 k s.heap) (h2 : t2 k s.heap) (k1 : k < n1) (k2 : k < n2)
    (hQ : ∀ h' t' x y, Y1 k x → Y2 k y → IsZip h' z TI TO (rawInt s.heap.objs.size) → IsPair h' TO x y → t1 (k + 1) h' → t2 (k + 1) h' → IsPair h' s.heap.objs.size x y → h'.objs.size = s.heap.objs.size + 1 →
      (∀ c o, c ≠ z → c ≠ TO → c ≠ i1 → c ≠ i2 → s.heap.get? c = some o → h'.get? c = some o) → Q (.ref s.heap.objs.size) { s with heap := h', toks := t' }) :
    wpAny (model prog w) A (Builtin.«zip.__next__» ⟨[.ref z], []⟩) (fun fin s' => ∃ v, fin = .done (.ret v) ∧ Q v s') E s := by
  obtain ⟨⟨nTIz, nTOz, n1z, n2z⟩, ⟨nTOTI, n1TI, n2TI⟩, ⟨n1TO, n2TO⟩, n21⟩ := D.ne
  have zl1 : z ∉ l1 := fun q => D.a1 z q (by simp)
  have zl2 : z ∉ l2 := fun q => D.a2 z q (by simp)
  have Tl1 : TO ∉ l1 := fun q => D.a1 TO q (by simp)
  have Tl2 : TO ∉ l2 := fun q => D.a2 TO q (by simp)
  have i1l1 : i1 ∉ l1 := fun q => D.a1 i1 q (by simp)
  have i1l2 : i1 ∉ l2 := fun q => D.a2 i1 q (by simp)
  have i2l1 : i2 ∉ l1 := fun q => D.a1 i2 q (by simp)
  show wpAny _ _ (field (.ref z) 2 >>= _) _ _ _
  refine wpAny_bind (wpAny_field hz rfl (x := .bool false) rfl ?_)
  show wpAny _ _ (field (.ref z) 3 >>= _) _ _ _
  refine wpAny_bind (wpAny_field hz rfl (x := .ref TI) rfl ?_)
  refine wpAny_bind (wpAny_seqItems hTI rfl ?_)
  show wpAny _ _ (Builtin.SmallTypes.ownedTupleIsFree (.ref z) >>= _) _ _ _
  refine wpAny_bind ?_
  unfold Builtin.SmallTypes.ownedTupleIsFree
  refine wpAny_bind (wpAny_field hz rfl (x := .none) rfl (wpAny_pure ?_))
  simp only [if_true]
  refine wpAny_bind (wpAny_rule ?_)
  refine wpAny_bind (wpAny_field hz rfl (x := .ref TO) rfl ?_)
  refine wpAny_bind (wpAny_setField_rec hz (by simp) fun g1 z1 s1 => ?_)
  replace z1 : IsZip g1 z TI TO .ellipsis := z1
  refine wpAny_bind ?_
  simp only [List.zipIdx_cons, List.zipIdx_nil, List.forIn_cons, List.forIn_nil]
  -- the first
  refine wpAny_bind (wpAny_bind (wpAny_onRaise ?_))
  show wpAny _ _ (Builtin.SmallTypes.nextOf (.ref i1) >>= _) _ _ _
  refine wpAny_bind (I1.item _ k _ _ _ hh k1 (I1.but h1 s1.extBut n1z.symm zl1) fun x g2 tk2 y1 u1 s2 => wpAny_pure ?_)
  have o2 : IsPair g2 TO a b := s2.extBut _ _ n1TO.symm (s1.extBut _ _ nTOz hTO)
  refine wpAny_bind (wpAny_seqItems o2 rfl ?_)
  refine wpAny_bind (wpAny_updateSeq_pair o2 fun g3 o3 s3 => ?_)
  replace o3 : IsPair g3 TO x b := o3
  refine wpAny_bind (wpAny_letGo (wpAny_pure ?_))
  -- the second
  refine wpAny_bind (wpAny_bind (wpAny_onRaise ?_))
  show wpAny _ _ (Builtin.SmallTypes.nextOf (.ref i2) >>= _) _ _ _
  refine wpAny_bind (I2.item _ k _ _ _ hh k2 (I2.but (I2.but (I2.but h2 s1.extBut n2z.symm zl2) s2.extBut n21.symm i1l2) s3.extBut n2TO.symm Tl2) fun y g4 tk4 y2 u2 s4 => wpAny_pure ?_)
  have o4 : IsPair g4 TO x b := s4.extBut _ _ n2TO.symm o3
  refine wpAny_bind (wpAny_seqItems o4 rfl ?_)
  refine wpAny_bind (wpAny_updateSeq_pair o4 fun g5 o5 s5 => ?_)
  replace o5 : IsPair g5 TO x y := o5
  refine wpAny_bind (wpAny_letGo (wpAny_pure (wpAny_pure ?_)))
  refine wpAny_bind (wpAny_seqItems o5 rfl ?_)
  refine wpAny_bind (wpAny_newTuple ?_)
  have size : g5.objs.size = s.heap.objs.size := by rw [s5.1, s4.1, s3.1, s2.1, s1.1]
  have z5 : IsZip g5 z TI TO .ellipsis := s5.extBut _ _ nTOz.symm (s4.extBut _ _ n2z.symm (s3.extBut _ _ nTOz.symm (s2.extBut _ _ n1z.symm z1)))
  have k5 : ∀ c o, c ≠ z → c ≠ TO → c ≠ i1 → c ≠ i2 → s.heap.get? c = some o → g5.get? c = some o := fun c o c1 c2 c3 c4 e => s5.extBut _ _ c2 (s4.extBut _ _ c4 (s3.extBut _ _ c2 (s2.extBut _ _ c3 (s1.extBut _ _ c1 e))))
  have u5 : t1 (k + 1) g5 := I1.but (I1.but (I1.but u1 s3.extBut n1TO.symm Tl1) s4.extBut n21 i2l1) s5.extBut n1TO.symm Tl1
  have v5 : t2 (k + 1) g5 := I2.but u2 s5.extBut n2TO.symm Tl2
  have hzl : z < g5.objs.size := Heap.lt_size z5
  show wpAny _ _ (Builtin.SmallTypes.ownedTupleHandOut (.ref z) (.ref g5.objs.size) >>= _) _ _ _
  refine wpAny_bind ?_
  unfold Builtin.SmallTypes.ownedTupleHandOut
  have z6 : IsZip (g5.push { cls := .type "tuple", data := .seq #[x, y] }) z TI TO .ellipsis := Heap.get?_push_of_some _ z5
  refine wpAny_bind (wpAny_setField_rec z6 (by simp) fun g7 z7 s7 => ?_)
  replace z7 : IsZip g7 z TI TO (rawInt g5.objs.size) := z7
  refine wpAny_setField_rec z7 (by simp) fun g8 z8 s8 => ?_
  replace z8 : IsZip g8 z TI TO (rawInt g5.objs.size) := z8
  have up : ∀ c o, c ≠ z → g5.get? c = some o → g8.get? c = some o := fun c o c1 e => s8.extBut _ _ c1 (s7.extBut _ _ c1 (Heap.get?_push_of_some _ e))
  have T8 : IsPair g8 g5.objs.size x y := s8.extBut _ _ (Nat.ne_of_gt hzl) (s7.extBut _ _ (Nat.ne_of_gt hzl) (Heap.get?_push_size _ rfl))
  have sz8 : g8.objs.size = g5.objs.size + 1 := by rw [s8.1, s7.1, Heap.size_push]
  rw [size] at z8 T8 sz8
  refine wpAny_pure ⟨_, rfl, ?_⟩
  show Q (.ref g5.objs.size) _
  rw [size]
  exact hQ g8 _ x y y1 y2 z8 (up _ _ nTOz o5) (I1.keep _ _ _ u5 fun c hc o e => up c o (fun q => by
    subst q
    rcases hc with hc | hc
    · exact n1z hc.symm
    · exact zl1 hc) e) (I2.keep _ _ _ v5 fun c hc o e => up c o (fun q => by
    subst q
    rcases hc with hc | hc
    · exact n2z hc.symm
    · exact zl2 hc) e) T8 sz8 fun c o c1 c2 c3 c4 e => up c o c1 (k5 c o c1 c2 c3 c4 e)
theorem zg_end {hh : A.handled = none} (D : Zap z TI TO i1 i2 l1 l2) (I1 : Inn prog w i1 l1 n1 Y1 t1) (I2 : Inn prog w i2 l2 n2 Y2 t2) {k : Nat} {a b : Value} {Q : Fin → Shared → Prop}
    (hz : IsZip s.heap z TI TO .none) (hTI : IsPair s.heap TI (.ref i1) (.ref i2)) (hTO : IsPair s.heap TO a b) (h1 : t1 k s.heap) (h2 : t2 k s.heap) (hk : k = min n1 n2)
    (hE : ∀ h' t' e, (∀ c o, c ≠ z → c ≠ TO → c ≠ i1 → c ≠ i2 → s.heap.get? c = some o → h'.get? c = some o) → (∃ o, h'.get? e = some o ∧ o.cls = .type "StopIteration") → E (.ref e) { s with heap := h', toks := t' }) :
    wpAny (model prog w) A (Builtin.«zip.__next__» ⟨[.ref z], []⟩) Q E s := by
  obtain ⟨⟨nTIz, nTOz, n1z, n2z⟩, ⟨nTOTI, n1TI, n2TI⟩, ⟨n1TO, n2TO⟩, n21⟩ := D.ne
  have zl1 : z ∉ l1 := fun q => D.a1 z q (by simp)
  have zl2 : z ∉ l2 := fun q => D.a2 z q (by simp)
  have Tl2 : TO ∉ l2 := fun q => D.a2 TO q (by simp)
  have i1l2 : i1 ∉ l2 := fun q => D.a2 i1 q (by simp)
  show wpAny _ _ (field (.ref z) 2 >>= _) _ _ _
  refine wpAny_bind (wpAny_field hz rfl (x := .bool false) rfl ?_)
  show wpAny _ _ (field (.ref z) 3 >>= _) _ _ _
  refine wpAny_bind (wpAny_field hz rfl (x := .ref TI) rfl ?_)
  refine wpAny_bind (wpAny_seqItems hTI rfl ?_)
  show wpAny _ _ (Builtin.SmallTypes.ownedTupleIsFree (.ref z) >>= _) _ _ _
  refine wpAny_bind ?_
  unfold Builtin.SmallTypes.ownedTupleIsFree
  refine wpAny_bind (wpAny_field hz rfl (x := .none) rfl (wpAny_pure ?_))
  simp only [if_true]
  refine wpAny_bind (wpAny_rule ?_)
  refine wpAny_bind (wpAny_field hz rfl (x := .ref TO) rfl ?_)
  refine wpAny_bind (wpAny_setField_rec hz (by simp) fun g1 z1 s1 => ?_)
  replace z1 : IsZip g1 z TI TO .ellipsis := z1
  refine wpAny_bind ?_
  simp only [List.zipIdx_cons, List.zipIdx_nil, List.forIn_cons, List.forIn_nil]
  refine wpAny_bind (wpAny_bind (wpAny_onRaise ?_))
  show wpAny _ _ (Builtin.SmallTypes.nextOf (.ref i1) >>= _) _ _ _
  by_cases hl : k < n1
  · refine wpAny_bind (I1.item _ k _ _ _ hh hl (I1.but h1 s1.extBut n1z.symm zl1) fun x g2 tk2 y1 u1 s2 => wpAny_pure ?_)
    have o2 : IsPair g2 TO a b := s2.extBut _ _ n1TO.symm (s1.extBut _ _ nTOz hTO)
    refine wpAny_bind (wpAny_seqItems o2 rfl ?_)
    refine wpAny_bind (wpAny_updateSeq_pair o2 fun g3 o3 s3 => ?_)
    refine wpAny_bind (wpAny_letGo (wpAny_pure ?_))
    refine wpAny_bind (wpAny_bind (wpAny_onRaise ?_))
    show wpAny _ _ (Builtin.SmallTypes.nextOf (.ref i2) >>= _) _ _ _
    have ek : k = n2 := by omega
    subst ek
    refine wpAny_bind (I2.done _ _ _ _ hh (I2.but (I2.but (I2.but h2 s1.extBut n2z.symm zl2) s2.extBut n21.symm i1l2) s3.extBut n2TO.symm Tl2) fun g4 e s4 he => ?_)
    obtain ⟨oe, hoe, hce⟩ := he
    have z4 : IsZip g4 z TI TO .ellipsis := s4 _ _ n2z.symm (s3.extBut _ _ nTOz.symm (s2.extBut _ _ n1z.symm z1))
    have nez : e ≠ z := fun q => by subst q; rw [z4] at hoe; cases hoe; simp at hce
    refine wpAny_setField_rec z4 (by simp) fun g5 _ s5 => hE g5 _ e (fun c o c1 c2 c3 c4 q => s5.extBut _ _ c1 (s4 _ _ c4 (s3.extBut _ _ c2 (s2.extBut _ _ c3 (s1.extBut _ _ c1 q))))) ⟨oe, s5.extBut _ _ nez hoe, hce⟩
  · have ek : k = n1 := by omega
    subst ek
    refine wpAny_bind (I1.done _ _ _ _ hh (I1.but h1 s1.extBut n1z.symm zl1) fun g2 e s2 he => ?_)
    obtain ⟨oe, hoe, hce⟩ := he
    have z2 : IsZip g2 z TI TO .ellipsis := s2 _ _ n1z.symm z1
    have nez : e ≠ z := fun q => by subst q; rw [z2] at hoe; cases hoe; simp at hce
    refine wpAny_setField_rec z2 (by simp) fun g3 _ s3 => hE g3 _ e (fun c o c1 _ c3 _ q => s3.extBut _ _ c1 (s2 _ _ c3 (s1.extBut _ _ c1 q))) ⟨oe, s3.extBut _ _ nez hoe, hce⟩
end
end
end G
set_option Elab.async false
set_option linter.all false
set_option maxRecDepth 100000
namespace G
open PySem PySem.Spec PyProof.Rows L2
open PySem.Sem (wp)
abbrev zG2 (h : Heap) (o1 o2 : Obj) : Heap := (h.push o1).push o2
abbrev zG3 (h : Heap) (o1 o2 : Obj) : Heap := (zG2 h o1 o2).push { cls := .type "tuple", data := .seq #[.ref h.objs.size, .ref (h.push o1).objs.size] }
abbrev zG4 (h : Heap) (o1 o2 : Obj) : Heap := (zG3 h o1 o2).push { cls := .type "tuple", data := .seq #[.none, .none] }
abbrev zG5 (h : Heap) (o1 o2 : Obj) : Heap := (zG4 h o1 o2).push { cls := .type "zip", data := .fields #[.none, .bool false, .bool false, .ref (zG2 h o1 o2).objs.size, .ref (zG3 h o1 o2).objs.size] }
/-- u gives the iterator o where P holds -/
def GivesIt (u : Value) (o : Obj) (P : Heap → Prop) : Prop := ∀ (prog : Program) (w : World) (A : Around) (s : Shared) (Q : Value → Shared → Prop) (E : Value → Shared → Prop), P s.heap → Q (.ref s.heap.objs.size) { s with heap := s.heap.push o } → wpAny (model prog w) A (pyIter u) Q E s
theorem meets_zipG (u1 u2 : Value) (o1 o2 : Obj) (P1 P2 : Heap → Prop) (k2 : ∀ h o, P2 h → P2 (h.push o)) (g1 : GivesIt u1 o1 P1) (g2 : GivesIt u2 o2 P2) :
    Meets (Builtin.«zip.__new__» ⟨[.type "zip", u1, u2], []⟩) (fun _ R s => P1 s.heap ∧ P2 s.heap ∧ R (.ok (.ret (.ref (zG4 s.heap o1 o2).objs.size))) { s with heap := zG5 s.heap o1 o2 }) :=
  .of_wp fun prog w A R s h => by
    obtain ⟨hp, g, d, tk, os⟩ := s
    obtain ⟨hl1, hl2, h⟩ := h
    have hsub := sub_zip
    have a1 := fun (A : Around) Q E => g1 prog w A ⟨hp, g, d, tk, os⟩ Q E hl1
    have a2 := fun (A : Around) Q E => g2 prog w A ⟨hp.push o1, g, d, tk, os⟩ Q E (k2 _ _ hl2)
    wp_walk using a1 _ _ _, a2 _ _ _
    exact ⟨_, rfl, h⟩
end G
set_option Elab.async false
set_option linter.all false
set_option maxRecDepth 100000
namespace G
open PySem PySem.Spec PyProof.Rows L2
section
variable {prog : Program} {w : World} {A : Around} {E : Value → Shared → Prop} {s : Shared}
theorem call_zipG {u1 u2 : Value} {o1 o2 : Obj} {P1 P2 : Heap → Prop} (k2 : ∀ h o, P2 h → P2 (h.push o)) (g1 : GivesIt u1 o1 P1) (g2 : GivesIt u2 o2 P2) (p1 : P1 s.heap) (p2 : P2 s.heap) (nf1 : o1.isFreed = false) (nf2 : o2.isFreed = false) {Q : Value → Shared → Prop}
    (h : ∀ h', IsZip h' (s.heap.objs.size + 4) (s.heap.objs.size + 2) (s.heap.objs.size + 3) .none → IsPair h' (s.heap.objs.size + 2) (.ref s.heap.objs.size) (.ref (s.heap.objs.size + 1)) →
      IsPair h' (s.heap.objs.size + 3) .none .none → h'.get? s.heap.objs.size = some o1 → h'.get? (s.heap.objs.size + 1) = some o2 → h'.objs.size = s.heap.objs.size + 5 →
      (∀ c o, s.heap.get? c = some o → h'.get? c = some o) → Q (.ref (s.heap.objs.size + 4)) { s with heap := h' }) : wpAny (model prog w) A (call (.type "zip") [u1, u2]) Q E s := by
  refine callType_new F.called_zip (by decide) (F.typeCall_zip_2 _ _) (F.newCall_zip_2 _ _) (fun obj => F.args_object_init_3 obj _ _) F.entry_zip_new (meets_zipG u1 u2 o1 o2 P1 P2 k2 g1 g2) ⟨p1, p2, ?_⟩
  have z1 : (s.heap.push o1).objs.size = s.heap.objs.size + 1 := Heap.size_push ..
  have z2 : (zG2 s.heap o1 o2).objs.size = s.heap.objs.size + 2 := by rw [Heap.size_push, z1]
  have z3 : (zG3 s.heap o1 o2).objs.size = s.heap.objs.size + 3 := by rw [Heap.size_push, z2]
  have z4 : (zG4 s.heap o1 o2).objs.size = s.heap.objs.size + 4 := by rw [Heap.size_push, z3]
  have z5 : (zG5 s.heap o1 o2).objs.size = s.heap.objs.size + 5 := by rw [Heap.size_push, z4]
  have e5 : (zG5 s.heap o1 o2).get? (zG4 s.heap o1 o2).objs.size = some _ := Heap.get?_push_size _ rfl
  have e4 : (zG5 s.heap o1 o2).get? (zG3 s.heap o1 o2).objs.size = some _ := Heap.get?_push_of_some _ (Heap.get?_push_size _ rfl)
  have e3 : (zG5 s.heap o1 o2).get? (zG2 s.heap o1 o2).objs.size = some _ := Heap.get?_push_of_some _ (Heap.get?_push_of_some _ (Heap.get?_push_size _ rfl))
  have e2 : (zG5 s.heap o1 o2).get? (s.heap.push o1).objs.size = some o2 := Heap.get?_push_of_some _ (Heap.get?_push_of_some _ (Heap.get?_push_of_some _ (Heap.get?_push_size _ nf2)))
  have e1 : (zG5 s.heap o1 o2).get? s.heap.objs.size = some o1 := Heap.get?_push_of_some _ (Heap.get?_push_of_some _ (Heap.get?_push_of_some _ (Heap.get?_push_of_some _ (Heap.get?_push_size _ nf1))))
  show _ ∧ _
  rw [z2, z3, z4] at e5
  rw [z1, z2] at e3
  rw [z3] at e4
  rw [z1] at e2
  rw [z4]
  exact ⟨⟨_, e5, rfl⟩, h _ e5 e3 e4 e1 e2 z5 fun c o x => Heap.get?_push_of_some _ (Heap.get?_push_of_some _ (Heap.get?_push_of_some _ (Heap.get?_push_of_some _ (Heap.get?_push_of_some _ x))))⟩
theorem next_zipG {n1 n2 : Nat} {Y1 Y2 : Nat → Value → Prop} {t1 t2 : Nat → Heap → Prop} {z TI TO i1 i2 : Addr} {l1 l2 : List Addr} (hh : A.handled = none) (D : Zap z TI TO i1 i2 l1 l2) (I1 : Inn prog w i1 l1 n1 Y1 t1) (I2 : Inn prog w i2 l2 n2 Y2 t2) {k : Nat} {a b : Value} {Q : Option Value → Shared → Prop}
    (hz : IsZip s.heap z TI TO .none) (hTI : IsPair s.heap TI (.ref i1) (.ref i2)) (hTO : IsPair s.heap TO a b) (h1 : t1 k s.heap) (h2 : t2 k s.heap) (k1 : k < n1) (k2 : k < n2)
    (hQ : ∀ h' t' x y, Y1 k x → Y2 k y → IsZip h' z TI TO (rawInt s.heap.objs.size) → IsPair h' TO x y → t1 (k + 1) h' → t2 (k + 1) h' → IsPair h' s.heap.objs.size x y → h'.objs.size = s.heap.objs.size + 1 →
      (∀ c o, c ≠ z → c ≠ TO → c ≠ i1 → c ≠ i2 → s.heap.get? c = some o → h'.get? c = some o) → Q (some (.ref s.heap.objs.size)) { s with heap := h', toks := t' }) : wpAny (model prog w) A (pyNext (.ref z)) Q E s := by
  have hT : s.TypeIs (.ref z) "zip" := ⟨_, hz, rfl⟩
  unfold pyNext
  exact wpAny_bind (wpAny_attempt (wpAny_callSpecial?_slot (name := Str.ofString "__next__") hT F.slot_zip_next (wpAny_call_entry F.slot_zip_next hT F.entry_zip_next
    (zg_item (A := A.in1) (hh := hh) D I1 I2 hz hTI hTO h1 h2 k1 k2 fun h' t' x y b1 b2 a1 a2 a3 a4 a5 a6 a7 => wpAny_pure (hQ h' t' x y b1 b2 a1 a2 a3 a4 a5 a6 a7)) (F.args_zip_next_1 _))))
theorem next_zipG_end {n1 n2 : Nat} {Y1 Y2 : Nat → Value → Prop} {t1 t2 : Nat → Heap → Prop} {z TI TO i1 i2 : Addr} {l1 l2 : List Addr} (hh : A.handled = none) (D : Zap z TI TO i1 i2 l1 l2) (I1 : Inn prog w i1 l1 n1 Y1 t1) (I2 : Inn prog w i2 l2 n2 Y2 t2) {k : Nat} {a b : Value} {Q : Option Value → Shared → Prop}
    (hz : IsZip s.heap z TI TO .none) (hTI : IsPair s.heap TI (.ref i1) (.ref i2)) (hTO : IsPair s.heap TO a b) (h1 : t1 k s.heap) (h2 : t2 k s.heap) (hk : k = min n1 n2)
    (hQ : ∀ h' t', (∀ c o, c ≠ z → c ≠ TO → c ≠ i1 → c ≠ i2 → s.heap.get? c = some o → h'.get? c = some o) → Q none { s with heap := h', toks := t' }) : wpAny (model prog w) A (pyNext (.ref z)) Q E s := by
  have hT : s.TypeIs (.ref z) "zip" := ⟨_, hz, rfl⟩
  unfold pyNext
  refine wpAny_bind (wpAny_attempt (wpAny_callSpecial?_slot (name := Str.ofString "__next__") hT F.slot_zip_next (wpAny_call_entry F.slot_zip_next hT F.entry_zip_next
    (zg_end (A := A.in1) (hh := hh) D I1 I2 hz hTI hTO h1 h2 hk fun h' t' e hk he => ?_) (F.args_zip_next_1 _))))
  obtain ⟨o, ho, hc⟩ := he
  refine wpAny_bind (wpAny_isInstance (T := "StopIteration") (b := true) ⟨o, ho, hc⟩ isSubtype_stop ?_)
  exact wpAny_pure (hQ _ _ hk)
end
/-- what a zip gives at turn i: a new pair of things that stand in the parts -/
def ItZ (n : Nat) (G : Hp → Prop) (V1 V2 : Nat → V → Prop) : It :=
  ⟨fun i H => i < n ∧ G H, fun i H v H' => ∃ T x y, v = .ref T ∧ H T = none ∧ H' = upd H T (.tup [x, y]) ∧ V1 i x ∧ V2 i y, fun i H => i = n ∧ G H⟩
/-- an inner iterator over what the abstract heap tells -/
structure Kd (P : Program) (w : World) (K : Frag) (it : Addr) (ls : List Addr) (n : Nat) (G : Hp → Prop) (V1 : Nat → V → Prop) (at1 : Nat → Heap → Prop) : Prop where
  obj : ∀ i h, at1 i h → ∃ o, h.get? it = some o ∧ ∀ v, o.data ≠ .cell v
  keep : ∀ i h h', at1 i h → (∀ o, h.get? it = some o → h'.get? it = some o) → at1 i h'
  inn : ∀ (X : Cx) (pins : List (Addr × Obj)) (σ : L2.St) (s : Shared) (H : Hp), X.prog = P → X.w = w → X.K = K → Inv X pins σ H s → G H →
    ∃ (Y : Nat → Value → Prop) (src : Heap → Prop), Inn P w it ls n Y (fun i h => at1 i h ∧ src h) ∧ src s.heap ∧ ∀ i v, Y i v → ∃ x, RelV x v ∧ V1 i x
theorem kd_list {P : Program} {w : World} {K : Frag} {it a : Addr} {xs : List V} : Kd P w K it [a] xs.length (fun H => SqL K H a xs) (fun i x => xs[i]? = some x) (fun i h => h.IsListIter it a i) where
  obj := fun i h ⟨o, e, _, d⟩ => ⟨o, e, fun v z => by rw [d] at z; cases z⟩
  keep := fun i h h' t k => t.at fun o e => k o e
  inn := fun X pins σ s H hP hw hK I q => by
    subst hP hw hK
    obtain ⟨us, rv, p, _⟩ := I.list q
    have l := rv.length
    refine ⟨_, _, by rw [l]; exact inn_list it a us.toArray, p.isList, fun i v e => ?_⟩
    have hi : i < xs.length := by
      have := (Array.getElem?_eq_some_iff.mp e).1
      simp at this
      omega
    obtain ⟨u, hu, ru⟩ := rv.get (List.getElem?_eq_getElem hi)
    have e' : us[i]? = some v := by simpa using e
    rw [hu] at e'
    cases e'
    exact ⟨_, ru, List.getElem?_eq_getElem hi⟩
theorem kd_tup {P : Program} {w : World} {K : Frag} {it a : Addr} {xs : List V} : Kd P w K it [a] xs.length (fun H => SqT K H a xs) (fun i x => xs[i]? = some x) (fun i h => h.IsTupleIter it a i) where
  obj := fun i h ⟨o, e, _, d⟩ => ⟨o, e, fun v z => by rw [d] at z; cases z⟩
  keep := fun i h h' t k => t.at fun o e => k o e
  inn := fun X pins σ s H hP hw hK I q => by
    subst hP hw hK
    obtain ⟨us, rv, p, _⟩ := I.tuple q
    have l := rv.length
    refine ⟨_, _, by rw [l]; exact inn_tup it a us.toArray, p, fun i v e => ?_⟩
    have hi : i < xs.length := by
      have := (Array.getElem?_eq_some_iff.mp e).1
      simp at this
      omega
    obtain ⟨u, hu, ru⟩ := rv.get (List.getElem?_eq_getElem hi)
    have e' : us[i]? = some v := by simpa using e
    rw [hu] at e'
    cases e'
    exact ⟨_, ru, List.getElem?_eq_getElem hi⟩
theorem kd_str {P : Program} {w : World} {K : Frag} {it : Addr} {x : Str} {t : Tok} {ty : String} (hty : ty = "str_ascii_iterator" ∨ ty = "str_iterator") : Kd P w K it [] x.cps.size (fun _ => True) (fun i v => ∃ c, x.cps[i]? = some c ∧ v = .str ⟨#[c]⟩) (fun i h => h.IsStrIter it ty x t i) where
  obj := fun i h ⟨o, e, _, d⟩ => ⟨o, e, fun v z => by rw [d] at z; cases z⟩
  keep := fun i h h' ⟨o, e, r⟩ k => ⟨o, k o e, r⟩
  inn := fun X pins σ s H hP hw hK I q => by
    have J := inn_str (prog := P) (w := w) it x t ty hty
    refine ⟨_, fun _ => True, ⟨fun i h q => J.obj i h q.1, fun i h h' q k => ⟨J.keep i h h' q.1 k, trivial⟩, fun A i s Q E hh hi q hQ => J.item A i s Q E hh hi q.1 fun v h' t' y t1 sb => hQ v h' t' y ⟨t1, trivial⟩ sb, fun A s Q E hh q hE => J.done A s Q E hh q.1 hE⟩, trivial, fun i v ⟨c, u, h1, h2⟩ => ⟨.str ⟨#[c]⟩, ⟨u, h2⟩, c, h1, rfl⟩⟩
theorem turn_zipG {P : Program} {w : World} {K : Frag} {elts : List Expr} {kk : Nat} {tpos : Pos} {n1 n2 : Nat} {V1 V2 : Nat → V → Prop} {t1 t2 : Nat → Heap → Prop} {z TI TO i1 i2 : Addr} {l1 l2 : List Addr} {G1 G2 : Hp → Prop} (D : Zap z TI TO i1 i2 l1 l2)
    (k1 : Kd P w K i1 l1 n1 G1 V1 t1) (k2 : Kd P w K i2 l2 n2 G2 V2 t2) : Turn P w K (.Tuple elts kk tpos) (ItZ (min n1 n2) (fun H => G1 H ∧ G2 H) V1 V2) [z, TI, TO, i1, i2] z
      (fun i h => IsZip h z TI TO .none ∧ IsPair h TI (.ref i1) (.ref i2) ∧ (∃ x y, IsPair h TO x y) ∧ t1 i h ∧ t2 i h) where
  mem := by simp
  obj := fun i h st c hc => by
    obtain ⟨hz, hTI, ⟨x, y, hTO⟩, h1, h2⟩ := st
    simp only [List.mem_cons, List.not_mem_nil, or_false] at hc
    rcases hc with rfl | rfl | rfl | rfl | rfl
    · exact ⟨_, hz, fun v q => nomatch q⟩
    · exact ⟨_, hTI, fun v q => nomatch q⟩
    · exact ⟨_, hTO, fun v q => nomatch q⟩
    · exact k1.obj i h h1
    · exact k2.obj i h h2
  keep := fun i h h' st k => by
    obtain ⟨hz, hTI, ⟨x, y, hTO⟩, h1, h2⟩ := st
    exact ⟨k z (by simp) _ hz, k TI (by simp) _ hTI, ⟨x, y, k TO (by simp) _ hTO⟩, k1.keep i h h' h1 (k i1 (by simp)), k2.keep i h h' h2 (k i2 (by simp))⟩
  item := by
    intro X hP hw hK hc i pins s σ H E I hf st hg
    obtain ⟨hz, hTI, ⟨x0, y0, hTO⟩, h1, h2⟩ := st
    obtain ⟨hi, g1, g2⟩ := hg
    obtain ⟨Y1, s1, J1, q1, r1⟩ := k1.inn X pins σ s H hP hw hK I g1
    obtain ⟨Y2, s2, J2, q2, r2⟩ := k2.inn X pins σ s H hP hw hK I g2
    subst hP hw hK
    have hzl : z < s.heap.objs.size := Heap.lt_size hz
    obtain ⟨⟨nTIz, nTOz, n1z, n2z⟩, ⟨nTOTI, n1TI, n2TI⟩, _, _⟩ := D.ne
    refine next_zipG (I.ok.hd hc) D J1 J2 hz hTI hTO ⟨h1, q1⟩ ⟨h2, q2⟩ (by omega) (by omega) fun h' tk u u2 y1 y2 z' TO' h1' h2' hT hsz hk => ?_
    refine ⟨_, rfl, wpAny_letOwnedTupleGo_zip (s := { s with heap := h', toks := tk }) z' fun h'' z'' sb => ?_⟩
    obtain ⟨x, ru, vx⟩ := r1 i u y1
    obtain ⟨y, ru2, vy⟩ := r2 i u2 y2
    have hT2 : h''.get? s.heap.objs.size = some { cls := .type "tuple", data := .seq #[u, u2] } := (sb.2 _ (Nat.ne_of_gt hzl)).trans hT
    have new : ObjOk X.prog X.w (upd H s.heap.objs.size (.tup [x, y])) h'' s.heap.objs.size (.tup [x, y]) := ⟨by show 2 ≤ sizeLine; decide, [u, u2], .cons ru (.cons ru2 .nil), ⟨_, hT2, rfl, _, rfl⟩⟩
    have I1 : Inv X pins σ (upd H s.heap.objs.size (.tup [x, y])) { s with heap := h'', toks := tk } :=
      I.turnedNew (t' := tk) (ch := [z, TI, TO, i1, i2]) (fun c o hb q => (sb.2 c (fun q' => hb (by simp [q']))).trans (hk c o (fun q' => hb (by simp [q'])) (fun q' => hb (by simp [q'])) (fun q' => hb (by simp [q'])) (fun q' => hb (by simp [q'])) q)) hf (Nat.le_refl _) new
    refine ⟨.ref s.heap.objs.size, _, I1, rfl, ⟨_, x, y, rfl, I.hok.fresh (Nat.le_refl _), rfl, vx, vy⟩, ⟨z'', ?_, ⟨u, u2, ?_⟩, ?_, ?_⟩, fun c hcm => ?_⟩
    · exact (sb.2 _ nTIz).trans (hk _ _ nTIz nTOTI.symm n1TI.symm n2TI.symm hTI)
    · exact (sb.2 _ nTOz).trans TO'
    · exact k1.keep _ _ _ h1'.1 fun o q => (sb.2 _ n1z).trans q
    · exact k2.keep _ _ _ h2'.1 fun o q => (sb.2 _ n2z).trans q
    · have hlt : c < s.heap.objs.size := by
        simp only [List.mem_cons, List.not_mem_nil, or_false] at hcm
        rcases hcm with rfl | rfl | rfl | rfl | rfl
        · exact hzl
        · exact Heap.lt_size hTI
        · exact Heap.lt_size hTO
        · obtain ⟨_, e1, _⟩ := k1.obj _ _ h1; exact Heap.lt_size e1
        · obtain ⟨_, e2, _⟩ := k2.obj _ _ h2; exact Heap.lt_size e2
      rw [upd_ne (Nat.ne_of_lt hlt)]
      exact (hf c hcm).1
  done := by
    intro X hP hw hK hc i pins s σ H E I hf st hg
    obtain ⟨hz, hTI, ⟨x0, y0, hTO⟩, h1, h2⟩ := st
    obtain ⟨hi, g1, g2⟩ := hg
    obtain ⟨Y1, s1, J1, q1, r1⟩ := k1.inn X pins σ s H hP hw hK I g1
    obtain ⟨Y2, s2, J2, q2, r2⟩ := k2.inn X pins σ s H hP hw hK I g2
    subst hP hw hK
    exact next_zipG_end (I.ok.hd hc) D J1 J2 hz hTI hTO ⟨h1, q1⟩ ⟨h2, q2⟩ hi fun h' tk hk => ⟨rfl, I.turnedL (t' := tk) (ch := [z, TI, TO, i1, i2]) (fun c o hb q => hk c o (fun q' => hb (by simp [q'])) (fun q' => hb (by simp [q'])) (fun q' => hb (by simp [q'])) (fun q' => hb (by simp [q'])) q) hf⟩
  self := fun A i s Q E st h => wpAny_pyIter_zip st.1 h
section
variable {X : Cx} {W : WX}
/-- a value that may stand in a zip: its walk's parts -/
structure Zp (X : Cx) (Z : Hp) (x : V) (ds : List D) : Prop where
  ex : ∀ (v : Value) (s : Shared) (pins : List (Addr × Obj)) (σ : L2.St) (H : Hp), RelV x v → Inv X pins σ H s → Same Z H → ∃ (o : Obj) (P : Heap → Prop) (G : Hp → Prop) (V1 : Nat → V → Prop) (ls : List Addr) (at1 : Addr → Nat → Heap → Prop), GivesIt v o P ∧ (∀ h o, P h → P (h.push o)) ∧ P s.heap ∧ o.isFreed = false ∧
    (∀ H', Same Z H' → G H') ∧ (∀ b ∈ ls, b < s.heap.objs.size) ∧ (∀ it, Kd X.prog X.w X.K it ls ds.length G V1 (at1 it)) ∧ (∀ it h, h.get? it = some o → at1 it 0 h) ∧
    ∀ i y, i < ds.length → V1 i y → ∃ d, ds[i]? = some d ∧ Dq X.K Z y d
theorem zp_of {Z : Hp} {x : V} {d : D} {ds : List D} (h : Dq X.K Z x d) (hi : iD d = some ds) : Zp X Z x ds := by
  refine ⟨fun v s pins σ H r I sz => ?_⟩
  cases h with
  | @lst a xs es q al =>
    cases hi
    cases r
    obtain ⟨us, rv, p, _⟩ := I.list (a := a) (xs := xs) (.inl (.inl (sz _ _ q)))
    refine ⟨_, fun h => h.IsList a us.toArray, fun H => SqL X.K H a xs, fun i x => xs[i]? = some x, [a], fun it i h => h.IsListIter it a i, fun _ _ _ _ _ _ => wpAny_pyIter_list, fun h o q => Heap.IsList.push q o, p.isList, rfl, fun H' s' => .inl (.inl (s' _ _ q)), fun b hb => ?_, fun it => ?_, fun it h e => ⟨_, e, rfl, rfl⟩, fun i y hi hy => ?_⟩
    · have e : b = a := by simpa using hb
      subst e
      exact p.lt
    · rw [← dpa_len al]
      exact kd_list
    · exact dpa_get' al hy
  | @tup a xs es q al =>
    cases hi
    cases r
    obtain ⟨us, rv, p, _⟩ := I.tuple (a := a) (xs := xs) (same_tup sz q)
    refine ⟨_, fun h => h.IsTuple a us.toArray, fun H => SqT X.K H a xs, fun i x => xs[i]? = some x, [a], fun it i h => h.IsTupleIter it a i, fun _ _ _ _ _ _ => wpAny_pyIter_tuple, fun h o ⟨o1, e, c⟩ => ⟨o1, Heap.get?_push_of_some _ e, c⟩, p, rfl, fun H' s' => same_tup s' q, fun b hb => ?_, fun it => ?_, fun it h e => ⟨_, e, rfl, rfl⟩, fun i y hi hy => ?_⟩
    · have e : b = a := by simpa using hb
      subst e
      exact p.lt
    · rw [← dpa_len al]
      exact kd_tup
    · exact dpa_get' al hy
  | str z =>
    cases hi
    obtain ⟨t, rfl⟩ := r
    have hl : (z.cps.toList.map fun c => PyData.str ⟨#[c]⟩).length = z.cps.size := by simp
    have fin : ∀ i y, i < (z.cps.toList.map fun c => PyData.str ⟨#[c]⟩).length → (∃ c, z.cps[i]? = some c ∧ y = V.str ⟨#[c]⟩) → ∃ d, (z.cps.toList.map fun c => PyData.str ⟨#[c]⟩)[i]? = some d ∧ Dq X.K Z y d := fun i y _ ⟨c, hc, e⟩ => by
      subst e
      refine ⟨.str ⟨#[c]⟩, ?_, .str _⟩
      rw [List.getElem?_map, Array.getElem?_toList, hc]
      rfl
    cases ha : z.cps.all (· < 128)
    · exact ⟨_, fun _ => True, fun _ => True, _, [], fun it i h => h.IsStrIter it "str_iterator" z t i, fun _ _ _ _ _ _ _ => wpAny_pyIter_wide ha, fun _ _ _ => trivial, trivial, rfl, fun _ _ => trivial, fun b hb => by simp at hb, fun it => by rw [hl]; exact kd_str (.inr rfl), fun it h e => ⟨_, e, rfl, rfl⟩, fin⟩
    · exact ⟨_, fun _ => True, fun _ => True, _, [], fun it i h => h.IsStrIter it "str_ascii_iterator" z t i, fun _ _ _ _ _ _ _ => wpAny_pyIter_ascii ha, fun _ _ _ => trivial, trivial, rfl, fun _ _ => trivial, fun b hb => by simp at hb, fun it => by rw [hl]; exact kd_str (.inl rfl), fun it h e => ⟨_, e, rfl, rfl⟩, fin⟩
  | non => cases hi
  | bl _ => cases hi
  | int _ => cases hi
def zipD : List D → List D → List D
  | a :: as, b :: bs => .tuple [a, b] :: zipD as bs
  | _, _ => []
theorem zipD_len : ∀ as bs : List D, (zipD as bs).length = min as.length bs.length
  | [], _ => by simp [zipD]
  | _ :: _, [] => by simp [zipD]
  | _ :: as, _ :: bs => by simp [zipD, zipD_len as bs]
theorem zipD_get : ∀ (as bs : List D) (i : Nat) (a b : D), as[i]? = some a → bs[i]? = some b → (zipD as bs)[i]? = some (.tuple [a, b])
  | [], _, _, _, _, h, _ => by simp at h
  | _ :: _, [], _, _, _, _, h => by simp at h
  | _ :: _, _ :: _, 0, _, _, h, h' => by cases h; cases h'; rfl
  | _ :: as, _ :: bs, i + 1, a, b, h, h' => zipD_get as bs i a b (by simpa using h) (by simpa using h')
def gZip : List D → Option (List D)
  | [a, b] => match iD a, iD b with
    | some as, some bs => some (zipD as bs)
    | _, _ => none
  | _ => none
theorem gZip_of {ds xs : List D} (h : gZip ds = some xs) : ∃ a b as bs, ds = [a, b] ∧ iD a = some as ∧ iD b = some bs ∧ xs = zipD as bs := by
  unfold gZip at h
  split at h
  · split at h
    · rename_i h1 h2
      cases h
      exact ⟨_, _, _, _, rfl, h1, h2, rfl⟩
    · cases h
  · cases h
theorem si_zip {a b : Expr} {q : XA} {p pos tpos : Pos} {elts : List Expr} {kk : Nat} (hg : Gl X "zip") (hm : X.mg "zip" = none) (ha : SA X W [a, b] q)
    (hs : starEach [a, b] X.env = (false, eval a X.env) :: starEach [b] X.env := by rfl) (hpl : (backTo pos (starEach [b] X.env)).any (·.1) = false := by rfl) : SI X W (.Tuple elts kk tpos) (.Call (.Name "zip" p) [a, b] [] pos) (iArgs gZip q) := by
  refine ⟨fun pins s σ H R I ⟨B, e, Z, R0, hq⟩ => ?_⟩
  have h1 : RA X.K X.mg W q σ H fun vs H1 => ∃ v w as bs, vs = [v, w] ∧ ∃ Z1, Same Z1 H1 ∧ Zp X Z1 v as ∧ Zp X Z1 w bs ∧ ∀ J, Wk X.K Z1 J (zipD as bs) → R J H1 := by
    refine rg_bind R0 hq fun v1 Z1 e1 d1 H1 s1 R1 D1 h1 => ?_
    obtain ⟨ds, e2, h2⟩ := pgi_lift h1
    obtain ⟨a', b', as, bs, rfl, ia, ib, rfl⟩ := gZip_of e2
    obtain ⟨v, w, rfl, da, db⟩ := dpa_2 D1
    exact ⟨v, w, as, bs, rfl, Z1, R1.sub, zp_of da ia, zp_of db ib, fun J w => h2 J Z1 H1 (Same.refl _) R1 w⟩
  refine Call_ (ld_blt I hg hm PyProof.Rows.boot_zip (PyProof.Rows.callWith_type1 (thn (ha.run pos pins s σ H _ I h1) fun us s1 ⟨vs, H1, I1, r1, q1⟩ => ?_) hs hpl))
  obtain ⟨v, w, as, bs, rfl, Z1, sz, zv, zw, fin⟩ := q1
  cases r1 with
  | cons ra rr =>
    cases rr with
    | cons rb rr =>
      cases rr
      obtain ⟨o1, P1, G1, V1, l1, at1, g1, k1, p1, nf1, gg1, lt1, kd1, i01, y1⟩ := zv.ex _ s1 pins σ H1 ra I1 sz
      obtain ⟨o2, P2, G2, V2, l2, at2, g2, k2, p2, nf2, gg2, lt2, kd2, i02, y2⟩ := zw.ex _ s1 pins σ H1 rb I1 sz
      refine call_zipG k2 g1 g2 p1 p2 nf1 nf2 fun h' hz hTI hTO h1 h2 hsz hk => wpAny_pyIter_zip hz ?_
      have I2 : Inv X pins σ H1 { s1 with heap := h' } := I1.kept (t' := s1.toks) hk
      have ap : Zap (s1.heap.objs.size + 4) (s1.heap.objs.size + 2) (s1.heap.objs.size + 3) s1.heap.objs.size (s1.heap.objs.size + 1) l1 l2 := by
        refine ⟨?_, fun b hb hm => ?_, fun b hb hm => ?_⟩
        · simp
        · have lt := lt1 b hb
          simp only [List.mem_cons, List.not_mem_nil, or_false] at hm
          rcases hm with rfl | rfl | rfl | rfl | rfl <;> first | exact Nat.not_lt.mpr (Nat.le_add_right _ _) lt | exact Nat.lt_irrefl _ lt
        · have lt := lt2 b hb
          simp only [List.mem_cons, List.not_mem_nil, or_false] at hm
          rcases hm with rfl | rfl | rfl | rfl | rfl <;> first | exact Nat.not_lt.mpr (Nat.le_add_right _ _) lt | exact Nat.lt_irrefl _ lt
      refine ⟨s1.heap.objs.size + 4, [s1.heap.objs.size + 4, s1.heap.objs.size + 2, s1.heap.objs.size + 3, s1.heap.objs.size, s1.heap.objs.size + 1], _, _, H1, rfl, I2, turn_zipG ap (kd1 _) (kd2 _), ⟨hz, hTI, ⟨_, _, hTO⟩, i01 _ _ h1, i02 _ _ h2⟩, fun c hcm => ?_, fin _ ?_⟩
      · simp only [List.mem_cons, List.not_mem_nil, or_false] at hcm
        have hle : s1.heap.objs.size ≤ c := by
          rcases hcm with rfl | rfl | rfl | rfl | rfl <;> first | exact Nat.le_add_right _ _ | exact Nat.le_refl _
        exact I1.fpOk hle (I1.hok.fresh hle)
      · refine ⟨fun i H hi s => ⟨by rw [zipD_len] at hi; exact hi, gg1 H s, gg2 H s⟩, fun H s => ⟨zipD_len as bs, gg1 H s, gg2 H s⟩, fun i H x H' B e σ Z2 hi s R hy => ?_⟩
        obtain ⟨T, x, y, rfl, nT, rfl, vx, vy⟩ := hy
        rw [zipD_len] at hi
        obtain ⟨d1, e1, D1⟩ := y1 i x (by omega) vx
        obtain ⟨d2, e2, D2⟩ := y2 i y (by omega) vy
        obtain ⟨R2, s2⟩ := R.new (o := .tup [x, y]) nT
        exact ⟨_, _, s2, R2, zipD_get as bs i d1 d2 e1 e2, .tup (.inl (.inl upd_same)) (.cons (dp_mono (s.trans s2) D1) (.cons (dp_mono (s.trans s2) D2) .nil))⟩
end
end G
set_option Elab.async false
set_option linter.all false
set_option maxRecDepth 100000
namespace G
open PySem PySem.Spec PyProof.Rows L2
section
variable {X : Cx} {W : WX} {pos : Pos}
theorem okC_or {K : Frag} {r r' : List V → Hp → VK → Prop} {g g' : List D → Option D} (h : OkC K r g) (h' : OkC K r' g') : OkC K (fun xs H Q => r xs H Q ∨ r' xs H Q) (fun a => (g a).orElse fun _ => g' a) := by
  intro Z H xs ds d Q s D1 e k
  dsimp only at e
  cases hg : g ds with
  | some a =>
    rw [hg] at e
    cases e
    exact .inl (h Z H xs ds _ Q s D1 hg k)
  | none =>
    rw [hg] at e
    exact .inr (h' Z H xs ds d Q s D1 e k)
/-! ### len -/
def dLen : List D → Option D
  | [.list xs] => some (.int xs.length)
  | [.tuple xs] => some (.int xs.length)
  | [.str z] => if z.length ≤ sizeLine then some (.int z.length) else none
  | _ => none
theorem ok_len {K : Frag} : OkC K (fun xs H Q => (∃ p ys, xs = [.ref p] ∧ (SqL K H p ys ∨ SqT K H p ys) ∧ Q (.int ys.length) H) ∨ (∃ z, xs = [.str z] ∧ z.length ≤ sizeLine ∧ Q (.int z.length) H)) dLen := by
  intro Z H xs ds d Q s D1 e k
  unfold dLen at e
  split at e
  · cases e
    obtain ⟨v, rfl, hv⟩ := dpa_1 D1
    obtain ⟨a, ws, rfl, h1, h2⟩ := dp_list hv
    exact .inl ⟨a, ws, rfl, .inl (.inl (.inl (s _ _ h1))), k _ Z H (Nw.refl s) (by rw [dpa_len h2]; exact .int _)⟩
  · cases e
    obtain ⟨v, rfl, hv⟩ := dpa_1 D1
    obtain ⟨a, ws, rfl, h1, h2⟩ := dp_tuple hv
    exact .inl ⟨a, ws, rfl, .inr (same_tup s h1), k _ Z H (Nw.refl s) (by rw [dpa_len h2]; exact .int _)⟩
  · split at e
    · cases e
      obtain ⟨v, rfl, hv⟩ := dpa_1 D1
      cases dp_str hv
      exact .inr ⟨_, rfl, by assumption, k _ Z H (Nw.refl s) (.int _)⟩
    · cases e
  · cases e
theorem se_len {a : Expr} {q : XA} {p : Pos} (hg : Gl X "len") (hm : X.mg "len" = none) (ha : SA X W [a] q) (he : starEach [a] X.env = (false, eval a X.env) :: starEach [] X.env := by rfl) (hpl : (backTo pos (starEach [] X.env)).any (·.1) = false := by rfl) : SE X W (.Call (.Name "len" p) [a] [] pos) (eCall dLen q) :=
  se_tCB ok_len (pe_callB (.or call_len_seq call_len_str) hg hm PySem.boot_len ha (by decide) (by decide) he hpl)
/-- len(xs), xs a name's own list -/
def eLenOwn (i : Nat) : XE := fun e => match e[i]? with
  | some (.own _ (.lst xs)) => .ok (.int xs.length) e
  | _ => .bad
theorem se_lenOwn {i : Nat} {x : Str} {px p : Pos} (hg : Gl X "len") (hm : X.mg "len" = none) (ha : PE X (.Name x px) (tVar i)) (he : starEach [.Name x px] X.env = (false, eval (.Name x px) X.env) :: starEach [] X.env := by rfl) (hpl : (backTo pos (starEach [] X.env)).any (·.1) = false := by rfl) : SE X W (.Call (.Name "len" p) [.Name x px] [] pos) (eLenOwn i) := by
  refine PE.imp (pe_callB call_len_seq hg hm PySem.boot_len (pa_cons ha pa_nil he) (by decide) (by decide) he hpl) fun σ H Q ⟨B, e, Z, R0, hq⟩ => ?_
  unfold eLenOwn at hq
  split at hq
  · rename_i t xs he
    obtain ⟨a, u, h1, h2, h3, ⟨vs, rfl, h4⟩, _⟩ := R0.own he
    refine ⟨_, h1, a, vs, rfl, .inl (.inl (.inl h2)), ?_⟩
    rw [dpa_len h4]
    exact hq _ Z H (Same.refl _) R0 (.int _)
  · exact hq.elim
/-! ### tuple(..), list(..) -/
def dTuple : List D → Option D
  | [.list xs] => some (.tuple xs)
  | [.tuple xs] => some (.tuple xs)
  | _ => none
theorem ok_tuple {K : Frag} : OkC K (fun xs H Q => ∃ p ys, xs = [.ref p] ∧ ((SqL K H p ys ∧ ∀ l, H l = none → Q (.ref l) (upd H l (.tup ys))) ∨ (SqT K H p ys ∧ Q (.ref p) H))) dTuple := by
  intro Z H xs ds d Q s D1 e k
  unfold dTuple at e
  split at e
  · cases e
    obtain ⟨v, rfl, hv⟩ := dpa_1 D1
    obtain ⟨a, ws, rfl, h1, h2⟩ := dp_list hv
    refine ⟨a, ws, rfl, .inl ⟨.inl (.inl (s _ _ h1)), fun l hl => ?_⟩⟩
    have n := Nw.new (o := .tup ws) s hl
    exact k _ _ _ n (.tup (.inl (.inl upd_same)) (dpa_mono n.z h2))
  · cases e
    obtain ⟨v, rfl, hv⟩ := dpa_1 D1
    obtain ⟨a, ws, rfl, h1, h2⟩ := dp_tuple hv
    exact ⟨a, ws, rfl, .inr ⟨same_tup s h1, k _ Z H (Nw.refl s) (.tup h1 h2)⟩⟩
  · cases e
theorem se_tuple {a : Expr} {q : XA} {p : Pos} (hg : Gl X "tuple") (hm : X.mg "tuple" = none) (ha : SA X W [a] q) (he : starEach [a] X.env = (false, eval a X.env) :: starEach [] X.env := by rfl) (hpl : (backTo pos (starEach [] X.env)).any (·.1) = false := by rfl) : SE X W (.Call (.Name "tuple" p) [a] [] pos) (eCall dTuple q) :=
  se_tCB ok_tuple (pe_callTy call_tuple_of hg hm (by decide +kernel) ha (by decide) (by decide) he hpl)
def lD : List D → Option (List D)
  | [.list xs] => some xs
  | [.tuple xs] => some xs
  | _ => none
def nCall (g : List D → Option (List D)) (q : XA) : XI := fun e => (q e).bind fun ds e1 => R.lift (g ds) e1
theorem pgf_lift {B : Bs} {σ : L2.St} {Z : Hp} {e : En} {o : Option (List D)} {Q : VK} (h : PgF X.K X.mg W B σ Z (R.lift o e) Q) : ∃ ds, o = some ds ∧ PgF X.K X.mg W B σ Z (R.ok ds e) Q := by
  cases o with
  | none => exact h.elim
  | some ds => exact ⟨ds, rfl, h⟩
theorem sn_list {a : Expr} {q : XA} {p : Pos} (hg : Gl X "list") (hm : X.mg "list" = none) (ha : SA X W [a] q) (he : starEach [a] X.env = (false, eval a X.env) :: starEach [] X.env := by rfl) (hpl : (backTo pos (starEach [] X.env)).any (·.1) = false := by rfl) : SN X W (.Call (.Name "list" p) [a] [] pos) (nCall lD q) := by
  refine PE.imp (pe_callTy call_list_of hg hm (by decide +kernel) ha (by decide) (by decide) he hpl) fun σ H Q ⟨B, e, Z, R0, hq⟩ => ?_
  refine rn_bind R0 hq fun v1 Z1 e1 d1 H1 s1 R1 D1 h1 => ?_
  obtain ⟨ds, e2, h2⟩ := pgf_lift h1
  unfold lD at e2
  split at e2
  · cases e2
    obtain ⟨v, rfl, hv⟩ := dpa_1 D1
    obtain ⟨a, ws, rfl, g1, g2⟩ := dp_list hv
    exact ⟨a, ws, rfl, .inl (.inl (.inl (R1.sub _ _ g1))), pgf_new R1 g2 h2⟩
  · cases e2
    obtain ⟨v, rfl, hv⟩ := dpa_1 D1
    obtain ⟨a, ws, rfl, g1, g2⟩ := dp_tuple hv
    exact ⟨a, ws, rfl, .inr (same_tup R1.sub g1), pgf_new R1 g2 h2⟩
  · cases e2
/-- list(range(n)) -/
def nRange1 (p : XE) : XI := fun e => (p e).bind fun d e1 => match d with
  | .int n => if 0 ≤ n ∧ n ≤ 16777216 then .ok (rgD 0 n) e1 else .bad
  | _ => .bad
theorem dpa_rg {K : Frag} {Z : Hp} {a b : Int} : DqAll K Z (rgV a b) (rgD a b) := by
  unfold rgV rgD
  induction List.range (b - a).toNat with
  | nil => exact .nil
  | cons x xs ih => exact .cons (.int _) ih
theorem sn_listRange {a : Expr} {q : XE} {p p2 pos2 : Pos} (hc : X.calm = true) (hg : Gl X "list") (hm : X.mg "list" = none) (hg2 : Gl X "range") (hm2 : X.mg "range" = none) (ha : SE X W a q)
    (na : starEach [a] X.env = (false, eval a X.env) :: starEach [] X.env := by rfl) (na2 : starEach [.Call (.Name "range" p2) [a] [] pos2] X.env = (false, eval (.Call (.Name "range" p2) [a] [] pos2) X.env) :: starEach [] X.env := by rfl) :
    SN X W (.Call (.Name "list" p) [.Call (.Name "range" p2) [a] [] pos2] [] pos) (nRange1 q) := by
  refine PE.imp (pe_listRg hc hg hm (prg_1 hg2 hm2 ha na) na2) fun σ H Q ⟨B, e, Z, R0, hq⟩ => ?_
  refine rn_bind R0 hq fun v1 Z1 e1 d1 H1 s1 R1 D1 h1 => ?_
  cases D1 with
  | int n =>
    simp only at h1
    split at h1
    · rename_i hn
      exact ⟨n, rfl, RgOk.of_le (by omega) hn.2 (by omega) hn.1, pgf_new R1 dpa_rg h1⟩
    · exact h1.elim
  | non => exact h1.elim
  | bl _ => exact h1.elim
  | str _ => exact h1.elim
  | lst _ _ => exact h1.elim
  | tup _ _ => exact h1.elim
/-! ### sum -/
def intsD : List D → Option (List Int)
  | [] => some []
  | .int i :: r => (intsD r).map (i :: ·)
  | _ => none
theorem dpa_ints {K : Frag} {Z : Hp} : ∀ {vs : List V} {ds : List D} {ns : List Int}, DqAll K Z vs ds → intsD ds = some ns → vs = ns.map V.int
  | _, _, _, .nil, h => by cases h; rfl
  | _, _, ns, .cons a b, h => by
    cases a with
    | int i =>
      unfold intsD at h
      cases hr : intsD _ with
      | none => rw [hr] at h; cases h
      | some r =>
        rw [hr] at h
        cases h
        rw [dpa_ints b hr]
        rfl
    | non => cases h
    | bl _ => cases h
    | str _ => cases h
    | lst _ _ => cases h
    | tup _ _ => cases h
def dSum : List D → Option D
  | [.list xs] => (intsD xs).map fun ns => .int ns.sum
  | _ => none
theorem ok_sum {K : Frag} : OkC K (rSum K) dSum := by
  intro Z H xs ds d Q s D1 e k
  unfold dSum at e
  split at e
  · rename_i ys
    obtain ⟨v, rfl, hv⟩ := dpa_1 D1
    obtain ⟨a, ws, rfl, h1, h2⟩ := dp_list hv
    cases hi : intsD ys with
    | none => rw [hi] at e; cases e
    | some ns =>
      rw [hi] at e
      cases e
      refine ⟨a, ns, rfl, .inl (.inl ?_), k _ Z H (Nw.refl s) (.int _)⟩
      rw [← dpa_ints h2 hi]
      exact s _ _ h1
  · cases e
theorem se_sum {a : Expr} {q : XA} {p : Pos} (hc : X.calm = true) (hg : Gl X "sum") (hm : X.mg "sum" = none) (ha : SA X W [a] q) (he : starEach [a] X.env = (false, eval a X.env) :: starEach [] X.env := by rfl) (hpl : (backTo pos (starEach [] X.env)).any (·.1) = false := by rfl) : SE X W (.Call (.Name "sum" p) [a] [] pos) (eCall dSum q) :=
  se_tCB ok_sum (pe_callB (cr_sum hc) hg hm (by decide +kernel) ha (by decide) (by decide) he hpl)
/-! ### isinstance of data -/
def tyN : D → String
  | .none => "NoneType"
  | .bool _ => "bool"
  | .int _ => "int"
  | .str _ => "str"
  | .list _ => "list"
  | .tuple _ => "tuple"
  | .dict _ => "dict"
theorem dq_ty {K : Frag} {Z H : Hp} {v : V} {d : D} (s : Same Z H) (h : Dq K Z v d) : TyX K H v (.type (tyN d)) := by
  cases h with
  | non => exact .base .non
  | bl b => exact .base (.bl b)
  | int i => exact .base (.int i)
  | str x => exact .base (.str x)
  | lst q a => exact .base (.lst (s _ _ q))
  | tup q a =>
    rcases q with q | ⟨o, its, n, h1, h2, _⟩
    · rcases q with q | ⟨o, q⟩
      · exact .base (.tup (s _ _ q))
      · exact .fTuple (s _ _ q)
    · exact .kTuple h1 h2
def eIsi (T : String) (p : XE) : XE := fun e => (p e).bind fun d e1 => R.lift ((kitB (tyN d) T).map .bool) e1
theorem se_isi {a : Expr} {T : String} {Ts : Str} {p : XE} {p1 p2 : Pos} (hg : Gl X "isinstance") (hm : X.mg "isinstance" = none) (ha : SE X W a p) (hT : PE X (.Name Ts p2) (tC (.ty T)))
    (he : starEach [a, .Name Ts p2] X.env = (false, eval a X.env) :: starEach [.Name Ts p2] X.env := by rfl) (he2 : starEach [.Name Ts p2] X.env = (false, eval (.Name Ts p2) X.env) :: starEach [] X.env := by rfl) (hpl : (backTo pos (starEach [.Name Ts p2] X.env)).any (·.1) = false := by rfl) :
    SE X W (.Call (.Name "isinstance" p1) [a, .Name Ts p2] [] pos) (eIsi T p) := by
  refine PE.imp (pe_callB call_isi hg hm (by decide +kernel) (pa_cons ha (pa_cons hT pa_nil he2) he) (by decide) (by decide) he hpl) fun σ H Q ⟨B, e, Z, R0, hq⟩ => ?_
  refine rg_bind R0 hq fun v1 Z1 e1 d1 H1 s1 R1 D1 h1 => ?_
  obtain ⟨d, ed, k⟩ := pg_lift R1 h1
  cases hk : kitB (tyN d1) T with
  | none => rw [hk] at ed; cases ed
  | some b =>
    rw [hk] at ed
    cases ed
    exact ⟨v1, _, _, _, b, rfl, .ty T, dq_ty R1.sub D1, kit_ty hk, k _ Z1 H1 (Nw.refl R1.sub) (.bl b)⟩
/-! ### texts -/
def strsD : List D → Option (List Str)
  | [] => some []
  | .str i :: r => (strsD r).map (i :: ·)
  | _ => none
theorem dpa_strs {K : Frag} {Z : Hp} : ∀ {vs : List V} {ds : List D} {ns : List Str}, DqAll K Z vs ds → strsD ds = some ns → vs = ns.map V.str
  | _, _, _, .nil, h => by cases h; rfl
  | _, _, ns, .cons a b, h => by
    cases a with
    | str i =>
      unfold strsD at h
      cases hr : strsD _ with
      | none => rw [hr] at h; cases h
      | some r =>
        rw [hr] at h
        cases h
        rw [dpa_strs b hr]
        rfl
    | non => cases h
    | bl _ => cases h
    | int _ => cases h
    | lst _ _ => cases h
    | tup _ _ => cases h
def dJoin : D → List D → Option D
  | .str a, [.list xs] => match strsD xs with
    | some ys => if (ys.map (·.length)).sum + ys.length * a.length ≤ 16777216 then some (.str (Txt.join a ys)) else none
    | none => none
  | _, _ => none
theorem ok_join {K : Frag} : OkM K (fun x xs H Q => ∃ a p, ∃ ys : List Str, x = .str a ∧ xs = [.ref p] ∧ (SqL K H p (ys.map V.str) ∨ SqT K H p (ys.map V.str)) ∧ (ys.map (·.length)).sum + ys.length * a.length ≤ 16777216 ∧ Q (.str (Txt.join a ys)) H) dJoin := by
  intro Z H x xs c ds d Q s D1 D2 e k
  unfold dJoin at e
  split at e
  · rename_i a ys
    cases hs : strsD ys with
    | none => rw [hs] at e; cases e
    | some zs =>
      rw [hs] at e
      simp only at e
      split at e
      · cases e
        cases dp_str D1
        obtain ⟨v, rfl, hv⟩ := dpa_1 D2
        obtain ⟨b, ws, rfl, h1, h2⟩ := dp_list hv
        exact ⟨a, b, zs, rfl, rfl, .inl (.inl (.inl (by rw [← dpa_strs h2 hs]; exact s _ _ h1))), by assumption, k _ Z H (Nw.refl s) (.str _)⟩
      · cases e
  · cases e
section
variable {o a : Expr} {ap : Pos} {p : XE} {q : XA}
theorem se_join (ho : SE X W o p) (ha : SA X W [a] q) (hbase : attributeBase o "join" X.env (eval o X.env) = eval o X.env := by rfl)
    (hfew : ((backTo pos (starEach [a] X.env)).all (fun x => !x.1) && (backToKw pos (keywordEach [] X.env)).all (fun x => x.1.isSome)
      && decide ([a].length + ([] : List Keyword).length + (if ([] : List Keyword).isEmpty then 0 else 1) < 30)) = true := by rfl)
    (hline : (ap.endLine == pos.line) = true := by rfl) (hs : starEach [a] X.env = (false, eval a X.env) :: starEach [] X.env := by rfl) (hplain : (backTo pos (starEach [] X.env)).any (·.1) = false := by rfl) :
    SE X W (.Call (.Attribute o "join" ap) [a] [] pos) (eMeth isStr dJoin p q) :=
  se_tBM tyD_str ok_join (pe_bm PySem.F.plainAttrs_str PySem.F.slot_str_join PySem.F.type_str_join mt_join ho ha hbase hfew hline hs hplain)
def dCount : D → List D → Option D
  | .str a, [.str b] => some (.int (Txt.count a b))
  | _, _ => none
theorem ok_count {K : Frag} : OkM K (fun x xs H Q => ∃ a b, x = .str a ∧ xs = [.str b] ∧ Q (.int (Txt.count a b)) H) dCount := by
  intro Z H x xs c ds d Q s D1 D2 e k
  unfold dCount at e
  split at e
  · cases e
    cases dp_str D1
    obtain ⟨v, rfl, hv⟩ := dpa_1 D2
    cases dp_str hv
    exact ⟨_, _, rfl, rfl, k _ Z H (Nw.refl s) (.int _)⟩
  · cases e
theorem se_count (ho : SE X W o p) (ha : SA X W [a] q) (hbase : attributeBase o "count" X.env (eval o X.env) = eval o X.env := by rfl)
    (hfew : ((backTo pos (starEach [a] X.env)).all (fun x => !x.1) && (backToKw pos (keywordEach [] X.env)).all (fun x => x.1.isSome)
      && decide ([a].length + ([] : List Keyword).length + (if ([] : List Keyword).isEmpty then 0 else 1) < 30)) = true := by rfl)
    (hline : (ap.endLine == pos.line) = true := by rfl) (hs : starEach [a] X.env = (false, eval a X.env) :: starEach [] X.env := by rfl) (hplain : (backTo pos (starEach [] X.env)).any (·.1) = false := by rfl) :
    SE X W (.Call (.Attribute o "count" ap) [a] [] pos) (eMeth isStr dCount p q) :=
  se_tBM tyD_str ok_count (pe_bm PySem.F.plainAttrs_str PySem.F.slot_str_count PySem.F.type_str_count mt_count ho ha hbase hfew hline hs hplain)
end
/-! ### slices -/
def cutD (xs : List D) (lo hi : Option Int) : List D := (xs.drop (HT.sIx xs.length 0 lo)).take (HT.sIx xs.length xs.length hi - HT.sIx xs.length 0 lo)
theorem dpa_cut {K : Frag} {Z : Hp} {vs : List V} {ds : List D} {lo hi : Option Int} (h : DqAll K Z vs ds) : DqAll K Z (cutV vs lo hi) (cutD ds lo hi) := by
  unfold cutV cutD
  rw [dpa_len h]
  exact dpa_take _ (dpa_drop _ h)
/-- xs[lo:hi] of the list that came from outside -/
def nSlScr (i : Nat) (l h : XO) : XI := fun e => match e[i]? with
  | some (.scr xs) => (l e).bind fun lo e1 => (h e1).bind fun hi e2 => .ok (cutD xs lo hi) e2
  | _ => .bad
theorem sn_slScr {i : Nat} {x : Str} {px p2 : Pos} {lo hi : Option Expr} {l u : XO} (ha : PE X (.Name x px) (tVar i)) (hl : SO X W lo l) (hu : SO X W hi u) : SN X W (.Subscript (.Name x px) (.Slice lo hi none p2) pos) (nSlScr i l u) := by
  refine PE.imp (pe_slice sl_list ha hl hu) fun σ H Q ⟨B, e, Z, R0, hq⟩ => ?_
  unfold nSlScr at hq
  split at hq
  · rename_i ds he
    obtain ⟨a, vs, h1, h2, h3⟩ := R0.scr he
    refine ⟨_, h1, ?_⟩
    refine rn_bind R0 hq fun v1 Z1 e1 d1 H1 s1 R1 D1 g1 => ?_
    refine rn_bind R1 g1 fun v2 Z2 e2 d2 H2 s2 R2 D2 g2 => ?_
    subst D1
    subst D2
    exact ⟨a, vs, rfl, Same.seq ((s1.trans s2).trans R2.sub) h2, pgf_new R2 (dpa_cut (dpa_mono (s1.trans s2) h3)) g2⟩
  · exact hq.elim
end
end G
set_option Elab.async false
set_option linter.all false
set_option maxRecDepth 100000
/-! how the functions over data run, for simp -/
namespace G
open PySem PySem.Spec PyProof.Rows L2
@[simp] theorem dAdd_int (i j : Int) : dAdd (.int i) (.int j) = some (.int (i + j)) := rfl
@[simp] theorem dAdd_str (a b : Str) : dAdd (.str a) (.str b) = if a.length + b.length ≤ sizeLine then some (.str (a ++ b)) else none := by
  unfold dAdd dI dAddS dAddL dAddT; by_cases h : a.length + b.length ≤ sizeLine <;> simp [h]
@[simp] theorem dAdd_list (a b : List D) : dAdd (.list a) (.list b) = if a.length + b.length ≤ sizeLine then some (.list (a ++ b)) else none := by
  unfold dAdd dI dAddS dAddL dAddT; by_cases h : a.length + b.length ≤ sizeLine <;> simp [h]
@[simp] theorem dAdd_tuple (a b : List D) : dAdd (.tuple a) (.tuple b) = if a ≠ [] ∧ a.length + b.length ≤ sizeLine then some (.tuple (a ++ b)) else none := rfl
@[simp] theorem dSub_int (i j : Int) : dSub (.int i) (.int j) = some (.int (i - j)) := rfl
@[simp] theorem dMul_int (i j : Int) : dMul (.int i) (.int j) = if CMul i j then some (.int (i * j)) else none := by
  unfold dMul dMulI dI dMulL; by_cases h : CMul i j <;> simp [h]
@[simp] theorem dMul_list (xs : List D) (k : Int) : dMul (.list xs) (.int k) = if (-(2 ^ 63) ≤ k ∧ k < 2 ^ 63) ∧ xs.length * k.toNat ≤ sizeLine then some (.list (List.replicate k.toNat xs).flatten) else none := by
  unfold dMul dMulI dI dMulL; simp
@[simp] theorem dMod_int (i j : Int) : dMod (.int i) (.int j) = if 0 < j then some (.int (i % j)) else none := rfl
@[simp] theorem dDiv_int (i j : Int) : dDiv (.int i) (.int j) = if CDiv i j then some (.int (i / j)) else none := rfl
@[simp] theorem dPow_int (i j : Int) : dPow (.int i) (.int j) = if CPow i j then some (.int (i ^ j.toNat)) else none := rfl
@[simp] theorem dShl_int (i j : Int) : dShl (.int i) (.int j) = if CPow i j then some (.int (i * 2 ^ j.toNat)) else none := rfl
@[simp] theorem dShr_int (i j : Int) : dShr (.int i) (.int j) = if 0 ≤ j then some (.int (i / 2 ^ j.toNat)) else none := rfl
@[simp] theorem dAnd_int (i j : Int) : dAnd (.int i) (.int j) = some (.int (Builtin.bitAnd i j)) := rfl
@[simp] theorem dLt_int (i j : Int) : dLt (.int i) (.int j) = some (.bool (decide (i < j))) := rfl
@[simp] theorem dLe_int (i j : Int) : dLe (.int i) (.int j) = some (.bool (decide (i ≤ j))) := rfl
@[simp] theorem dGt_int (i j : Int) : dGt (.int i) (.int j) = some (.bool (decide (j < i))) := rfl
@[simp] theorem dGe_int (i j : Int) : dGe (.int i) (.int j) = some (.bool (decide (j ≤ i))) := rfl
@[simp] theorem dIx_list (xs : List D) (i : Int) : dIx (.list xs) (.int i) = atI xs i := rfl
@[simp] theorem dIx_tuple (xs : List D) (i : Int) : dIx (.tuple xs) (.int i) = atI xs i := rfl
@[simp] theorem dIx_str (z : Str) (i : Int) : dIx (.str z) (.int i) = if z.length ≤ sizeLine then (atI z.cps.toList i).map fun c => .str ⟨#[c]⟩ else none := rfl
@[simp] theorem dLen_list (xs : List D) : dLen [.list xs] = some (.int xs.length) := rfl
@[simp] theorem dLen_tuple (xs : List D) : dLen [.tuple xs] = some (.int xs.length) := rfl
@[simp] theorem dLen_str (z : Str) : dLen [.str z] = if z.length ≤ sizeLine then some (.int z.length) else none := rfl
@[simp] theorem dTuple_list (xs : List D) : dTuple [.list xs] = some (.tuple xs) := rfl
@[simp] theorem dTuple_tuple (xs : List D) : dTuple [.tuple xs] = some (.tuple xs) := rfl
@[simp] theorem lD_list (xs : List D) : lD [.list xs] = some xs := rfl
@[simp] theorem lD_tuple (xs : List D) : lD [.tuple xs] = some xs := rfl
@[simp] theorem dSum_list (xs : List D) : dSum [.list xs] = (intsD xs).map fun ns => .int ns.sum := rfl
@[simp] theorem intsD_map (ns : List Int) : intsD (ns.map .int) = some ns := by
  induction ns with
  | nil => rfl
  | cons a r ih => simp [intsD, ih]
@[simp] theorem strsD_map (ns : List Str) : strsD (ns.map .str) = some ns := by
  induction ns with
  | nil => rfl
  | cons a r ih => simp [strsD, ih]
@[simp] theorem iD_list (xs : List D) : iD (.list xs) = some xs := rfl
@[simp] theorem iD_tuple (xs : List D) : iD (.tuple xs) = some xs := rfl
@[simp] theorem iD_str (z : Str) : iD (.str z) = some (z.cps.toList.map fun c => .str ⟨#[c]⟩) := rfl
@[simp] theorem dIsN_none : dIsN .none = true := rfl
@[simp] theorem dIsN_str (s : Str) : dIsN (.str s) = false := rfl
/-! ### equality of data -/
@[simp] theorem dEq_str (a b : Str) : dEq (.str a) (.str b) = some (.bool (decide (a = b))) := rfl
@[simp] theorem dEq_int (a b : Int) : dEq (.int a) (.int b) = some (.bool (decide (a = b))) := rfl
@[simp] theorem dEq_bool (a b : Bool) : dEq (.bool a) (.bool b) = some (.bool (decide (a = b))) := rfl
@[simp] theorem dNe_str (a b : Str) : dNe (.str a) (.str b) = some (.bool (!decide (a = b))) := rfl
@[simp] theorem dNe_int (a b : Int) : dNe (.int a) (.int b) = some (.bool (!decide (a = b))) := rfl
@[simp] theorem dNe_bool (a b : Bool) : dNe (.bool a) (.bool b) = some (.bool (!decide (a = b))) := rfl
/-- fit to be compared, no truths within -/
def fit (d : D) : Prop := d.canLay0 = true ∧ d.depth ≤ 64
mutual
def nb : D → Bool
  | .bool _ => false
  | .list xs => nbs xs
  | .tuple xs => nbs xs
  | .dict _ => false
  | _ => true
def nbs : List D → Bool
  | [] => true
  | x :: xs => nb x && nbs xs
end
mutual
theorem eqv_iff : ∀ (a b : D), nb a = true → nb b = true → (PyData.eqv a b = true ↔ a = b)
  | .none, b, _, h => by cases b <;> simp [PyData.eqv, nb] at h ⊢
  | .bool _, _, h, _ => by simp [nb] at h
  | .dict _, _, h, _ => by simp [nb] at h
  | .int i, b, _, h => by cases b <;> simp [PyData.eqv, nb] at h ⊢
  | .str s, b, _, h => by cases b <;> simp [PyData.eqv, nb] at h ⊢
  | .list xs, b, h1, h => by
    cases b with
    | list ys => simp only [PyData.eqv, PyData.list.injEq]; exact eqvs_iff xs ys (by simpa [nb] using h1) (by simpa [nb] using h)
    | _ => simp [PyData.eqv]
  | .tuple xs, b, h1, h => by
    cases b with
    | tuple ys => simp only [PyData.eqv, PyData.tuple.injEq]; exact eqvs_iff xs ys (by simpa [nb] using h1) (by simpa [nb] using h)
    | _ => simp [PyData.eqv]
theorem eqvs_iff : ∀ (xs ys : List D), nbs xs = true → nbs ys = true → (PyData.eqvAll xs ys = true ↔ xs = ys)
  | [], [], _, _ => by simp [PyData.eqvAll]
  | [], _ :: _, _, _ => by simp [PyData.eqvAll]
  | _ :: _, [], _, _ => by simp [PyData.eqvAll]
  | x :: xs, y :: ys, h1, h2 => by
    simp only [nbs, Bool.and_eq_true] at h1 h2
    simp only [PyData.eqvAll, Bool.and_eq_true, List.cons.injEq, eqv_iff x y h1.1 h2.1, eqvs_iff xs ys h1.2 h2.2]
end
theorem dEq_seq {a b : D} (hs : scD a b = none) (ha : fit a) (hb : fit b) : dEq a b = some (.bool (PyData.eqv a b)) := by
  unfold dEq eqD
  rw [hs]
  simp [SeqAt.shaped, ha.1, ha.2, hb.1, hb.2]
theorem dNe_seq {a b : D} (hs : scD a b = none) (ha : fit a) (hb : fit b) : dNe a b = some (.bool (!PyData.eqv a b)) := by
  unfold dNe eqD
  rw [hs]
  simp [SeqAt.shaped, ha.1, ha.2, hb.1, hb.2]
/-- sets of texts as lists and tuples -/
theorem fit_strs (xs : List Str) (h : ∀ s ∈ xs, PyData.canLay0 (.str s) = true) : PyData.canLayAll0 (xs.map .str) = true ∧ PyData.depthAll (xs.map .str) = 0 ∧ nbs (xs.map .str) = true := by
  induction xs with
  | nil => simp [PyData.canLayAll0, PyData.depthAll, nbs]
  | cons a r ih =>
    obtain ⟨h1, h2, h3⟩ := ih fun s hs => h s (by simp [hs])
    simp [PyData.canLayAll0, PyData.depthAll, nbs, nb, h1, h2, h3, h a (by simp), PyData.depth]
theorem map_str_inj : ∀ {xs ys : List Str}, xs.map PyData.str = ys.map PyData.str ↔ xs = ys
  | [], [] => by simp
  | [], _ :: _ => by simp
  | _ :: _, [] => by simp
  | a :: r, b :: q => by simp only [List.map_cons, List.cons.injEq, PyData.str.injEq, map_str_inj (xs := r) (ys := q)]
theorem eqv_tupStrs {xs ys : List Str} (hx : ∀ s ∈ xs, PyData.canLay0 (.str s) = true) (hy : ∀ s ∈ ys, PyData.canLay0 (.str s) = true) : dEq (.tuple (xs.map .str)) (.tuple (ys.map .str)) = some (.bool (decide (xs = ys))) := by
  obtain ⟨a1, a2, a3⟩ := fit_strs xs hx
  obtain ⟨b1, b2, b3⟩ := fit_strs ys hy
  rw [dEq_seq rfl ⟨by simpa [PyData.canLay0] using a1, by simp [PyData.depth, a2]⟩ ⟨by simpa [PyData.canLay0] using b1, by simp [PyData.depth, b2]⟩]
  congr 2
  rw [Bool.eq_iff_iff, eqv_iff _ _ (by simpa [nb] using a3) (by simpa [nb] using b3)]
  simp [map_str_inj]
theorem nev_tupStrs {xs ys : List Str} (hx : ∀ s ∈ xs, PyData.canLay0 (.str s) = true) (hy : ∀ s ∈ ys, PyData.canLay0 (.str s) = true) : dNe (.tuple (xs.map .str)) (.tuple (ys.map .str)) = some (.bool (!decide (xs = ys))) := by
  obtain ⟨a1, a2, a3⟩ := fit_strs xs hx
  obtain ⟨b1, b2, b3⟩ := fit_strs ys hy
  rw [dNe_seq rfl ⟨by simpa [PyData.canLay0] using a1, by simp [PyData.depth, a2]⟩ ⟨by simpa [PyData.canLay0] using b1, by simp [PyData.depth, b2]⟩]
  congr 3
  rw [Bool.eq_iff_iff, eqv_iff _ _ (by simpa [nb] using a3) (by simpa [nb] using b3)]
  simp [map_str_inj]
end G
set_option Elab.async false
set_option linter.all false
set_option maxRecDepth 100000
/-! texts by their codes -/
namespace G
open PySem PySem.Spec PyProof.Rows L2
/-- the text of these codes -/
def tx (l : List Nat) : Str := ⟨l.toArray⟩
@[simp] theorem tx_len (l : List Nat) : (tx l).length = l.length := rfl
@[simp] theorem tx_cps (l : List Nat) : (tx l).cps.toList = l := rfl
@[simp] theorem tx_inj {a b : List Nat} : tx a = tx b ↔ a = b := by
  constructor
  · intro h
    have := congrArg (fun s : Str => s.cps.toList) h
    simpa using this
  · rintro rfl; rfl
@[simp] theorem tx_app (a b : List Nat) : tx a ++ tx b = tx (a ++ b) := by
  show Str.append (tx a) (tx b) = _
  simp [Str.append, tx]
theorem tx_of (s : Str) : s = tx s.cps.toList := by cases s; simp [tx]
theorem tx_one (c : Nat) : (⟨#[c]⟩ : Str) = tx [c] := rfl
theorem lay_tx {l : List Nat} (h : ∀ c ∈ l, c < 0x110000) : PyData.canLay0 (.str (tx l)) = true := by
  simp only [PyData.canLay0, PyData.strOk, tx]
  simpa using h
theorem join_empty (l : List (List Nat)) : Txt.join (tx []) (l.map tx) = tx l.flatten := by
  show Builtin.Str.glued _ _ = _
  rw [StrLaws.glued_eq_join]
  induction l with
  | nil => rfl
  | cons a r ih =>
    cases r with
    | nil => simp [PySem.Str.join]
    | cons b r =>
      simp only [List.map_cons, PySem.Str.join, List.flatten_cons] at ih ⊢
      rw [ih]
      simp
theorem dJoin_of {xs : List D} {ys : List Str} {a : Str} (h : strsD xs = some ys) (hle : (ys.map (·.length)).sum + ys.length * a.length ≤ 16777216) : dJoin (.str a) [.list xs] = some (.str (Txt.join a ys)) := by
  simp only [dJoin, h]
  exact if_pos hle
theorem flat1 : ∀ l : List Nat, (l.map fun c => [c]).flatten = l
  | [] => rfl
  | a :: r => by simp [flat1 r]
theorem sum1 : ∀ l : List Nat, ((l.map fun c => tx [c]).map (·.length)).sum = l.length
  | [] => rfl
  | a :: r => by
    have := sum1 r
    simp only [List.map_cons, List.sum_cons, List.length_cons, tx_len, List.length_nil] at this ⊢
    omega
/-- single signs glued -/
theorem join_signs {l : List Nat} (h : l.length ≤ 16777216) : dJoin (.str (tx [])) [.list (l.map fun c => .str (tx [c]))] = some (.str (tx l)) := by
  have hj : strsD (l.map fun c => .str (tx [c])) = some (l.map fun c => tx [c]) := by
    have := strsD_map (l.map fun c => tx [c])
    rwa [List.map_map] at this
  have hf : Txt.join (tx []) (l.map fun c => tx [c]) = tx l := by
    have := join_empty (l.map fun c => [c])
    rw [List.map_map, flat1] at this
    exact this
  rw [dJoin_of hj, hf]
  rw [sum1]
  show l.length + _ * 0 ≤ _
  rw [Nat.mul_zero]
  exact h
theorem rg1_nat {n : Nat} (h : n ≤ 1000000) : rg1 [.int n] = some (rgD 0 n) := by
  unfold rg1
  exact if_pos (by omega)
@[simp] theorem rgD_len (n : Nat) : (rgD 0 n).length = n := by simp [rgD]
theorem lt_line {n : Nat} (h : n ≤ 1000000) : n < sizeLine := Nat.lt_of_le_of_lt h (by decide)
theorem le_line {n : Nat} (h : n ≤ 1000000) : n ≤ sizeLine := Nat.le_trans h (by decide)
@[simp] theorem s_e : Str.ofString "" = tx [] := rfl
@[simp] theorem s_0 : Str.ofString "0" = tx [48] := by decide +kernel
@[simp] theorem s_1 : Str.ofString "1" = tx [49] := by decide +kernel
@[simp] theorem s_s : Str.ofString "*" = tx [42] := by decide +kernel
@[simp] theorem s_01 : Str.ofString "01" = tx [48, 49] := by decide +kernel
@[simp] theorem s_11 : Str.ofString "11" = tx [49, 49] := by decide +kernel
@[simp] theorem s_s1 : Str.ofString "*1" = tx [42, 49] := by decide +kernel
@[simp] theorem s_01s : Str.ofString "01*" = tx [48, 49, 42] := by decide +kernel
@[simp] theorem s_6s : Str.ofString "******" = tx [42, 42, 42, 42, 42, 42] := by decide +kernel
@[simp] theorem s_w3 : Str.ofString "01010101*" = tx [48, 49, 48, 49, 48, 49, 48, 49, 42] := by decide +kernel
@[simp] theorem s_w4 : Str.ofString "01****" = tx [48, 49, 42, 42, 42, 42] := by decide +kernel
theorem sub1 {l : List Nat} {c i : Nat} (h : i < l.length) : Builtin.Str.subAt (tx l) (tx [c]) i = decide (l[i] = c) := by
  unfold Builtin.Str.subAt
  have : (tx l).cps.extract i (i + (tx [c]).length) = #[l[i]] := by
    apply Array.ext'
    simp only [tx, Str.length, Array.toList_extract]
    simp [List.extract]
    rw [List.drop_eq_getElem_cons h]
    rfl
  rw [this]
  simp [tx, Bool.beq_eq_decide_eq]
theorem cnt_go (l : List Nat) (c : Nat) : ∀ (k i : Nat) (arr : Array Nat) (free : Nat), i + k = l.length + 1 → free ≤ i → arr.size ≤ i →
    (Id.run (forIn (List.range' i k) (arr, free) fun i s =>
      if ((decide (s.fst.size < l.length + 1) = true ∧ s.snd ≤ i) ∧ i + 1 ≤ l.length) ∧ Builtin.Str.subAt (tx l) (tx [c]) i = true then
        pure (ForInStep.yield (s.fst.push i, i + 1))
      else pure (ForInStep.yield (s.fst, s.snd)))).1.size = arr.size + (l.drop i).count c
  | 0, i, arr, free, h, _, _ => by
    rw [List.drop_of_length_le (by omega)]
    simp
  | k + 1, i, arr, free, h, hf, ha => by
    rw [List.range'_succ, List.forIn_cons]
    by_cases hi : i < l.length
    · have hs := sub1 (c := c) hi
      have ed : l.drop i = l[i] :: l.drop (i + 1) := List.drop_eq_getElem_cons hi
      by_cases hc : l[i] = c
      · rw [if_pos ⟨⟨⟨by simp; omega, hf⟩, hi⟩, by rw [hs]; simp [hc]⟩]
        have := cnt_go l c k (i + 1) (arr.push i) (i + 1) (by omega) (Nat.le_refl _) (by simp; omega)
        simp only [pure_bind]
        rw [this, ed, hc]
        simp
        omega
      · rw [if_neg (fun z => hc (by have := z.2; rw [hs] at this; simpa using this))]
        have := cnt_go l c k (i + 1) arr free (by omega) (by omega) (by omega)
        simp only [pure_bind]
        rw [this, ed, List.count_cons_of_ne (Ne.symm (fun z => hc z.symm))]
    · rw [if_neg (fun z => hi z.1.2)]
      have := cnt_go l c k (i + 1) arr free (by omega) (by omega) (by omega)
      simp only [pure_bind]
      rw [this, List.drop_of_length_le (by omega), List.drop_of_length_le (by omega)]
theorem count1 (l : List Nat) (c : Nat) : Txt.count (tx l) (tx [c]) = (l.count c : Int) := by
  have h := cnt_go l c (l.length + 1) 0 #[] 0 (by omega) (Nat.le_refl _) (Nat.le_refl _)
  unfold Txt.count Builtin.Str.occurrences
  simp only [Id.run, List.drop_zero, Array.size_empty, Nat.zero_add] at h
  simp [Id.run]
  refine congrArg Nat.cast (Eq.trans ?_ h)
  rfl
end G
set_option linter.all false
set_option maxRecDepth 100000
namespace G
open PySem PySem.Spec PyProof.Rows L2
/-! steps: one lemma for each reading, over variables -/
section
variable {e e0 e1 e2 e3 : En} {a b d d1 d2 c : D} {ds ls acc xs ys : List D} {p q : XE} {qa : XA} {pi : XI}
theorem st_var {i : Nat} (h : e[i]? = some (.dat d)) : eVar i e = .ok d e := by unfold eVar; rw [h]
theorem st_c : eC d e = .ok d e := rfl
theorem st_op {g : D → D → Option D} (h1 : p e = .ok a e1) (h2 : q e1 = .ok b e2) (h : g a b = some d) : eOp g p q e = .ok d e2 := by unfold eOp; rw [h1]; show (q e1).bind _ = _; rw [h2]; show R.lift (g a b) e2 = _; rw [h]; rfl
theorem st_an : aNil e = .ok [] e := rfl
theorem st_ac (h1 : p e = .ok d e1) (h2 : qa e1 = .ok ds e2) : aCons p qa e = .ok (d :: ds) e2 := by unfold aCons; rw [h1]; show (qa e1).bind _ = _; rw [h2]; rfl
theorem st_call {g : List D → Option D} (h1 : qa e = .ok ds e1) (h : g ds = some d) : eCall g qa e = .ok d e1 := by unfold eCall; rw [h1]; show R.lift (g ds) e1 = _; rw [h]; rfl
theorem st_meth {ty : D → Bool} {g : D → List D → Option D} (h1 : p e = .ok c e1) (ht : ty c = true) (h2 : qa e1 = .ok ds e2) (h : g c ds = some d) : eMeth ty g p qa e = .ok d e2 := by unfold eMeth; rw [h1]; show (if ty c = true then _ else _) = _; rw [if_pos ht, h2]; show R.lift (g c ds) e2 = _; rw [h]; rfl
theorem st_new (h1 : pi e = .ok ds e1) : eNew pi e = .ok (.list ds) e1 := by unfold eNew; rw [h1]; rfl
theorem st_isNn (h1 : p e = .ok d e1) : eIsN p e = .ok (.bool (dIsN d)) e1 := by unfold eIsN; rw [h1]; rfl
theorem st_isNo (h1 : p e = .ok d e1) : eNotN p e = .ok (.bool (!dIsN d)) e1 := by unfold eNotN; rw [h1]; rfl
theorem st_not {b : Bool} (h1 : p e = .ok (.bool b) e1) : eNot p e = .ok (.bool (!b)) e1 := by unfold eNot; rw [h1]; rfl
theorem st_and_t {r : R D} (h1 : p e = .ok (.bool true) e1) (h2 : q e1 = r) : eAnd p q e = r := by unfold eAnd; rw [h1]; exact h2
theorem st_and_f (h1 : p e = .ok (.bool false) e1) : eAnd p q e = .ok (.bool false) e1 := by unfold eAnd; rw [h1]; rfl
theorem st_or_f {r : R D} (h1 : p e = .ok (.bool false) e1) (h2 : q e1 = r) : eOr p q e = r := by unfold eOr; rw [h1]; exact h2
theorem st_or_t (h1 : p e = .ok (.bool true) e1) : eOr p q e = .ok (.bool true) e1 := by unfold eOr; rw [h1]; rfl
theorem st_isi {T : String} {b : Bool} (h1 : p e = .ok d e1) (h : kitB (tyN d) T = some b) : eIsi T p e = .ok (.bool b) e1 := by unfold eIsi; rw [h1]; show R.lift ((kitB (tyN d) T).map PyData.bool) e1 = _; rw [h]; rfl
/-- tests -/
theorem tt_of {b : Bool} (h1 : p e = .ok (.bool b) e1) : tOf p e = .ok b e1 := by unfold tOf; rw [h1]; rfl
theorem tt_tru {b : Bool} (h1 : p e = .ok d e1) (h : dTru d = some b) : tTru p e = .ok b e1 := by unfold tTru; rw [h1]; show R.lift (dTru d) e1 = _; rw [h]; rfl
theorem tt_and_t {t u : XT} {r : R Bool} (h1 : t e = .ok true e1) (h2 : u e1 = r) : tAnd t u e = r := by unfold tAnd; rw [h1]; exact h2
theorem tt_and_f {t u : XT} (h1 : t e = .ok false e1) : tAnd t u e = .ok false e1 := by unfold tAnd; rw [h1]; rfl
theorem tt_or_f {t u : XT} {r : R Bool} (h1 : t e = .ok false e1) (h2 : u e1 = r) : tOr t u e = r := by unfold tOr; rw [h1]; exact h2
theorem tt_or_t {t u : XT} (h1 : t e = .ok true e1) : tOr t u e = .ok true e1 := by unfold tOr; rw [h1]; rfl
theorem tt_not {t : XT} {b : Bool} (h1 : t e = .ok b e1) : tNot t e = .ok (!b) e1 := by unfold tNot; rw [h1]; rfl
theorem tt_yes : (fun e => R.ok true e : XT) e = .ok true e := rfl
/-- walks -/
theorem it_args {g : List D → Option (List D)} (h : qa e = .ok ls e1) (h2 : g ls = some ds) : iArgs g qa e = .ok ds e1 := by unfold iArgs; rw [h]; show R.lift (g ls) e1 = _; rw [h2]; rfl
theorem it_of (h : p e = .ok d e1) (h2 : iD d = some ds) : iOf p e = .ok ds e1 := by unfold iOf; rw [h]; show R.lift (iD d) e1 = _; rw [h2]; rfl
/-- new lists -/
theorem nl_lst (h : qa e = .ok ds e1) (h2 : ds.length ≤ sizeLine) : nLst qa e = .ok ds e1 := by unfold nLst; rw [h]; show (if ds.length ≤ sizeLine then _ else _) = _; rw [if_pos h2]
theorem nl_lc {t : XG} {c : XT} {x : XE} {vs : List Nat} (h1 : pi e = .ok ds e1) (h2 : ds.length < sizeLine) (h3 : lcGo t c x vs ds (wipeE e1 vs) [] = .ok acc e2) : nLc pi t c x vs e = .ok acc (back e1 e2 vs) := by
  unfold nLc; rw [h1]; show (if ds.length < sizeLine then _ else _) = _; rw [if_pos h2, h3]; rfl
theorem nl_lc2 {t : XG} {c : XT} {pi1 : XI} {t1 : XG} {c1 : XT} {x : XE} {vs vs1 : List Nat} (h1 : pi e = .ok ds e1) (h3 : lc2Go t c pi1 t1 c1 x vs vs1 ds (wipeE e1 vs) [] = .ok acc e2) : nLc2 pi t c pi1 t1 c1 x vs vs1 e = .ok acc (back e1 e2 vs) := by
  unfold nLc2; rw [h1]; show (lc2Go t c pi1 t1 c1 x vs vs1 ds (wipeE e1 vs) []).bind _ = _; rw [h3]; rfl
theorem nl_call {g : List D → Option (List D)} (h : qa e = .ok ls e1) (h2 : g ls = some ds) : nCall g qa e = .ok ds e1 := by unfold nCall; rw [h]; show R.lift (g ls) e1 = _; rw [h2]; rfl
theorem nl_take {i : Nat} (h : e[i]? = some (.own none (.lst ds))) : nTake i e = .ok ds (e.set i .un) := by unfold nTake; rw [h]
theorem lc_nil {t : XG} {c : XT} {x : XE} {vs : List Nat} : lcGo t c x vs [] e acc = .ok acc e := rfl
theorem lc_yes {t : XG} {c : XT} {x : XE} {vs : List Nat} {y : D} {r : R (List D)} (h1 : t d e = some e1) (h2 : c e1 = .ok true e2) (h3 : x e2 = .ok y e3) (h4 : lcGo t c x vs ds (wipeE e3 vs) (acc ++ [y]) = r) : lcGo t c x vs (d :: ds) e acc = r := by
  simp only [lcGo, h1, h2, R.noex, R.bind_ok, if_true, h3, h4]
theorem lc_no {t : XG} {c : XT} {x : XE} {vs : List Nat} {r : R (List D)} (h1 : t d e = some e1) (h2 : c e1 = .ok false e2) (h4 : lcGo t c x vs ds (wipeE e2 vs) acc = r) : lcGo t c x vs (d :: ds) e acc = r := by
  simp only [lcGo, h1, h2, R.noex, R.bind_ok, h4]; rfl
/-- statements -/
theorem ss_nx : sNx e = .ok .nx e := rfl
theorem ss_seq {p q : XS} {r : R Fl} (h1 : p e = .ok .nx e1) (h2 : q e1 = r) : sSeq p q e = r := by unfold sSeq; rw [h1]; exact h2
theorem ss_seqR {p q : XS} (h1 : p e = .ok (.rt d) e1) : sSeq p q e = .ok (.rt d) e1 := by unfold sSeq; rw [h1]; rfl
theorem ss_seqN {p q : XS} (h1 : p e = .ok (.rn ds) e1) : sSeq p q e = .ok (.rn ds) e1 := by unfold sSeq; rw [h1]; rfl
theorem ss_seqC {p q : XS} (h1 : p e = .ok .ct e1) : sSeq p q e = .ok .ct e1 := by unfold sSeq; rw [h1]; rfl
theorem ss_seqB {p q : XS} (h1 : p e = .ok .bk e1) : sSeq p q e = .ok .bk e1 := by unfold sSeq; rw [h1]; rfl
theorem ss_setD {i : Nat} (h : p e = .ok d e1) : sSet i p e = .ok .nx (e1.set i (.dat d)) := by unfold sSet; rw [h]; rfl
theorem ss_ownD {i : Nat} (h : pi e = .ok ds e1) : sOwn i pi e = .ok .nx (e1.set i (.own none (.lst ds))) := by unfold sOwn; rw [h]; rfl
theorem ss_exp (h : p e = .ok d e1) : sExpr p e = .ok .nx e1 := by unfold sExpr; rw [h]; rfl
theorem ss_rt (h : p e = .ok d e1) : sRet p e = .ok (.rt d) e1 := by unfold sRet; rw [h]; rfl
theorem ss_rn (h : pi e = .ok ds e1) : sRetN pi e = .ok (.rn ds) e1 := by unfold sRetN; rw [h]; rfl
theorem ss_ift {t : XT} {p q : XS} {r : R Fl} (h : t e = .ok true e1) (h2 : p e1 = r) : sIf t p q e = r := by unfold sIf; rw [h]; exact h2
theorem ss_iff {t : XT} {p q : XS} {r : R Fl} (h : t e = .ok false e1) (h2 : q e1 = r) : sIf t p q e = r := by unfold sIf; rw [h]; exact h2
theorem ss_forD {t : XG} {b : XS} {r : R Fl} (h : pi e = .ok ds e1) (h2 : forD t b ds e1 = r) : sFor pi t b e = r := by unfold sFor; rw [h]; exact h2
theorem fd_nil {t : XG} {b : XS} : forD t b [] e = .ok .nx e := rfl
theorem fd_nx {t : XG} {b : XS} {r : R Fl} (h1 : t d e = some e1) (h2 : b e1 = .ok .nx e2) (h3 : forD t b ds e2 = r) : forD t b (d :: ds) e = r := by unfold forD; rw [h1]; show (b e1).bind _ = _; rw [h2]; exact h3
theorem fd_ct {t : XG} {b : XS} {r : R Fl} (h1 : t d e = some e1) (h2 : b e1 = .ok .ct e2) (h3 : forD t b ds e2 = r) : forD t b (d :: ds) e = r := by unfold forD; rw [h1]; show (b e1).bind _ = _; rw [h2]; exact h3
theorem fd_bk {t : XG} {b : XS} (h1 : t d e = some e1) (h2 : b e1 = .ok .bk e2) : forD t b (d :: ds) e = .ok .nx e2 := by unfold forD; rw [h1]; show (b e1).bind _ = _; rw [h2]; rfl
theorem fd_rt {t : XG} {b : XS} (h1 : t d e = some e1) (h2 : b e1 = .ok (.rt c) e2) : forD t b (d :: ds) e = .ok (.rt c) e2 := by unfold forD; rw [h1]; show (b e1).bind _ = _; rw [h2]; rfl
theorem ss_mut {i : Nat} {g : List D → List D → Option (D × List D)} {t : Option Nat} (h0 : e[i]? = some (.own t (.lst xs))) (h1 : qa e = .ok ds e1) (h2 : e1[i]? = some (.own t (.lst xs))) (h3 : g xs ds = some (d, ys)) : eMut i g qa e = .ok d (e1.set i (.own t (.lst ys))) := by
  unfold eMut; rw [h0]; show (qa e).bind _ = _; rw [h1]; simp only [R.bind_ok, h2, h3]
theorem st_lenOwn {i : Nat} {t : Option Nat} (h0 : e[i]? = some (.own t (.lst xs))) : eLenOwn i e = .ok (.int xs.length) e := by unfold eLenOwn; rw [h0]
theorem st_ixOwn {i : Nat} {t u : Option Nat} (h0 : e[i]? = some (.own t (.lst xs))) (h1 : q e = .ok a e1) (h2 : e1[i]? = some (.own u (.lst ys))) (h3 : dIx (.list ys) a = some d) : eIxOwn i q e = .ok d e1 := by
  unfold eIxOwn; rw [h0]; show (q e).bind _ = _; rw [h1]; simp only [R.bind_ok, h2, h3]; rfl
/-- calls -/
theorem sr_nilD : rNil e = .ok [] e := rfl
theorem sr_consD {q : XR} {as : List Ar} (h1 : p e = .ok d e1) (h2 : q e1 = .ok as e2) : rCons p q e = .ok (.d d :: as) e2 := by unfold rCons; rw [h1]; show (q e1).bind _ = _; rw [h2]; rfl
theorem sr_ioD {q : XR} {as : List Ar} {i : Nat} {t : Option Nat} {o : Ob} (h0 : e[i]? = some (.own t o)) (h2 : q e = .ok as e2) : rIo i q e = .ok (.io i :: as) e2 := by unfold rIo; rw [h0]; show (q e).bind _ = _; rw [h2]; rfl
theorem sr_scrD {q : XR} {as : List Ar} {i : Nat} (h0 : e[i]? = some (.scr xs)) (h2 : q e = .ok as e2) : rScr i q e = .ok (.scr xs :: as) e2 := by unfold rScr; rw [h0]; show (q e).bind _ = _; rw [h2]; rfl
/-- a call with data alone -/
theorem cl_ok {n : Nat} {F : List Sl → RF} {q : XR} {as : List Ar} {args : List Sl} {os : List Ob} (h : q e = .ok as e1) (hn : as.length = n) (hi : ios as = []) (hr : resolve e1 as 0 = some args) (hF : F args = .ok d os) : eFn n 0 F q e = .ok d e1 := by
  unfold eFn; rw [h]; show (if as.length = n ∧ (ios as).length = 0 then _ else _) = _
  rw [if_pos ⟨hn, by rw [hi]; rfl⟩, hr]
  show behind e1 as (F args) = _
  rw [hF]; unfold behind; rw [hi]
theorem cl_newV {n : Nat} {F : List Sl → RF} {q : XR} {as : List Ar} {args : List Sl} {os : List Ob} (h : q e = .ok as e1) (hn : as.length = n) (hi : ios as = []) (hr : resolve e1 as 0 = some args) (hF : F args = .new ds os) : eFn n 0 F q e = .ok (.list ds) e1 := by
  unfold eFn; rw [h]; show (if as.length = n ∧ (ios as).length = 0 then _ else _) = _
  rw [if_pos ⟨hn, by rw [hi]; rfl⟩, hr]
  show behind e1 as (F args) = _
  rw [hF]; unfold behind; rw [hi]
theorem cl_new {n : Nat} {F : List Sl → RF} {q : XR} {as : List Ar} {args : List Sl} {os : List Ob} (h : q e = .ok as e1) (hn : as.length = n) (hi : ios as = []) (hr : resolve e1 as 0 = some args) (hF : F args = .new ds os) : nFn n 0 F q e = .ok ds e1 := by
  unfold nFn; rw [h]; show (if as.length = n ∧ (ios as).length = 0 then _ else _) = _
  rw [if_pos ⟨hn, by rw [hi]; rfl⟩, hr]
  show behindN e1 as (F args) = _
  rw [hF]; unfold behindN; rw [hi]
/-- a call with one thing that is written -/
theorem cl_io {n i : Nat} {t : Option Nat} {o o' : Ob} {F : List Sl → RF} {q : XR} {as : List Ar} {args : List Sl} (h : q e = .ok as e1) (hn : as.length = n) (hi : ios as = [i]) (h0 : e1[i]? = some (.own t o)) (hr : resolve e1 as 0 = some args) (hF : F args = .ok d [o']) : eFn n 1 F q e = .ok d (e1.set i (.own t o')) := by
  unfold eFn; rw [h]; show (if as.length = n ∧ (ios as).length = 1 then _ else _) = _
  rw [if_pos ⟨hn, by rw [hi]; rfl⟩, hr]
  show behind e1 as (F args) = _
  rw [hF]; unfold behind; rw [hi]
  show (match putO e1 i o' with | some e' => R.ok d e' | none => .bad) = _
  unfold putO; rw [h0]
theorem cl_ioN {n i : Nat} {t : Option Nat} {o o' : Ob} {F : List Sl → RF} {q : XR} {as : List Ar} {args : List Sl} (h : q e = .ok as e1) (hn : as.length = n) (hi : ios as = [i]) (h0 : e1[i]? = some (.own t o)) (hr : resolve e1 as 0 = some args) (hF : F args = .new ds [o']) : nFn n 1 F q e = .ok ds (e1.set i (.own t o')) := by
  unfold nFn; rw [h]; show (if as.length = n ∧ (ios as).length = 1 then _ else _) = _
  rw [if_pos ⟨hn, by rw [hi]; rfl⟩, hr]
  show behindN e1 as (F args) = _
  rw [hF]; unfold behindN; rw [hi]
  show (match putO e1 i o' with | some e' => R.ok ds e' | none => .bad) = _
  unfold putO; rw [h0]
theorem run_rt {n nio : Nat} {b : XS} {args : List Sl} {os : List Ob} (h : b (args ++ List.replicate (n - args.length) .un) = .ok (.rt d) e) (ho : outsOf nio e = some os) : runF n nio b args = .ok d os := by unfold runF; rw [h]; show (match outsOf nio e with | some os => RF.ok d os | none => .bad) = _; rw [ho]
theorem run_rn {n nio : Nat} {b : XS} {args : List Sl} {os : List Ob} (h : b (args ++ List.replicate (n - args.length) .un) = .ok (.rn ds) e) (ho : outsOf nio e = some os) : runF n nio b args = .new ds os := by unfold runF; rw [h]; show (match outsOf nio e with | some os => RF.new ds os | none => .bad) = _; rw [ho]
theorem run_nx {n nio : Nat} {b : XS} {args : List Sl} {os : List Ob} (h : b (args ++ List.replicate (n - args.length) .un) = .ok .nx e) (ho : outsOf nio e = some os) : runF n nio b args = .ok .none os := by unfold runF; rw [h]; show (match outsOf nio e with | some os => RF.ok .none os | none => .bad) = _; rw [ho]
end
end G
set_option linter.all false
namespace G
open PySem PySem.Spec PyProof.Rows L2
/-! faces as lists of codes -/
def Signs (l : List Nat) : Prop := ∀ c ∈ l, c = 48 ∨ c = 49 ∨ c = 42
def ch (c : Nat) : List Nat := if c = 42 then [48, 49] else [c]
def cor : List Nat → List (List Nat)
  | [] => [[]]
  | c :: f => (ch c).flatMap fun x => (cor f).map (x :: ·)
def fstep (b : List (List Nat)) (c : Nat) : List (List Nat) := b.flatMap fun s => (ch c).map fun x => s ++ [x]
theorem fold_cor : ∀ (f : List Nat) (b : List (List Nat)), f.foldl fstep b = b.flatMap fun s => (cor f).map (s ++ ·)
  | [], b => by
    simp [cor]
  | c :: f, b => by
    simp only [List.foldl_cons, fold_cor f, fstep, cor]
    induction b with
    | nil => rfl
    | cons a r ih =>
      simp only [List.flatMap_cons, List.flatMap_append, ih]
      congr 1
      unfold ch
      split <;> simp [List.map_map, Function.comp_def]
theorem fold_cor0 (f : List Nat) : f.foldl fstep [[]] = cor f := by simp [fold_cor]
def mat : List Nat → List Nat → Bool
  | c :: f, x :: l => (c == 42 || c == x) && mat f l
  | _, _ => true
theorem filter_map' {α β : Type} (g : α → β) (p : β → Bool) : ∀ l : List α, (l.map g).filter p = (l.filter fun x => p (g x)).map g
  | [] => rfl
  | a :: l => by
    simp only [List.map_cons, List.filter_cons]
    split <;> simp [filter_map' g p l, *]
theorem filter_mat : ∀ {f : List Nat}, Signs f → (cor (List.replicate f.length 42)).filter (mat f) = cor f
  | [], _ => rfl
  | c :: f, h => by
    have ih := filter_mat (f := f) fun x hx => h x (by simp [hx])
    have e : cor (List.replicate (c :: f).length 42) = (cor (List.replicate f.length 42)).map (48 :: ·) ++ (cor (List.replicate f.length 42)).map (49 :: ·) := by
      simp [List.replicate_succ, cor, ch]
    have no : ∀ L : List (List Nat), L.filter (fun _ => false) = [] := by intro L; induction L <;> simp [*]
    rw [e, List.filter_append, filter_map', filter_map']
    rcases h c (by simp) with rfl | rfl | rfl
    · simp [mat, ih, cor, ch, no]
    · simp [mat, ih, cor, ch, no]
    · simp [mat, ih, cor, ch]
def bitsOf (n k : Nat) : List Nat := (List.range n).map fun p => 48 + k / 2 ^ (n - 1 - p) % 2
theorem all_bits {n : Nat} (h1 : 1 ≤ n) (h6 : n ≤ 6) : (List.range (2 ^ n)).map (bitsOf n) = cor (List.replicate n 42) := by
  have : n = 1 ∨ n = 2 ∨ n = 3 ∨ n = 4 ∨ n = 5 ∨ n = 6 := by omega
  rcases this with rfl | rfl | rfl | rfl | rfl | rfl <;> decide +kernel
theorem due_eq {f : List Nat} (hs : Signs f) (h1 : 1 ≤ f.length) (h6 : f.length ≤ 6) : ((List.range (2 ^ f.length)).map (bitsOf f.length)).filter (mat f) = cor f := by
  rw [all_bits h1 h6, filter_mat hs]
theorem cor_len : ∀ {f l : List Nat}, l ∈ cor f → l.length = f.length
  | [], l, h => by simp [cor] at h; simp [h]
  | c :: f, l, h => by
    simp only [cor, List.mem_flatMap, List.mem_map] at h
    obtain ⟨x, _, m, hm, rfl⟩ := h
    simp [cor_len hm]
theorem cor_codes : ∀ {f l : List Nat}, Signs f → l ∈ cor f → ∀ c ∈ l, c = 48 ∨ c = 49
  | [], l, _, h => by simp [cor] at h; simp [h]
  | c :: f, l, hs, h => by
    simp only [cor, List.mem_flatMap, List.mem_map] at h
    obtain ⟨x, hx, m, hm, rfl⟩ := h
    have ih := cor_codes (f := f) (fun x hx => hs x (by simp [hx])) hm
    intro y hy
    rcases List.mem_cons.mp hy with rfl | hy
    · rcases hs c (by simp) with rfl | rfl | rfl <;> simp [ch] at hx <;> omega
    · exact ih y hy
theorem cor_count : ∀ f : List Nat, (cor f).length = 2 ^ (f.count 42)
  | [] => rfl
  | c :: f => by
    simp only [cor, List.length_flatMap, List.length_map, cor_count f, List.count_cons]
    unfold ch
    by_cases h : c = 42
    · simp [h, Nat.pow_succ]; omega
    · simp [h]
theorem cor_le {f : List Nat} (h : f.length ≤ 6) : (cor f).length ≤ 64 := by
  rw [cor_count]
  have : f.count 42 ≤ 6 := Nat.le_trans List.count_le_length h
  exact Nat.pow_le_pow_right (n := 2) (by decide) this
/-- more steps -/
theorem lc2_nil {t : XG} {c : XT} {pi1 : XI} {t1 : XG} {c1 : XT} {x : XE} {vs vs1 : List Nat} {e : En} {acc : List D} : lc2Go t c pi1 t1 c1 x vs vs1 [] e acc = .ok acc e := rfl
theorem lc2_yes {t : XG} {c : XT} {pi1 : XI} {t1 : XG} {c1 : XT} {x : XE} {vs vs1 : List Nat} {d : D} {ds ds1 acc acc' : List D} {e e1 e2 e3 e4 : En} {r : R (List D)} (h1 : t d e = some e1) (h2 : c e1 = .ok true e2) (h3 : pi1 e2 = .ok ds1 e3) (h4 : acc.length + ds1.length < sizeLine)
    (h5 : lcGo t1 c1 x vs1 ds1 (wipeE e3 vs1) acc = .ok acc' e4) (h6 : lc2Go t c pi1 t1 c1 x vs vs1 ds (wipeE e4 vs) acc' = r) : lc2Go t c pi1 t1 c1 x vs vs1 (d :: ds) e acc = r := by
  simp only [lc2Go, h1, h2, h3, h5, h6, R.noex, R.bind_ok, if_true, if_pos h4]
theorem bitAnd1 (x : Nat) : Builtin.bitAnd (x : Int) 1 = ((x % 2 : Nat) : Int) := by
  unfold Builtin.bitAnd
  have h0 : decide (0 ≤ (x : Int)) = true := decide_eq_true (by omega)
  have h1 : decide ((0 : Int) ≤ 1) = true := by decide
  rw [h0, h1]
  show ((((x : Int).toNat &&& (1 : Int).toNat) : Nat) : Int) = _
  rw [Int.toNat_natCast, show (1 : Int).toNat = 1 from rfl, Nat.and_one_is_mod]
theorem dAdd_tx {a b : List Nat} (h : a.length + b.length ≤ 1000000) : dAdd (.str (tx a)) (.str (tx b)) = some (.str (tx (a ++ b))) := by
  rw [dAdd_str, if_pos (by rw [tx_len, tx_len]; exact le_line h), tx_app]
theorem iD_tx (l : List Nat) : iD (.str (tx l)) = some (l.map fun c => .str (tx [c])) := rfl
theorem st_varO {e : En} {i : Nat} {t : Option Nat} {ds : List D} (h : e[i]? = some (.own t (.lst ds))) : eVar i e = .ok (.list ds) (e.set i (.dat (.list ds))) := by unfold eVar; rw [h]
theorem rgD_nat' (n : Nat) : rgD 0 n = (List.range n).map fun p => .int (p : Nat) := by simp [rgD]
end G
set_option linter.all false
set_option maxRecDepth 100000
namespace G
open PySem PySem.Spec PyProof.Rows L2
variable {X : Cx} {W : WX} {pos : Pos}
/-! ### in -/
def flD : D → Bool
  | .none => true
  | .bool _ => true
  | .int _ => true
  | .str _ => true
  | _ => false
def eqS : D → D → Bool
  | .none, .none => true
  | .bool a, .bool b => a == b
  | .bool a, .int b => (if a then 1 else 0) == b
  | .int a, .bool b => a == (if b then 1 else 0)
  | .int a, .int b => a == b
  | .str a, .str b => a == b
  | _, _ => false
theorem fl_V {K : Frag} {Z : Hp} {v : V} {d : D} (h : Dq K Z v d) (f : flD d = true) : flatV v = true := by
  cases h <;> first | rfl | cases f
theorem fl_eq {K : Frag} {Z : Hp} {v w : V} {d e : D} (h : Dq K Z v d) (f : flD d = true) (h2 : Dq K Z w e) (f2 : flD e = true) : eqV v w = eqS d e := by
  cases h <;> cases h2 <;> first | rfl | (cases f; done) | (cases f2; done)
theorem fl_all {K : Frag} {Z : Hp} : ∀ {vs : List V} {ds : List D}, DqAll K Z vs ds → ds.all flD = true → vs.all flatV = true
  | _, _, .nil, _ => rfl
  | _, _, .cons a b, h => by
    simp only [List.all_cons, Bool.and_eq_true] at h ⊢
    exact ⟨fl_V a h.1, fl_all b h.2⟩
theorem fl_any {K : Frag} {Z : Hp} {w : V} {e : D} (h2 : Dq K Z w e) (f2 : flD e = true) : ∀ {vs : List V} {ds : List D}, DqAll K Z vs ds → ds.all flD = true → (vs.any fun y => eqV y w) = ds.any fun y => eqS y e
  | _, _, .nil, _ => rfl
  | _, _, .cons a b, h => by
    simp only [List.all_cons, Bool.and_eq_true] at h
    simp only [List.any_cons, fl_eq a h.1 h2 f2, fl_any h2 f2 b h.2]
def dInQ (neg : Bool) (x : D) (ys : List D) : Option D := if flD x = true ∧ ys.all flD = true then some (.bool (if neg then !ys.any fun y => eqS y x else ys.any fun y => eqS y x)) else none
def dIn2 (neg : Bool) : D → D → Option D
  | .str s, .str z => if s.length = 1 then some (.bool (if neg then !decide (s.cps.getD 0 0 ∈ z.cps.toList) else decide (s.cps.getD 0 0 ∈ z.cps.toList))) else none
  | x, .list ys => dInQ neg x ys
  | x, .tuple ys => dInQ neg x ys
  | _, _ => none
def dIn : D → D → Option D := dIn2 false
def dNin : D → D → Option D := dIn2 true
theorem ok_in2 {K : Frag} {neg : Bool} : Ok2 K (fun x y H Q => (∃ (c : Nat) (z : Str), x = .str ⟨#[c]⟩ ∧ y = .str z ∧ Q (.bl (if neg then !decide (c ∈ z.cps.toList) else decide (c ∈ z.cps.toList))) H) ∨ rIn K neg x y H Q) (dIn2 neg) := by
  intro Z H x y d1 d2 d Q s D1 D2 e k
  have seq : ∀ ys p ws, y = .ref p → (SqL K Z p ws ∨ SqT K Z p ws) → DqAll K Z ws ys → dInQ neg d1 ys = some d → rIn K neg x y H Q := by
    intro ys p ws hy hq ha he
    unfold dInQ at he
    split at he
    · rename_i hf
      cases he
      refine ⟨p, ws, hy, hq.imp (Same.seq s) (same_tup s), fl_V D1 hf.1, fl_all ha hf.2, ?_⟩
      have h := fl_any D1 hf.1 ha hf.2
      unfold inV
      rw [h]
      exact k _ Z H (Nw.refl s) (.bl _)
    · cases he
  unfold dIn2 at e
  split at e
  · rename_i a z
    split at e
    · rename_i hl
      cases e
      cases dp_str D1
      cases dp_str D2
      refine .inl ⟨a.cps.getD 0 0, z, ?_, rfl, k _ Z H (Nw.refl s) (.bl _)⟩
      obtain ⟨l⟩ := a
      obtain ⟨l⟩ := l
      match l, hl with
      | [c], _ => rfl
    · cases e
  · rename_i ys
    obtain ⟨p, ws, hy, h1, h2⟩ := dp_list D2
    exact .inr (seq ys p ws hy (.inl (.inl (.inl h1))) h2 e)
  · rename_i ys
    obtain ⟨p, ws, hy, h1, h2⟩ := dp_tuple D2
    exact .inr (seq ys p ws hy (.inr h1) h2 e)
  · cases e
theorem ok_in {K : Frag} : Ok2 K (fun x y H Q => (∃ (c : Nat) (z : Str), x = .str ⟨#[c]⟩ ∧ y = .str z ∧ Q (.bl (decide (c ∈ z.cps.toList))) H) ∨ rIn K false x y H Q) dIn := ok_in2 (neg := false)
theorem ok_nin {K : Frag} : Ok2 K (fun x y H Q => (∃ (c : Nat) (z : Str), x = .str ⟨#[c]⟩ ∧ y = .str z ∧ Q (.bl (!decide (c ∈ z.cps.toList))) H) ∨ rIn K true x y H Q) dNin := ok_in2 (neg := true)
theorem se_in {a b : Expr} {p q : XE} (ha : SE X W a p) (hb : SE X W b q) (hm : behindInMarks .In b = false := by rfl) : SE X W (.Compare a [.In] [b] pos) (eOp dIn p q) := se_cmp (opr_or op_in_sign op_in_seq) ok_in ha hb hm
theorem se_nin {a b : Expr} {p q : XE} (ha : SE X W a p) (hb : SE X W b q) (hm : behindInMarks .NotIn b = false := by rfl) : SE X W (.Compare a [.NotIn] [b] pos) (eOp dNin p q) := se_cmp (opr_or op_notIn_sign op_notIn_seq) ok_nin ha hb hm
theorem st_in {a b : Expr} {p q : XE} (ha : SE X W a p) (hb : SE X W b q) (hm : behindInMarks .In b = false := by rfl) : ST X W (.Compare a [.In] [b] pos) (tOf (eOp dIn p q)) := st_cmp (opr_or op_in_sign op_in_seq) ok_in ha hb hm
theorem st_nin {a b : Expr} {p q : XE} (ha : SE X W a p) (hb : SE X W b q) (hm : behindInMarks .NotIn b = false := by rfl) : ST X W (.Compare a [.NotIn] [b] pos) (tOf (eOp dNin p q)) := st_cmp (opr_or op_notIn_sign op_notIn_seq) ok_nin ha hb hm
/-! ### int(), str(), bit_length -/
def dInt : List D → Option D
  | [.int i] => some (.int i)
  | [.bool b] => some (.int (if b then 1 else 0))
  | _ => none
theorem ok_int {K : Frag} : OkC K (fun xs H Q => (∃ i, xs = [.int i] ∧ Q (.int i) H) ∨ ∃ k, xs = [.bl k] ∧ Q (.int (if k then 1 else 0)) H) dInt := by
  intro Z H xs ds d Q s D1 e k
  unfold dInt at e
  split at e
  · cases e
    obtain ⟨v, rfl, hv⟩ := dpa_1 D1
    cases dp_int hv
    exact .inl ⟨_, rfl, k _ Z H (Nw.refl s) (.int _)⟩
  · cases e
    obtain ⟨v, rfl, hv⟩ := dpa_1 D1
    cases dp_bool hv
    exact .inr ⟨_, rfl, k _ Z H (Nw.refl s) (.int _)⟩
  · cases e
theorem se_intC {a : Expr} {q : XA} {p : Pos} (hg : Gl X "int") (hm : X.mg "int" = none) (ha : SA X W [a] q) (he : starEach [a] X.env = (false, eval a X.env) :: starEach [] X.env := by rfl) (hpl : (backTo pos (starEach [] X.env)).any (·.1) = false := by rfl) : SE X W (.Call (.Name "int" p) [a] [] pos) (eCall dInt q) :=
  se_tCB ok_int (pe_callTy call_int1 hg hm (by decide +kernel) ha (by decide) (by decide) he hpl)
def dStr : List D → Option D
  | [.int i] => if i.natAbs.log2 < 1920 then some (.str (toString i)) else none
  | _ => none
theorem ok_str {K : Frag} : OkC K (fun xs H Q => ∃ i, xs = [.int i] ∧ i.natAbs.log2 < 1920 ∧ Q (.str (toString i)) H) dStr := by
  intro Z H xs ds d Q s D1 e k
  unfold dStr at e
  split at e
  · split at e
    · rename_i hl
      cases e
      obtain ⟨v, rfl, hv⟩ := dpa_1 D1
      cases dp_int hv
      exact ⟨_, rfl, hl, k _ Z H (Nw.refl s) (.str _)⟩
    · cases e
  · cases e
theorem se_strC {a : Expr} {q : XA} {p : Pos} (hg : Gl X "str") (hm : X.mg "str" = none) (ha : SA X W [a] q) (he : starEach [a] X.env = (false, eval a X.env) :: starEach [] X.env := by rfl) (hpl : (backTo pos (starEach [] X.env)).any (·.1) = false := by rfl) : SE X W (.Call (.Name "str" p) [a] [] pos) (eCall dStr q) :=
  se_tCB ok_str (pe_callTy call_str_int hg hm (by decide +kernel) ha (by decide) (by decide) he hpl)
def eBits (p : XE) : XE := fun e => (p e).bind fun d e1 => match d with
  | .int i => .ok (.int (Builtin.Int.intBits i : Nat)) e1
  | _ => .bad
theorem se_bits {o : Expr} {apos : Pos} {p : XE} (ho : SE X W o p) (hbase : attributeBase o "bit_length" X.env (eval o X.env) = eval o X.env := by rfl) (hline : (apos.endLine == pos.line) = true := by rfl) : SE X W (.Call (.Attribute o "bit_length" apos) [] [] pos) (eBits p) := by
  refine PE.imp (pe_bits ho hbase hline) fun σ H Q ⟨B, e, Z, R0, hq⟩ => ?_
  refine rg_bind R0 hq fun v1 Z1 e1 d1 H1 s1 R1 D1 h1 => ?_
  cases D1 with
  | int i => exact ⟨i, rfl, h1 _ Z1 H1 (Same.refl _) R1 (.int _)⟩
  | non => exact h1.elim
  | bl _ => exact h1.elim
  | str _ => exact h1.elim
  | lst _ _ => exact h1.elim
  | tup _ _ => exact h1.elim
/-! ### slices -/
def dSl : D → Option Int → Option Int → Option D
  | .list xs, lo, hi => some (.list (cutD xs lo hi))
  | .tuple xs, lo, hi => if HT.sIx xs.length 0 lo = 0 ∧ HT.sIx xs.length xs.length hi = xs.length then none else some (.tuple (cutD xs lo hi))
  | .str z, lo, hi => if z.length ≤ sizeLine then some (.str (cutS z lo hi)) else none
  | _, _, _ => none
theorem ok_sl {K : Frag} : OkS K (fun x lo hi H Q => (rSlL K x lo hi H Q ∨ rSlT K x lo hi H Q) ∨ ∃ z, x = .str z ∧ z.length ≤ sizeLine ∧ Q (.str (cutS z lo hi)) H) dSl := by
  intro Z H x c lo hi d Q s D1 e k
  unfold dSl at e
  split at e
  · cases e
    obtain ⟨a, ws, rfl, h1, h2⟩ := dp_list D1
    refine .inl (.inl ⟨a, ws, rfl, .inl (.inl (s _ _ h1)), fun p hp => ?_⟩)
    have n := Nw.new (o := .lst (cutV ws lo hi)) s hp
    exact k _ _ _ n (.lst upd_same (dpa_mono n.z (dpa_cut h2)))
  · split at e
    · cases e
    · rename_i hf
      cases e
      obtain ⟨a, ws, rfl, h1, h2⟩ := dp_tuple D1
      refine .inl (.inr ⟨a, ws, rfl, same_tup s h1, by rw [dpa_len h2]; exact hf, fun p hp => ?_⟩)
      have n := Nw.new (o := .tup (cutV ws lo hi)) s hp
      exact k _ _ _ n (.tup (.inl (.inl upd_same)) (dpa_mono n.z (dpa_cut h2)))
  · split at e
    · rename_i hl
      cases e
      cases dp_str D1
      exact .inr ⟨_, rfl, hl, k _ Z H (Nw.refl s) (.str _)⟩
    · cases e
  · cases e
theorem se_slice {a : Expr} {lo hi : Option Expr} {p2 : Pos} {p : XE} {l u : XO} (ha : SE X W a p) (hl : SO X W lo l) (hu : SO X W hi u) : SE X W (.Subscript a (.Slice lo hi none p2) pos) (eSl dSl p l u) :=
  se_sl ok_sl (pe_slice (.or (.or sl_list sl_tup) sl_str) ha hl hu)
/-! ### a text so many times -/
theorem op_mulS : OpR X (binaryOp .Mult) (fun x y H Q => ∃ z k, x = .str z ∧ y = .int k ∧ MulOk z k ∧ Q (.str (Txt.mul z k)) H) := by
  intro pins s σ H x y v u Q I rx ry h
  obtain ⟨z, k, rfl, rfl, hz, q⟩ := h
  obtain ⟨t, rfl⟩ := rx
  obtain ⟨t', rfl⟩ := ry
  exact SB.mul hz fun t' k' => ⟨.str _, H, I.tok _, ⟨_, rfl⟩, q⟩
def dMulS : D → D → Option D
  | .str z, .int k => if z.length ≤ 1000 ∧ -1000 ≤ k ∧ k ≤ 1000 then some (.str (Txt.mul z k)) else none
  | _, _ => none
theorem ok_mulS {K : Frag} : Ok2 K (fun x y H Q => ∃ z k, x = .str z ∧ y = .int k ∧ MulOk z k ∧ Q (.str (Txt.mul z k)) H) dMulS := by
  intro Z H x y d1 d2 d Q s D1 D2 e k
  unfold dMulS at e
  split at e
  · split at e
    · rename_i z i hc
      cases e
      cases dp_str D1
      cases dp_int D2
      exact ⟨z, i, rfl, rfl, mulOk_of 1000 1000 hc.1 (by omega) (by omega) (by decide) (by decide), k _ Z H (Nw.refl s) (.str _)⟩
    · cases e
  · cases e
theorem se_mulS {a b : Expr} {p q : XE} (ha : SE X W a p) (hb : SE X W b q) : SE X W (.BinOp a .Mult b pos) (eOp dMulS p q) := se_op op_mulS ok_mulS ha hb
/-! ### a raise that is never come to -/
def sBad : XS := fun _ => .bad
theorem ss_bad {st : Stmt} : SS X W st sBad := ⟨fun _ _ _ _ _ _ ⟨_, _, _, _, h⟩ => h.elim⟩
end G
set_option Elab.async false
set_option linter.all false
set_option maxRecDepth 100000
/-! enumerate of a text, of a list -/
namespace G
open PySem PySem.Spec PyProof.Rows L2
def ItES (z : Str) : It := ⟨fun i _ => i < z.cps.size, fun i H v H' => ∃ T c, v = .ref T ∧ H T = none ∧ H' = upd H T (.tup [.int (i : Nat), .str ⟨#[c]⟩]) ∧ z.cps[i]? = some c, fun i _ => i = z.cps.size⟩
theorem turn_enumS {P : Program} {w : World} {K : Frag} {elts : List Expr} {kk : Nat} {tpos : Pos} (e it : Addr) (z : Str) (t : Tok) :
    Turn P w K (.Tuple elts kk tpos) (ItES z) [e, it] e (fun i h => (∃ old, IsEnum h e it ((i : Nat) : Int) old) ∧ h.IsStrIter it (strIterType z) z t i ∧ e ≠ it) where
  mem := by simp
  obj := fun i h st b hb => by
    obtain ⟨⟨old, he⟩, ⟨o, ho, hc, hd⟩, _⟩ := st
    have e' : b = e ∨ b = it := by simpa using hb
    rcases e' with q | q
    · rw [q]; exact ⟨_, he, fun v q => nomatch q⟩
    · rw [q]; exact ⟨o, ho, fun v q => by rw [hd] at q; cases q⟩
  keep := fun i h h' st k => let ⟨⟨old, he⟩, ⟨o, ho, r⟩, hne⟩ := st; ⟨⟨old, k e (by simp) _ he⟩, ⟨o, k it (by simp) o ho, r⟩, hne⟩
  item := by
    intro X hP hw hK hc i pins s σ H E I hf st hg
    subst hP hw hK
    obtain ⟨⟨old, he⟩, hit, hne⟩ := st
    have hel : e < s.heap.objs.size := Heap.lt_size he
    have hil : it < s.heap.objs.size := by obtain ⟨_, q, _⟩ := hit; exact Heap.lt_size q
    refine wpAny_pyNext_enum_itemD (Draws.text (A := X.A.in1) (I.ok.hd hc) it z t) he hit hg hne (by simpa using hne) fun x h' tk hx ho hit' hT hsz hk => ?_
    obtain ⟨c, u, hcx, rfl⟩ := hx
    refine ⟨_, rfl, wpAny_letOwnedTupleGo_enum (s := { s with heap := h', toks := tk + 1 }) ho fun h'' he' sb => ?_⟩
    have hT2 : h''.get? s.heap.objs.size = some { cls := .type "tuple", data := .seq #[.int i tk, .str ⟨#[c]⟩ u] } := (sb.2 _ (Nat.ne_of_gt hel)).trans hT
    have new : ObjOk X.prog X.w (upd H s.heap.objs.size (.tup [.int (i : Nat), .str ⟨#[c]⟩])) h'' s.heap.objs.size (.tup [.int (i : Nat), .str ⟨#[c]⟩]) :=
      ⟨by show 2 ≤ sizeLine; decide, [.int i tk, .str ⟨#[c]⟩ u], .cons ⟨_, rfl⟩ (.cons ⟨_, rfl⟩ .nil), ⟨_, hT2, rfl, _, rfl⟩⟩
    have I1 : Inv X pins σ (upd H s.heap.objs.size (.tup [.int (i : Nat), .str ⟨#[c]⟩])) { s with heap := h'', toks := tk + 1 } :=
      I.turnedNew (ch := [e, it]) (fun b ob hb q => (sb.2 b (fun z => hb (by simp [z]))).trans (hk b ob (fun z => hb (by simp [z])) (fun z => hb (by simp [z])) q)) hf (Nat.le_refl _) new
    refine ⟨.ref s.heap.objs.size, _, I1, rfl, ⟨_, c, rfl, I.hok.fresh (Nat.le_refl _), rfl, hcx⟩, ⟨⟨.str ⟨#[c]⟩ u, ?_⟩, ?_, hne⟩, fun b hb => ?_⟩
    · have e1 : ((i + 1 : Nat) : Int) = (i : Int) + 1 := by omega
      rw [e1]; exact he'
    · obtain ⟨o, ho2, r⟩ := hit'
      exact ⟨o, (sb.2 it (Ne.symm hne)).trans ho2, r⟩
    · have hb' : b < s.heap.objs.size := by
        have e' : b = e ∨ b = it := by simpa using hb
        rcases e' with z | z
        · rw [z]; exact hel
        · rw [z]; exact hil
      rw [upd_ne (Nat.ne_of_lt hb')]
      exact (hf b hb).1
  done := by
    intro X hP hw hK hc i pins s σ H E I hf st hg
    subst hP hw hK
    obtain ⟨⟨old, he⟩, hit, hne⟩ := st
    have hg : i = z.cps.size := hg
    subst hg
    obtain ⟨f0, f1, f2, f3, f4, f5⟩ := hf it (by simp)
    exact wpAny_pyNext_enum_endD (Draws.text (A := X.A.in1) (I.ok.hd hc) it z t) he hit fun h' eb => ⟨rfl, I.turned (t' := s.toks) (fun b o hb q => eb b o hb q) f0 f1 f3 f4 f5⟩
  self := fun A i s Q E st h => let ⟨⟨_, he⟩, _⟩ := st; wpAny_pyIter_enum he h
def enumD : Nat → List D → List D
  | _, [] => []
  | i, d :: ds => .tuple [.int (i : Nat), d] :: enumD (i + 1) ds
theorem enumD_len : ∀ (i : Nat) (ds : List D), (enumD i ds).length = ds.length
  | _, [] => rfl
  | i, _ :: ds => by simp [enumD, enumD_len (i + 1) ds]
theorem enumD_get : ∀ (ds : List D) (i k : Nat) (d : D), ds[k]? = some d → (enumD i ds)[k]? = some (.tuple [.int ((i + k : Nat) : Int), d])
  | [], _, _, _, h => by simp at h
  | _ :: _, i, 0, _, h => by cases h; rfl
  | _ :: ds, i, k + 1, d, h => by
    have := enumD_get ds (i + 1) k d (by simpa using h)
    have e : i + 1 + k = i + (k + 1) := by omega
    rw [e] at this
    simpa [enumD] using this
theorem wk_enumS {K : Frag} {Z : Hp} {z : Str} : Wk K Z (ItES z) (enumD 0 (z.cps.toList.map fun c => .str ⟨#[c]⟩)) := by
  have hl : (enumD 0 (z.cps.toList.map fun c => PyData.str ⟨#[c]⟩)).length = z.cps.size := by rw [enumD_len]; simp
  refine ⟨fun i H hi s => by rw [hl] at hi; exact hi, fun H s => hl, fun i H x H' B e σ Z1 hi s R hy => ?_⟩
  obtain ⟨T, c, rfl, hT, rfl, hc⟩ := hy
  obtain ⟨R2, s2⟩ := R.new (o := .tup [.int (i : Nat), .str ⟨#[c]⟩]) hT
  refine ⟨_, .tuple [.int (i : Nat), .str ⟨#[c]⟩], s2, R2, ?_, .tup (.inl (.inl upd_same)) (.cons (.int _) (.cons (.str _) .nil))⟩
  have := enumD_get (z.cps.toList.map fun c => PyData.str ⟨#[c]⟩) 0 i (.str ⟨#[c]⟩) (by rw [List.getElem?_map, Array.getElem?_toList, hc]; rfl)
  rwa [Nat.zero_add] at this
def gEnumS : List D → Option (List D)
  | [.str z] => some (enumD 0 (z.cps.toList.map fun c => .str ⟨#[c]⟩))
  | _ => none
theorem si_enumS {X : Cx} {W : WX} {a : Expr} {q : XA} {p pos tpos : Pos} {elts : List Expr} {kk : Nat} (hg : Gl X "enumerate") (hm : X.mg "enumerate" = none) (ha : SA X W [a] q)
    (hs : starEach [a] X.env = [(false, eval a X.env)] := by rfl) : SI X W (.Tuple elts kk tpos) (.Call (.Name "enumerate" p) [a] [] pos) (iArgs gEnumS q) := by
  refine ⟨fun pins s σ H R I ⟨B, e, Z, R0, hq⟩ => ?_⟩
  have h1 : RA X.K X.mg W q σ H fun vs H1 => ∃ z, vs = [.str z] ∧ R (ItES z) H1 := by
    refine rg_bind R0 hq fun v1 Z1 e1 d1 H1 s1 R1 D1 h1 => ?_
    unfold gEnumS at h1
    split at h1
    · obtain ⟨v, rfl, hv⟩ := dpa_1 D1
      cases dp_str hv
      exact ⟨_, rfl, h1 _ Z1 H1 (Same.refl _) R1 wk_enumS⟩
    · exact h1.elim
  refine Call_ (ld_blt I hg hm boot_enumerate (PyProof.Rows.callWith_type1 (thn (ha.run pos pins s σ H _ I h1) fun us s1 ⟨vs, H1, I1, r1, q1⟩ => ?_) hs rfl))
  obtain ⟨z, ex, q⟩ := q1
  subst ex
  obtain ⟨u, rfl, t, rfl⟩ := vals1 r1
  refine call_enumerate_str fun h' he hit hsz hk => wpAny_pyIter_enum he ?_
  have I2 : Inv X pins σ H1 { s1 with heap := h' } := I1.kept (t' := s1.toks) hk
  refine ⟨s1.heap.objs.size + 1, [s1.heap.objs.size + 1, s1.heap.objs.size], _, _, H1, rfl, I2, turn_enumS (s1.heap.objs.size + 1) s1.heap.objs.size z t, ⟨⟨.none, he⟩, hit, Nat.succ_ne_self _⟩, fun b hb => ?_, q⟩
  have e' : b = s1.heap.objs.size + 1 ∨ b = s1.heap.objs.size := by simpa using hb
  have hle : s1.heap.objs.size ≤ b := by
    rcases e' with z | z
    · rw [z]; exact Nat.le_add_right _ _
    · rw [z]; exact Nat.le_refl _
  exact I1.fpOk hle (I1.hok.fresh hle)
/-! ### a tuple of the module, xs[::-1] -/
section
variable {X : Cx} {W : WX} {pos : Pos}
/-- at a stands for ever the tuple ds -/
def KT (K : Frag) (a : Addr) (ds : List D) : Prop := ∀ Z, Dq K Z (.ref a) (.tuple ds)
theorem se_kt {x : Str} {a : Addr} {ds : List D} (hg : Gl X x) (hm : X.mg x = some (.ref a)) (hk : KT X.K a ds) (hdb : (x == ("__debug__" : Str)) = false := by decide) : SE X W (.Name x pos) (eC (.tuple ds)) :=
  PE.imp (pe_glob (v := .ref a) hg hm rfl (hd := hdb)) fun σ H Q ⟨B, e, Z, R0, hq⟩ => hq _ Z H (Same.refl Z) R0 (hk Z)
inductive KVs (K : Frag) : List Value → List D → Prop where
  | nil : KVs K [] []
  | int {i : Int} {t : Tok} {us : List Value} {ds : List D} : KVs K us ds → KVs K (.int i t :: us) (.int i :: ds)
  | str {z : Str} {t : Tok} {us : List Value} {ds : List D} : KVs K us ds → KVs K (.str z t :: us) (.str z :: ds)
theorem kvs_of {K : Frag} : ∀ {us : List Value} {ds : List D}, KVs K us ds → ∃ vs, Vals vs us ∧ ∀ Z, DqAll K Z vs ds
  | _, _, .nil => ⟨[], .nil, fun _ => .nil⟩
  | _, _, .int h => by
    obtain ⟨vs, h1, h2⟩ := kvs_of h
    exact ⟨.int _ :: vs, .cons ⟨_, rfl⟩ h1, fun Z => .cons (.int _) (h2 Z)⟩
  | _, _, .str h => by
    obtain ⟨vs, h1, h2⟩ := kvs_of h
    exact ⟨.str _ :: vs, .cons ⟨_, rfl⟩ h1, fun Z => .cons (.str _) (h2 Z)⟩
theorem kt_mk {K : Frag} {a : Addr} {o : Option Addr} {its : Array Value} {n : Nat} {sl : Array (Option Value)} {ds : List D} (l : K.lookup a = some ⟨.type "tuple", o, .seq its n, sl⟩) (h : KVs K its.toList ds) (hl : its.size ≤ sizeLine) : KT K a ds := fun Z => by
  obtain ⟨vs, h1, h2⟩ := kvs_of h
  exact .tup (.inr ⟨_, its, n, l, rfl, rfl, hl, h1⟩) (h2 Z)
def eRev (p : XE) : XE := fun e => (p e).bind fun d e1 => match d with
  | .list xs => .ok (.list xs.reverse) e1
  | _ => .bad
theorem se_rev {a : Expr} {k : Nat} {p1 p2 p3 : Pos} {p : XE} (ha : SE X W a p) : SE X W (.Subscript a (.Slice none none (some (.UnaryOp .USub (.Constant (.int 1) k p1) p2)) p3) pos) (eRev p) := by
  refine PE.imp (pe_revL ha) fun σ H Q ⟨B, e, Z, R0, hq⟩ => ?_
  refine rg_bind R0 hq fun v1 Z1 e1 d1 H1 s1 R1 D1 h1 => ?_
  cases D1 with
  | @lst aa xs dd q a =>
    refine ⟨_, _, rfl, .inl (.inl (R1.sub _ _ q)), fun p hp => ?_⟩
    have n := Nw.new (o := .lst xs.reverse) R1.sub hp
    exact h1 _ _ _ n.z (R1.nw n) (.lst upd_same (dpa_mono n.z (dpa_rev a)))
  | non => exact h1.elim
  | bl _ => exact h1.elim
  | int _ => exact h1.elim
  | str _ => exact h1.elim
  | tup _ _ => exact h1.elim
end
/-! ### a comprehension within a comprehension -/
def relSc (inner outer : Scope) : Scope := { inner with names := inner.names.map fun (n, k) => if (k == NameKind.free && outer.kind == .function && outer.names.lookup n == some .cell) then (n, NameKind.cell) else (n, k) }
theorem blkOk_in {N : List Str} {inner scope outer : Scope} {own : List (Str × Nat)} {cl : List (Str × Addr)} {C : Addr} {env : Env} (h : blkC N (relSc inner outer) scope own = true) (he : relabel inner env = relSc inner outer := by rfl) : BlkOk N (compEnvC inner cl C env).scope scope own := by
  show BlkOk N (relabel inner env) scope own
  rw [he]
  exact blkOk_by h
/-! ### a new list, so many times -/
section
variable {X : Cx} {W : WX} {pos : Pos}
def nRep (p q : XE) : XI := fun e => (p e).bind fun x e1 => (q e1).bind fun y e2 => match x, y with
  | .list xs, .int k => if (-(2 ^ 63) ≤ k ∧ k < 2 ^ 63) ∧ xs.length * k.toNat ≤ sizeLine then .ok (List.replicate k.toNat xs).flatten e2 else .bad
  | _, _ => .bad
theorem sn_rep {a b : Expr} {p q : XE} (ha : SE X W a p) (hb : SE X W b q) : SN X W (.BinOp a .Mult b pos) (nRep p q) := by
  refine PE.imp (pe_op op_rep ha hb) fun σ H Q ⟨B, e, Z, R0, hq⟩ => ?_
  refine rn_bind R0 hq fun v1 Z1 e1 d1 H1 s1 R1 D1 h1 => ?_
  refine rn_bind R1 h1 fun v2 Z2 e2 d2 H2 s2 R2 D2 h2 => ?_
  split at h2
  · split at h2
    · rename_i hc
      obtain ⟨a, ws, rfl, g1, g2⟩ := dp_list (dp_mono s2 D1)
      cases dp_int D2
      exact ⟨a, _, ws, rfl, rfl, R2.sub _ _ g1, hc.1.1, hc.1.2, by rw [dpa_len g2]; exact hc.2, pgf_new R2 (dpa_rep g2 _) h2⟩
    · exact h2.elim
  · exact h2.elim
theorem nl_rep {p q : XE} {e e1 e2 : En} {xs : List D} {k : Int} (h1 : p e = .ok (.list xs) e1) (h2 : q e1 = .ok (.int k) e2) (h3 : (-(2 ^ 63) ≤ k ∧ k < 2 ^ 63) ∧ xs.length * k.toNat ≤ sizeLine) : nRep p q e = .ok (List.replicate k.toNat xs).flatten e2 := by
  unfold nRep
  rw [h1]
  show (q e1).bind _ = _
  rw [h2]
  exact if_pos h3
end
end G
set_option Elab.async false
set_option linter.all false
set_option maxRecDepth 100000
/-! list(zip(a, b)) of two lists -/
namespace G
open PySem PySem.Spec PyProof.Rows L2
theorem lz_no_len : typeLookup (.type "zip") "__len__" = pure none := am_miss_of_fast (by decide +kernel)
theorem lz_no_hint : typeLookup (.type "zip") "__length_hint__" = pure none := am_miss_of_fast (by decide +kernel)
/-- the parts of a zip over lists, at turn i, while the list S is filled -/
structure Lz (z TI TO i1 i2 l1 l2 S : Addr) (us1 us2 : Array Value) (i : Nat) (h : Heap) : Prop where
  to : ∃ o, h.get? TO = some o
  ti : IsPair h TI (.ref i1) (.ref i2)
  it1 : h.IsListIter i1 l1 i
  it2 : h.IsListIter i2 l2 i
  ls1 : h.IsList l1 us1
  ls2 : h.IsList l2 us2
  zs : (IsZip h z TI TO .none ∧ ∃ a b, IsPair h TO a b) ∨ ∃ T f o, IsZipHeld h z TI TO T f ∧ h.get? T = some o ∧ T ≠ z ∧ T ≠ i1 ∧ T ≠ i2 ∧ T ≠ S
section
variable {X : Cx} {W : WX} {pins : List (Addr × Obj)} {σ : L2.St} {B : Bs} {e : En} {Z0 : Hp} {z TI TO i1 i2 l1 l2 S : Addr} {us1 us2 : Array Value} {xs ys : List V} {as bs : List D}
/-- how it stands at turn i -/
structure Lj (X : Cx) (pins : List (Addr × Obj)) (σ : L2.St) (B : Bs) (e : En) (Z0 : Hp) (z TI TO i1 i2 l1 l2 S : Addr) (us1 us2 : Array Value) (xs ys : List V) (as bs : List D) (i : Nat) (s : Shared) : Prop where
  ex : ∃ Z H vs, Same Z0 Z ∧ Rl X.K B e σ Z H ∧ Inv X pins σ H s ∧ H S = some (.lst vs) ∧ Z S = none ∧ (B.H S = none ∨ B.W S) ∧ ¬ Owns e σ S ∧ DqAll X.K Z vs ((zipD as bs).take i) ∧ DqAll X.K Z xs as ∧ DqAll X.K Z ys bs ∧
    (∀ b ∈ [z, TO, i1, i2], FpOk X pins H b)
  lz : Lz z TI TO i1 i2 l1 l2 S us1 us2 i s.heap
structure Ld (z TI TO i1 i2 l1 l2 S : Addr) : Prop where
  ap : ZipApart z TI TO i1 i2 l1 l2
  ne : S ≠ z ∧ S ≠ TI ∧ S ≠ TO ∧ S ≠ i1 ∧ S ≠ i2 ∧ S ≠ l1 ∧ S ≠ l2
theorem vals_get {vs : List V} {us : List Value} (h : Vals vs us) {i : Nat} {u : Value} (q : us[i]? = some u) : ∃ v, vs[i]? = some v ∧ RelV v u := by
  induction h generalizing i with
  | nil => simp at q
  | cons a r ih =>
    cases i with
    | zero => exact ⟨_, rfl, by simp at q; subst q; exact a⟩
    | succ i => obtain ⟨v, h1, h2⟩ := ih (i := i) (by simpa using q); exact ⟨v, by simpa using h1, h2⟩
theorem lz_step (D : Ld z TI TO i1 i2 l1 l2 S) (r1 : Vals xs us1.toList) (r2 : Vals ys us2.toList) (hl1 : xs.length = as.length) (hl2 : ys.length = bs.length) {i : Nat} {s : Shared} {E : Value → Shared → Prop} {Q : Option Value → Shared → Prop} (hi : i < min as.length bs.length) (hsz : i < sizeLine)
    (J : Lj X pins σ B e Z0 z TI TO i1 i2 l1 l2 S us1 us2 xs ys as bs i s)
    (hQ : ∀ T h' acc c, h'.get? S = some { cls := .type "list", dict := none, data := .seq acc c, slots := #[] } → acc.size = i → (∀ h'' c', (∀ b o, b ≠ S → h'.get? b = some o → h''.get? b = some o) → h''.get? S = some { cls := .type "list", dict := none, data := .seq (acc.push (.ref T)) c', slots := #[] } →
      Lj X pins σ B e Z0 z TI TO i1 i2 l1 l2 S us1 us2 xs ys as bs (i + 1) { s with heap := h'' }) → Q (some (.ref T)) { s with heap := h' }) {A : Around} : wpAny (model X.prog X.w) A (pyNext (.ref z)) Q E s := by
  obtain ⟨⟨Z, H, vs, sz, R, I, hS, zS, fS, oS, dv, d1, d2, hf⟩, ⟨⟨oTO, hTO0⟩, hTI, h1, h2, g1, g2, hz⟩⟩ := J
  have e1 : us1.toList.length = as.length := by rw [← r1.length, hl1]
  have e2 : us2.toList.length = bs.length := by rw [← r2.length, hl2]
  have b1 : i < us1.size := by rw [← Array.length_toList, e1]; omega
  have b2 : i < us2.size := by rw [← Array.length_toList, e2]; omega
  have x1 := Array.getElem?_eq_getElem b1
  have x2 := Array.getElem?_eq_getElem b2
  obtain ⟨v1, q1, rv1⟩ := vals_get r1 (i := i) (u := us1[i]) (by rw [Array.getElem?_toList]; exact x1)
  obtain ⟨v2, q2, rv2⟩ := vals_get r2 (i := i) (u := us2[i]) (by rw [Array.getElem?_toList]; exact x2)
  obtain ⟨a, qa, da⟩ := dpa_get' d1 q1
  obtain ⟨b, qb, db⟩ := dpa_get' d2 q2
  obtain ⟨hlen, us, c, ru, hu⟩ := I.hok S _ hS
  have lenv : vs.length = i := by rw [dpa_len dv, List.length_take, zipD_len]; omega
  have lt : ∀ {c : Addr} {o : Obj}, s.heap.get? c = some o → s.heap.objs.size ≠ c := fun e => Nat.ne_of_gt (Heap.lt_size e)
  have nS : s.heap.objs.size ≠ S := lt hu
  have n1 : s.heap.objs.size ≠ i1 := let ⟨_, e, _⟩ := h1; lt e
  have n2 : s.heap.objs.size ≠ i2 := let ⟨_, e, _⟩ := h2; lt e
  have zT : s.heap.objs.size ≠ z := by rcases hz with ⟨hz, _⟩ | ⟨_, _, _, hz, _⟩ <;> exact lt hz
  have hnT : H s.heap.objs.size = none := I.hok.fresh (Nat.le_refl _)
  -- both ways end alike
  have fin : ∀ h' f, IsZipHeld h' z TI TO s.heap.objs.size f ∨ (∃ T o, IsZipHeld h' z TI TO T f ∧ h'.get? T = some o ∧ T ≠ z ∧ T ≠ i1 ∧ T ≠ i2 ∧ T ≠ S) → h'.IsListIter i1 l1 (i + 1) → h'.IsListIter i2 l2 (i + 1) → IsPair h' s.heap.objs.size us1[i] us2[i] →
      (∀ c o, c ≠ z → c ≠ TO → c ≠ i1 → c ≠ i2 → s.heap.get? c = some o → h'.get? c = some o) → (∃ o, h'.get? TO = some o) → Q (some (.ref s.heap.objs.size)) { s with heap := h' } := fun h' f a1 a2 a3 a4 hk hto => by
    have kTO : ∀ h'' : Heap, (∀ o, h'.get? TO = some o → h''.get? TO = some o) → ∃ o, h''.get? TO = some o := fun h'' k => let ⟨o, q⟩ := hto; ⟨o, k o q⟩
    have hu' : h'.get? S = some { cls := .type "list", dict := none, data := .seq us.toArray c, slots := #[] } := by
      have hu2 : s.heap.get? S = some { cls := .type "list", dict := none, data := .seq us.toArray c, slots := #[] } := by rw [hu]
      exact hk _ _ D.ne.1 D.ne.2.2.1 D.ne.2.2.2.1 D.ne.2.2.2.2.1 hu2
    refine hQ _ h' us.toArray c hu' (by simp [← ru.length, lenv]) fun h'' c' k2 hS'' => ?_
    have k3 : ∀ c o, c ≠ z → c ≠ TO → c ≠ i1 → c ≠ i2 → c ≠ S → s.heap.get? c = some o → h''.get? c = some o := fun c o c1 c2 c3 c4 c5 q => k2 c o c5 (hk c o c1 c2 c3 c4 q)
    have hT2 : h''.get? s.heap.objs.size = some { cls := .type "tuple", data := .seq #[us1[i], us2[i]] } := k2 _ _ nS a4
    have newT : ObjOk X.prog X.w (upd H s.heap.objs.size (.tup [v1, v2])) h' s.heap.objs.size (.tup [v1, v2]) := ⟨by show 2 ≤ sizeLine; decide, [us1[i], us2[i]], .cons rv1 (.cons rv2 .nil), ⟨_, a4, rfl, _, rfl⟩⟩
    have I1 : Inv X pins σ (upd H s.heap.objs.size (.tup [v1, v2])) { s with heap := h' } :=
      I.turnedNew (t' := s.toks) (ch := [z, TO, i1, i2]) (fun c o hb q => hk c o (fun q' => hb (by simp [q'])) (fun q' => hb (by simp [q'])) (fun q' => hb (by simp [q'])) (fun q' => hb (by simp [q'])) q) hf (Nat.le_refl _) newT
    have hS1 : upd H s.heap.objs.size (.tup [v1, v2]) S = some (.lst vs) := by rw [upd_ne (Ne.symm nS)]; exact hS
    have newS : ObjOk X.prog X.w (upd (upd H s.heap.objs.size (.tup [v1, v2])) S (.lst (vs ++ [.ref s.heap.objs.size]))) h'' S (.lst (vs ++ [.ref s.heap.objs.size])) := by
      refine ⟨by rw [List.length_append, lenv]; exact hsz, us ++ [.ref s.heap.objs.size], c', ru.append (.cons (show RelV (.ref s.heap.objs.size) (.ref s.heap.objs.size) from rfl) .nil), ?_⟩
      rw [hS'']
      simp
    have I2 : Inv X pins σ (upd (upd H s.heap.objs.size (.tup [v1, v2])) S (.lst (vs ++ [.ref s.heap.objs.size]))) { s with heap := h'' } :=
      Inv.write (s := { s with heap := h' }) (t' := s.toks) I1 (by rw [hS1]; trivial) (.inl rfl) (fun b u hb q => k2 b u hb q) ⟨_, hS''⟩ newS
    obtain ⟨R1, s1⟩ := R.new (o := .tup [v1, v2]) hnT
    have zS1 : upd Z s.heap.objs.size (.tup [v1, v2]) S = none := by rw [upd_ne (Ne.symm nS)]; exact zS
    have R2 := R1.wr (o := .lst (vs ++ [.ref s.heap.objs.size])) zS1 fS oS
    have dT : Dq X.K (upd Z s.heap.objs.size (.tup [v1, v2])) (.ref s.heap.objs.size) (.tuple [a, b]) := .tup (.inl (.inl upd_same)) (.cons (dp_mono s1 da) (.cons (dp_mono s1 db) .nil))
    refine ⟨⟨_, _, vs ++ [.ref s.heap.objs.size], sz.trans s1, R2, I2, upd_same, zS1, fS, oS, ?_, dpa_mono s1 d1, dpa_mono s1 d2, fun b hb => ?_⟩, ⟨?_, ?_, ?_, ?_, ?_, ?_, ?_⟩⟩
    · have et : (zipD as bs).take (i + 1) = (zipD as bs).take i ++ [.tuple [a, b]] := by
        have hg := zipD_get as bs i a b qa qb
        have hlt : i < (zipD as bs).length := (List.getElem?_eq_some_iff.mp hg).1
        rw [List.take_succ, hg]; rfl
      rw [et]
      exact dpa_app (dpa_mono s1 dv) (.cons dT .nil)
    · have q := hf b hb
      have nb : b ≠ s.heap.objs.size := by
        have : ∃ o, s.heap.get? b = some o := by
          simp only [List.mem_cons, List.not_mem_nil, or_false] at hb
          rcases hb with rfl | rfl | rfl | rfl
          · rcases hz with ⟨hz, _⟩ | ⟨_, _, _, hz, _⟩ <;> exact ⟨_, hz⟩
          · exact ⟨_, hTO0⟩
          · obtain ⟨_, q, _⟩ := h1; exact ⟨_, q⟩
          · obtain ⟨_, q, _⟩ := h2; exact ⟨_, q⟩
        obtain ⟨o, q⟩ := this
        exact Nat.ne_of_lt (Heap.lt_size q)
      have nS2 : b ≠ S := by
        obtain ⟨m1, m2, m3, m4, m5, _⟩ := D.ne
        simp only [List.mem_cons, List.not_mem_nil, or_false] at hb
        rcases hb with rfl | rfl | rfl | rfl
        · exact m1.symm
        · exact m3.symm
        · exact m4.symm
        · exact m5.symm
      exact ⟨by rw [upd_ne nS2, upd_ne nb]; exact q.1, q.2⟩
    · obtain ⟨m1, m2, m3, m4, m5, _⟩ := D.ne
      exact kTO h'' fun o q => k2 _ o m3.symm q
    · exact k3 _ _ D.ap.TIz D.ap.TITO D.ap.TIi1 D.ap.TIi2 D.ne.2.1.symm hTI
    · exact a2.at fun o q => k2 _ o D.ne.2.2.2.1.symm q
    · exact a3.at fun o q => k2 _ o D.ne.2.2.2.2.1.symm q
    · exact g1.at fun o q => k3 _ o D.ap.l1z D.ap.l1TO D.ap.l1i1 D.ap.l1i2 D.ne.2.2.2.2.2.1.symm q
    · exact g2.at fun o q => k3 _ o D.ap.l2z D.ap.l2TO D.ap.l2i1 D.ap.l2i2 D.ne.2.2.2.2.2.2.symm q
    · rcases a1 with a1 | ⟨T, o, a1, t0, t1, t2, t3, t4⟩
      · exact .inr ⟨_, f, _, k2 _ _ D.ne.1.symm a1, hT2, zT, n1, n2, nS⟩
      · exact .inr ⟨T, f, o, k2 _ _ D.ne.1.symm a1, k2 _ _ t4 t0, t1, t2, t3, t4⟩
  rcases hz with ⟨hz, a', b', hTO⟩ | ⟨T, f, o, hz, hT, t1, t2, t3, t4⟩
  · refine wpAny_pyNext_zip_item D.ap hz hTI hTO h1 h2 g1 g2 x1 x2 fun h' a1 a2 a3 a4 a5 a6 hk => ?_
    exact fin h' false (.inl a1) a3 a4 a5 hk ⟨_, a2⟩
  · refine wpAny_pyNext_zip_item_held D.ap hz hT hTI h1 h2 g1 g2 x1 x2 fun h' a1 a3 a4 a5 a6 hk => ?_
    exact fin h' true (.inr ⟨T, o, a1, hk _ _ t1 t2 t3 hT, t1, t2, t3, t4⟩) a3 a4 a5 (fun c o c1 _ c3 c4 q => hk c o c1 c3 c4 q) ⟨_, hk _ _ D.ap.TOz D.ap.TOi1 D.ap.TOi2 hTO0⟩
theorem lz_end (D : Ld z TI TO i1 i2 l1 l2 S) (r1 : Vals xs us1.toList) (r2 : Vals ys us2.toList) (hl1 : xs.length = as.length) (hl2 : ys.length = bs.length) {s : Shared} {E : Value → Shared → Prop} {Q : Option Value → Shared → Prop} {A : Around} (hh : A.handled = none)
    (J : Lj X pins σ B e Z0 z TI TO i1 i2 l1 l2 S us1 us2 xs ys as bs (min as.length bs.length) s)
    (hQ : ∀ h' Z H vs, Same Z0 Z → Rl X.K B e σ Z H → Inv X pins σ H { s with heap := h' } → H S = some (.lst vs) → Z S = none → (B.H S = none ∨ B.W S) → ¬ Owns e σ S → DqAll X.K Z vs (zipD as bs) → Q none { s with heap := h' }) :
    wpAny (model X.prog X.w) A (pyNext (.ref z)) Q E s := by
  obtain ⟨⟨Z, H, vs, sz, R, I, hS, zS, fS, oS, dv, d1, d2, hf⟩, ⟨_, hTI, h1, h2, g1, g2, hz⟩⟩ := J
  rw [List.take_of_length_le (by rw [zipD_len]; exact Nat.le_refl _)] at dv
  have e1 : us1.size = as.length := by rw [← Array.length_toList, ← r1.length, hl1]
  have e2 : us2.size = bs.length := by rw [← Array.length_toList, ← r2.length, hl2]
  have hend : us1[min as.length bs.length]? = none ∨ us2[min as.length bs.length]? = none := by
    rcases Nat.le_total as.length bs.length with h | h
    · exact .inl (Array.getElem?_eq_none (by omega))
    · exact .inr (Array.getElem?_eq_none (by omega))
  have fin : ∀ h' : Heap, (∀ c o, c ≠ z → c ≠ TO → c ≠ i1 → c ≠ i2 → s.heap.get? c = some o → h'.get? c = some o) → Q none { s with heap := h' } := fun h' hk =>
    hQ h' Z H vs sz R (I.turnedL (t' := s.toks) (ch := [z, TO, i1, i2]) (fun c o hb q => hk c o (fun q' => hb (by simp [q'])) (fun q' => hb (by simp [q'])) (fun q' => hb (by simp [q'])) (fun q' => hb (by simp [q'])) q) hf) hS zS fS oS dv
  rcases hz with ⟨hz, a', b', hTO⟩ | ⟨T, f, o, hz, hT, _⟩
  · exact wpAny_pyNext_zip_end hh D.ap hz hTI hTO h1 h2 g1 g2 hend fun h' hk => fin h' hk
  · exact wpAny_pyNext_zip_end_held hh D.ap hz hT hTI h1 h2 g1 g2 hend fun h' hk => fin h' fun c o c1 _ c3 c4 q => hk c o c1 c3 c4 q
/-- the list is filled -/
theorem lz_fill (D : Ld z TI TO i1 i2 l1 l2 S) (r1 : Vals xs us1.toList) (r2 : Vals ys us2.toList) (hl1 : xs.length = as.length) (hl2 : ys.length = bs.length) (hn : min as.length bs.length ≤ sizeLine) {A : Around} (hh : A.handled = none) {Rr : Result → Shared → Prop}
    (hR : ∀ s' Z H vs, Same Z0 Z → Rl X.K B e σ Z H → Inv X pins σ H s' → H S = some (.lst vs) → Z S = none → (B.H S = none ∨ B.W S) → ¬ Owns e σ S → DqAll X.K Z vs (zipD as bs) → Rr (.ok (.ret .none)) s') :
    ∀ (k i : Nat) (s : Shared), i + k = min as.length bs.length → Lj X pins σ B e Z0 z TI TO i1 i2 l1 l2 S us1 us2 xs ys as bs i s → codeAny (model X.prog X.w) A (.builtin "list.extend.loop" ⟨[.ref S, .ref z, .none], []⟩) Rr s := by
  intro k
  induction k with
  | zero =>
    intro i s hi J
    refine codeAny_builtin F.entry_extend_loop ?_
    rw [Around.under_plainId F.plain_extend_loop _, show i = min as.length bs.length by omega] at *
    exact wpAny_bind (lz_end (A := A.in1) D r1 r2 hl1 hl2 hh J fun h' Z H vs q1 q2 q3 q4 q5 q6 q7 q8 => wpAny_pure (hR _ Z H vs q1 q2 q3 q4 q5 q6 q7 q8))
  | succ k ih =>
    intro i s hi J
    refine codeAny_builtin F.entry_extend_loop ?_
    rw [Around.under_plainId F.plain_extend_loop _]
    refine wpAny_bind (lz_step (A := A.in1) D r1 r2 hl1 hl2 (by omega) (by omega) J fun T h' acc c hS ha hJ => wpAny_bind ?_)
    refine wpAny_updateSeq (s := { s with heap := h' }) hS rfl (wpAny_pure ⟨plainId_quiet F.plain_extend_loop _, ih (i + 1) _ (by omega) (hJ _ _ (fun b o hb q => (Heap.get?_update_other _ _ (Ne.symm hb)).trans q) (Heap.get?_update_self _ hS rfl))⟩) (by omega) ?_
    show (acc.push (Value.ref T)).size ≤ sizeLine + 1
    rw [Array.size_push]
    omega
theorem nn {a b : Nat} (h : a < b) : a ≠ b := Nat.ne_of_lt h
def gLZ : List D → Option (List D)
  | [.list as, .list bs] => if min as.length bs.length ≤ sizeLine then some (zipD as bs) else none
  | _ => none
theorem gLZ_of {ds xs : List D} (h : gLZ ds = some xs) : ∃ as bs, ds = [.list as, .list bs] ∧ min as.length bs.length ≤ sizeLine ∧ xs = zipD as bs := by
  unfold gLZ at h
  split at h
  · split at h
    · cases h; exact ⟨_, _, rfl, by assumption, rfl⟩
    · cases h
  · cases h
theorem sn_listZip {a b : Expr} {q : XA} {p p2 pos pos2 : Pos} (hc : X.calm = true) (hg : Gl X "list") (hm : X.mg "list" = none) (hg2 : Gl X "zip") (hm2 : X.mg "zip" = none) (ha : SA X W [a, b] q)
    (hs : starEach [a, b] X.env = (false, eval a X.env) :: starEach [b] X.env := by rfl) (hpl : (backTo pos2 (starEach [b] X.env)).any (·.1) = false := by rfl)
    (he : starEach [.Call (.Name "zip" p2) [a, b] [] pos2] X.env = (false, eval (.Call (.Name "zip" p2) [a, b] [] pos2) X.env) :: starEach [] X.env := by rfl) :
    SN X W (.Call (.Name "list" p) [.Call (.Name "zip" p2) [a, b] [] pos2] [] pos) (nCall gLZ q) := by
  refine ⟨fun pins s σ H Q I ⟨B, e, Z, R0, hq⟩ => ?_⟩
  have h1 : RA X.K X.mg W q σ H fun vs H1 => ∃ l1 l2 xs ys as bs B e Z1, vs = [.ref l1, .ref l2] ∧ Rl X.K B e σ Z1 H1 ∧ Z1 l1 = some (.lst xs) ∧ Z1 l2 = some (.lst ys) ∧ DqAll X.K Z1 xs as ∧ DqAll X.K Z1 ys bs ∧ min as.length bs.length ≤ sizeLine ∧ PgF X.K X.mg W B σ Z1 (R.ok (zipD as bs) e) Q := by
    refine rn_bind R0 hq fun v1 Z1 e1 d1 H1 s1 R1 D1 h1 => ?_
    obtain ⟨ds, e2, h2⟩ := pgf_lift h1
    obtain ⟨as, bs, rfl, hle, rfl⟩ := gLZ_of e2
    obtain ⟨v, w, rfl, da, db⟩ := dpa_2 D1
    obtain ⟨l1, xs, rfl, g1, g2⟩ := dp_list da
    obtain ⟨l2, ys, rfl, g3, g4⟩ := dp_list db
    exact ⟨l1, l2, xs, ys, as, bs, B, e1, Z1, rfl, R1, g1, g3, g2, g4, hle, h2⟩
  have hh : X.A.handled = none := I.ok.hd hc
  refine wpAny_Call_Name_kw (ld_blt I hg hm (u := .type "list") (by decide +kernel) ?_)
  refine PyProof.Rows.callWith_type1 ?_ he rfl
  rw [he]
  refine Calls.spliced_cons ?_
  refine Call_ (ld_blt I hg2 hm2 PyProof.Rows.boot_zip (PyProof.Rows.callWith_type1 (thn (ha.run pos2 pins s σ H _ I h1) fun us s1 ⟨vs, H1, I1, r1, q1⟩ => ?_) hs hpl))
  obtain ⟨l1, l2, xs, ys, as, bs, B, e, Z1, rfl, R1, z1, z2, d1, d2, hle, hQ⟩ := q1
  cases r1 with
  | cons ra rr =>
    cases rr with
    | cons rb rr =>
      cases rr
      cases ra
      cases rb
      obtain ⟨us1, rv1, p1, _⟩ := I1.list (a := l1) (xs := xs) (.inl (.inl (R1.sub _ _ z1)))
      obtain ⟨us2, rv2, p3, _⟩ := I1.list (a := l2) (xs := ys) (.inl (.inl (R1.sub _ _ z2)))
      refine call_zip_2 p1.isList p3.isList fun h' hz hTI hTO hi1 hi2 hsz hk => Calls.spliced_nil ?_
      have hTy : ∀ (g : Heap) (t : Nat), (∀ c o, h'.get? c = some o → c ≠ h'.objs.size → g.get? c = some o) → ({ s1 with heap := g, toks := t } : Shared).TypeIs (.ref (s1.heap.objs.size + 4)) "zip" := fun g t k => ⟨_, k _ _ hz (nn (by omega)), rfl⟩
      have ne4 : (h'.objs.size == s1.heap.objs.size + 4) = false := by rw [hsz]; simp
      refine callType_codes (Q₁ := fun obj s₁ => obj = .ref h'.objs.size ∧ s₁ = { s1 with heap := h'.push { cls := .type "list", data := .seq #[] } }) F.called_list (F.typeCall_list_1 _) F.entry_list_init (code_list_new _ ⟨rfl, rfl⟩) fun obj s₁ h₁ => ?_
      obtain ⟨rfl, rfl⟩ := h₁
      have g0 : (h'.push { cls := .type "list", data := .seq #[] }).get? h'.objs.size = some { cls := .type "list", data := .seq #[] } := Heap.get?_push_size _ rfl
      refine ⟨⟨_, g0, rfl⟩, F.args_list_init_2 _ _, ?_⟩
      refine wpAny_bind (m := Builtin.List.listItems (.ref h'.objs.size)) (show wpAny _ _ (seqItems? _ >>= _) _ _ _ from wpAny_bind (wpAny_seqItems g0 rfl (wpAny_pure ?_)))
      refine wpAny_bind (m := updateSeq h'.objs.size (fun _ => #[])) (wpAny_updateSeq g0 rfl ?_)
      have g1 := Heap.get?_update_self (Obj.mapSeq (fun _ => (#[] : Array Value))) g0 rfl
      refine wpAny_bind (wpAny_letGo ?_)
      have k1 : ∀ c o, h'.get? c = some o → c ≠ h'.objs.size → ((h'.push { cls := .type "list", data := .seq #[] }).update h'.objs.size (Obj.mapSeq (fun _ => (#[] : Array Value)))).get? c = some o := fun c o q hc => (Heap.get?_update_other _ _ (Ne.symm hc)).trans (Heap.get?_push_of_some _ q)
      unfold Builtin.List.listExtendWith
      refine wpAny_bind (wpAny_typeOf (hTy _ _ k1) ?_)
      have w1 : Builtin.List.listSameRef (.ref h'.objs.size) (.ref (s1.heap.objs.size + 4)) = false := ne4
      have w2 : (Value.type "zip" == Value.type "list") = false := by decide
      have w3 : (Value.type "zip" == Value.type "tuple") = false := by decide
      simp only [w1, w2, w3, Bool.or_false, Bool.false_eq_true, if_false]
      refine wpAny_bind (wpAny_pyIter_zip (s := { s1 with heap := _ }) (k1 _ _ hz (nn (by omega))) ?_)
      refine wpAny_bind (wpAny_holding ?_)
      unfold Builtin.List.listLengthHint
      refine wpAny_bind (wpAny_specialOf (hTy _ _ k1) lz_no_len ?_)
      refine wpAny_bind (m := specialOf (Value.ref (s1.heap.objs.size + 4)) (Str.ofString "__length_hint__")) (wpAny_specialOf (hTy _ _ k1) lz_no_hint ?_)
      refine wpAny_pure ?_
      refine wpAny_bind (m := rule "list.extend.makes-room") (wpAny_rule ?_)
      refine wpAny_bind (m := updateSeq h'.objs.size (·.push .none) >>= fun _ => updateSeq h'.objs.size (·.pop)) (wpAny_bind (wpAny_updateSeq g1 rfl ?_))
      have g2 := Heap.get?_update_self (Obj.mapSeq (·.push Value.none)) g1 rfl
      refine wpAny_updateSeq (hz := by seq_fits) g2 rfl ?_
      have g3 := Heap.get?_update_self (Obj.mapSeq (·.pop)) g2 rfl
      have k3 : ∀ c o, h'.get? c = some o → c ≠ h'.objs.size → ((((h'.push { cls := .type "list", data := .seq #[] }).update h'.objs.size (Obj.mapSeq (fun _ => (#[] : Array Value)))).update h'.objs.size (Obj.mapSeq (·.push Value.none))).update h'.objs.size (Obj.mapSeq (·.pop))).get? c = some o :=
        fun c o q hc => (Heap.get?_update_other _ _ (Ne.symm hc)).trans ((Heap.get?_update_other _ _ (Ne.symm hc)).trans (k1 c o q hc))
      have k4 : ∀ c o, s1.heap.get? c = some o → c ≠ h'.objs.size := fun c o q => Nat.ne_of_lt (Nat.lt_of_lt_of_le (Heap.lt_size q) (by omega))
      have hS : s1.heap.objs.size ≤ h'.objs.size := by omega
      have nS : H1 h'.objs.size = none := I1.hok.fresh hS
      have lt1 : @LT.lt Nat _ l1 s1.heap.objs.size := let ⟨_, q, _⟩ := p1.isList; Heap.lt_size q
      have lt2 : @LT.lt Nat _ l2 s1.heap.objs.size := let ⟨_, q, _⟩ := p3.isList; Heap.lt_size q
      have f : ∀ b : Addr, @LE.le Nat _ s1.heap.objs.size b → @LT.lt Nat _ b h'.objs.size → FpOk X pins (upd H1 h'.objs.size (.lst [])) b := fun b hb hb2 => I1.fpOk hb (by rw [upd_ne (Nat.ne_of_lt hb2)]; exact I1.hok.fresh hb)
      have ff : ∀ b ∈ [s1.heap.objs.size + 4, s1.heap.objs.size + 3, s1.heap.objs.size, s1.heap.objs.size + 1], FpOk X pins (upd H1 h'.objs.size (.lst [])) b := fun b hb => by
        simp only [List.mem_cons, List.not_mem_nil, or_false] at hb
        rcases hb with rfl | rfl | rfl | rfl
        · exact f _ (by omega) (by omega)
        · exact f _ (by omega) (by omega)
        · exact f _ (by omega) (by omega)
        · exact f _ (by omega) (by omega)
      refine wpAny_pure ⟨plainId_quiet F.plain_extend_loop _, ?_⟩
      refine lz_fill (S := h'.objs.size) (TI := s1.heap.objs.size + 2) (TO := s1.heap.objs.size + 3) (i1 := s1.heap.objs.size) (i2 := s1.heap.objs.size + 1) (l1 := l1) (l2 := l2) (us1 := us1.toArray) (us2 := us2.toArray) (pins := pins) (σ := σ) (B := B) (e := e) (Z0 := Z1) (A := X.A.in1) ⟨by constructor <;> first | exact Nat.ne_of_lt (by omega) | exact Nat.ne_of_gt (by omega), ?_⟩ rv1 rv2 (dpa_len d1) (dpa_len d2) hle hh (fun s' Z' H' vs q1 q2 q3 q4 q5 q6 q7 q8 => ⟨rfl, .ref h'.objs.size, H', q3, rfl, hQ h'.objs.size vs Z' H' q1 q2 q4 q5 q6 q7 q8⟩) (min as.length bs.length) 0 _ (by omega) ⟨⟨Z1, upd H1 h'.objs.size (.lst []), [], Same.refl _, R1.new0 nS, I1.laid (t' := s1.toks) (fun c o q => k3 c o (hk c o q) (k4 c o q)) hS ⟨by show 0 ≤ sizeLine; decide, [], _, .nil, g3⟩, upd_same, R1.noZ nS, R1.fresh nS, R1.noOwn nS, .nil, d1, d2, ff⟩, ⟨⟨_, k3 _ _ hTO (nn (by omega))⟩, k3 _ _ hTI (nn (by omega)), hi1.at fun o q => k3 _ o q (nn (by omega)), hi2.at fun o q => k3 _ o q (nn (by omega)), p1.isList.at fun o q => k3 _ o (hk _ o q) (k4 _ o q), p3.isList.at fun o q => k3 _ o (hk _ o q) (k4 _ o q), .inl ⟨k3 _ _ hz (nn (by omega)), _, _, k3 _ _ hTO (nn (by omega))⟩⟩⟩
      · refine ⟨?_, ?_, ?_, ?_, ?_, ?_, ?_⟩ <;> exact Nat.ne_of_gt (by omega)
end
end G
set_option Elab.async false
set_option linter.all false
set_option maxRecDepth 100000
/-! more words -/
namespace G
open PySem PySem.Spec PyProof.Rows L2
section
variable {X : Cx} {W : WX} {pos : Pos}
def eNeg (p : XE) : XE := fun e => (p e).bind fun d e1 => match d with
  | .int i => .ok (.int (-i)) e1
  | _ => .bad
theorem se_neg {a : Expr} {p : XE} (ha : SE X W a p) : SE X W (.UnaryOp .USub a pos) (eNeg p) := by
  refine PE.imp (pe_un un_neg ha) fun σ H Q ⟨B, e, Z, R0, hq⟩ => ?_
  refine rg_bind R0 hq fun v1 Z1 e1 d1 H1 s1 R1 D1 h1 => ?_
  cases D1 with
  | int i => exact ⟨i, rfl, h1 _ Z1 H1 (Same.refl _) R1 (.int _)⟩
  | non => exact h1.elim
  | bl _ => exact h1.elim
  | str _ => exact h1.elim
  | lst _ _ => exact h1.elim
  | tup _ _ => exact h1.elim
def dOr : D → D → Option D := dI (fun _ _ => True) fun i j => .int (Builtin.bitOr i j)
def dXor : D → D → Option D := dI (fun _ _ => True) fun i j => .int (Builtin.bitXor i j)
theorem se_bitor {a b : Expr} {p q : XE} (ha : SE X W a p) (hb : SE X W b q) : SE X W (.BinOp a .BitOr b pos) (eOp dOr p q) := se_op op_or ok_I0 ha hb
theorem se_bitxor {a b : Expr} {p q : XE} (ha : SE X W a p) (hb : SE X W b q) : SE X W (.BinOp a .BitXor b pos) (eOp dXor p q) := se_op op_xor ok_I0 ha hb
def dMax : List D → Option D
  | [.int i, .int j] => some (.int (if j > i then j else i))
  | _ => none
def dMin : List D → Option D
  | [.int i, .int j] => some (.int (if j < i then j else i))
  | _ => none
def dAbs : List D → Option D
  | [.int i] => some (.int (if i < 0 then -i else i))
  | _ => none
theorem ok_max {K : Frag} : OkC K (fun xs H Q => ∃ i j, xs = [.int i, .int j] ∧ Q (.int (if j > i then j else i)) H) dMax := by
  intro Z H xs ds d Q s D1 e k
  unfold dMax at e
  split at e
  · cases e
    obtain ⟨v, w, rfl, hv, hw⟩ := dpa_2 D1
    cases dp_int hv
    cases dp_int hw
    exact ⟨_, _, rfl, k _ Z H (Nw.refl s) (.int _)⟩
  · cases e
theorem ok_min {K : Frag} : OkC K (fun xs H Q => ∃ i j, xs = [.int i, .int j] ∧ Q (.int (if j < i then j else i)) H) dMin := by
  intro Z H xs ds d Q s D1 e k
  unfold dMin at e
  split at e
  · cases e
    obtain ⟨v, w, rfl, hv, hw⟩ := dpa_2 D1
    cases dp_int hv
    cases dp_int hw
    exact ⟨_, _, rfl, k _ Z H (Nw.refl s) (.int _)⟩
  · cases e
theorem ok_abs {K : Frag} : OkC K (fun xs H Q => ∃ i, xs = [.int i] ∧ Q (.int (if i < 0 then -i else i)) H) dAbs := by
  intro Z H xs ds d Q s D1 e k
  unfold dAbs at e
  split at e
  · cases e
    obtain ⟨v, rfl, hv⟩ := dpa_1 D1
    cases dp_int hv
    exact ⟨_, rfl, k _ Z H (Nw.refl s) (.int _)⟩
  · cases e
theorem se_max2 {a b : Expr} {q : XA} {p : Pos} (hc : X.calm = true) (hg : Gl X "max") (hm : X.mg "max" = none) (ha : SA X W [a, b] q) (he : starEach [a, b] X.env = (false, eval a X.env) :: starEach [b] X.env := by rfl) (hpl : (backTo pos (starEach [b] X.env)).any (·.1) = false := by rfl) : SE X W (.Call (.Name "max" p) [a, b] [] pos) (eCall dMax q) :=
  se_tCB ok_max (pe_callB (call_max2 hc) hg hm (by decide +kernel) ha (by decide) (by decide) he hpl)
theorem se_min2 {a b : Expr} {q : XA} {p : Pos} (hc : X.calm = true) (hg : Gl X "min") (hm : X.mg "min" = none) (ha : SA X W [a, b] q) (he : starEach [a, b] X.env = (false, eval a X.env) :: starEach [b] X.env := by rfl) (hpl : (backTo pos (starEach [b] X.env)).any (·.1) = false := by rfl) : SE X W (.Call (.Name "min" p) [a, b] [] pos) (eCall dMin q) :=
  se_tCB ok_min (pe_callB (call_min2 hc) hg hm (by decide +kernel) ha (by decide) (by decide) he hpl)
theorem se_abs {a : Expr} {q : XA} {p : Pos} (hg : Gl X "abs") (hm : X.mg "abs" = none) (ha : SA X W [a] q) (he : starEach [a] X.env = (false, eval a X.env) :: starEach [] X.env := by rfl) (hpl : (backTo pos (starEach [] X.env)).any (·.1) = false := by rfl) : SE X W (.Call (.Name "abs" p) [a] [] pos) (eCall dAbs q) :=
  se_tCB ok_abs (pe_callB call_abs hg hm (by decide +kernel) ha (by decide) (by decide) he hpl)
/-! int(text) -/
def dIntT : List D → Option D
  | [.str a] => match PySem.intText? a with
    | some n => if a.length ≤ 640 then some (.int n) else none
    | none => none
  | _ => none
theorem ok_intT {K : Frag} : OkC K (fun xs H Q => ∃ a n, xs = [.str a] ∧ PySem.intText? a = some n ∧ a.length ≤ 640 ∧ Q (.int n) H) dIntT := by
  intro Z H xs ds d Q s D1 e k
  unfold dIntT at e
  split at e
  · obtain ⟨v, rfl, hv⟩ := dpa_1 D1
    cases dp_str hv
    split at e
    · rename_i n hn
      split at e
      · cases e
        exact ⟨_, n, rfl, hn, by assumption, k _ Z H (Nw.refl s) (.int _)⟩
      · cases e
    · cases e
  · cases e
def dIntA (ds : List D) : Option D := (dInt ds).orElse fun _ => dIntT ds
theorem callr_or {f : Value} {r r' : List V → Hp → VK → Prop} (h : CallR X f r) (h' : CallR X f r') : CallR X f (fun xs H Q => r xs H Q ∨ r' xs H Q) :=
  fun pins s σ H xs us Q I rv q => q.elim (h pins s σ H xs us Q I rv) (h' pins s σ H xs us Q I rv)
theorem se_intA {a : Expr} {q : XA} {p : Pos} (hg : Gl X "int") (hm : X.mg "int" = none) (ha : SA X W [a] q) (he : starEach [a] X.env = (false, eval a X.env) :: starEach [] X.env := by rfl) (hpl : (backTo pos (starEach [] X.env)).any (·.1) = false := by rfl) : SE X W (.Call (.Name "int" p) [a] [] pos) (eCall dIntA q) :=
  se_tCB (okC_or ok_int ok_intT) (pe_callTy (callr_or call_int1 call_int_str) hg hm (by decide +kernel) ha (by decide) (by decide) he hpl)
/-! the script: len, a walk -/
def eLenScr (i : Nat) : XE := fun e => match e[i]? with
  | some (.scr xs) => .ok (.int (xs.length : Nat)) e
  | _ => .bad
theorem se_lenScr {i : Nat} {x : Str} {px p : Pos} (hg : Gl X "len") (hm : X.mg "len" = none) (ha : PE X (.Name x px) (tVar i)) (he : starEach [.Name x px] X.env = (false, eval (.Name x px) X.env) :: starEach [] X.env := by rfl) (hpl : (backTo pos (starEach [] X.env)).any (·.1) = false := by rfl) : SE X W (.Call (.Name "len" p) [.Name x px] [] pos) (eLenScr i) := by
  refine PE.imp (pe_callB call_len_seq hg hm PySem.boot_len (pa_cons ha pa_nil he) (by decide) (by decide) he hpl) fun σ H Q ⟨B, e, Z, R0, hq⟩ => ?_
  unfold eLenScr at hq
  split at hq
  · rename_i xs he
    obtain ⟨a, vs, h1, h2, h3⟩ := R0.scr he
    refine ⟨_, h1, a, vs, rfl, .inl (Same.seq R0.sub h2), ?_⟩
    rw [dpa_len h3]
    exact hq _ Z H (Same.refl _) R0 (.int _)
  · exact hq.elim
def iScr (i : Nat) : XI := fun e => match e[i]? with
  | some (.scr xs) => .ok xs e
  | _ => .bad
theorem si_scr {tg : Expr} {i : Nat} {x : Str} {px : Pos} (h : PE X (.Name x px) (tVar i)) : SI X W tg (.Name x px) (iScr i) := by
  refine ⟨fun pins s σ H R I ⟨B, e, Z, R0, hq⟩ => ?_⟩
  have h1 : tVar i σ H fun v H1 => ∃ a vs, v = .ref a ∧ SqL X.K H1 a vs ∧ R (Itl X.K a) H1 := by
    unfold iScr at hq
    split at hq
    · rename_i xs he
      obtain ⟨a, vs, e1, e2, e3⟩ := R0.scr he
      exact ⟨_, e1, a, vs, rfl, Same.seq R0.sub e2, hq _ Z H (Same.refl _) R0 (wk_list e2 e3)⟩
    · exact hq.elim
  refine thn (h.run pins s σ H _ I h1) fun v s1 ⟨x, H1, I1, r1, a, vs, e1, q, hr⟩ => ?_
  exact it_list pins s1 σ H1 x v R I1 r1 ⟨a, vs, e1, q, hr⟩
/-! xs.pop(i) -/
def mPop : List D → List D → Option (D × List D)
  | xs, [.int i] => if -(2 ^ 63) ≤ i ∧ i < 2 ^ 63 then match ixN xs.length i with
    | some k => match xs[k]? with
      | some y => some (y, xs.eraseIdx k)
      | none => none
    | none => none
    else none
  | _, _ => none
theorem ok_popAt {K : Frag} : OkMut K rPopAt mPop := by
  intro Z H l xs vs ds as d ys Q s h1 h2 h3 h4 e k
  unfold mPop at e
  split at e
  · split at e
    · rename_i hb
      split at e
      · rename_i k' hk
        split at e
        · rename_i y hy
          cases e
          obtain ⟨v, rfl, hv⟩ := dpa_1 h4
          cases dp_int hv
          rw [← dpa_len h3] at hk
          obtain ⟨u, hu, du⟩ := dpa_get h3 hy
          exact ⟨l, xs, _, k', u, rfl, rfl, h1, hb.1, hb.2, (ixN_seq hk).1, hu, k _ _ (dpa_erase k' h3) du⟩
        · cases e
      · cases e
    · cases e
  · cases e
theorem se_pop {i : Nat} {x : Str} {px ap pos : Pos} {a : Expr} {q : XA} (hx : PE X (.Name x px) (tVar i)) (ha : SA X W [a] q)
    (hbase : attributeBase (.Name x px) "pop" X.env (eval (.Name x px) X.env) = eval (.Name x px) X.env := by rfl)
    (hfew : ((backTo pos (starEach [a] X.env)).all (fun x => !x.1) && (backToKw pos (keywordEach [] X.env)).all (fun x => x.1.isSome)
      && decide ([a].length + ([] : List Keyword).length + (if ([] : List Keyword).isEmpty then 0 else 1) < 30)) = true := by rfl)
    (hline : (ap.endLine == pos.line) = true := by rfl) (hs : starEach [a] X.env = (false, eval a X.env) :: starEach [] X.env := by rfl) (hplain : (backTo pos (starEach [] X.env)).any (·.1) = false := by rfl) :
    SE X W (.Call (.Attribute (.Name x px) "pop" ap) [a] [] pos) (eMut i mPop q) :=
  PE.imp (pe_bm PySem.F.plainAttrs_list PySem.F.slot_list_pop PySem.F.type_list_pop mt_popAt hx ha hbase hfew hline hs hplain) fun _ _ _ => mut_imp ok_popAt
end
/-! enumerate of a list, a tuple, a text -/
section
variable {prog : Program} {w : World} {A : Around} {E : Value → Shared → Prop} {s : Shared}
theorem draws_of {it : Addr} {ls : List Addr} {n : Nat} {Y : Nat → Value → Prop} {tn : Nat → Heap → Prop} (hh : A.handled = none) (I : Inn prog w it ls n Y tn) : Draws prog w A it (it :: ls) n Y tn where
  live := fun i h st => let ⟨o, q, _⟩ := I.obj i h st; ⟨o, q⟩
  frame := fun i h h' st k => I.keep i h h' st fun b hb o e => k b (by rcases hb with rfl | hb <;> simp [*]) o e
  item := fun i s Q E hi st hQ => I.item A i s Q E hh hi st fun v h' t' y t b => hQ v h' t' y t b
  done := fun s Q E st hE => I.done A s Q E hh st hE
theorem meets_enumG (u : Value) (o : Obj) (P : Heap → Prop) (g : GivesIt u o P) :
    Meets (Builtin.«enumerate.__new__» ⟨[.type "enumerate", u], []⟩) (fun _ R s => P s.heap ∧ R (.ok (.ret (.ref (s.heap.push o).objs.size)))
      { s with heap := (s.heap.push o).push { cls := .type "enumerate", data := .fields #[.none, .bool false, .ref s.heap.objs.size, rawInt 0, .none, .none] } }) :=
  .of_wp fun prog w A R s h => by
    obtain ⟨hp, gg, d, tk, os⟩ := s
    obtain ⟨hl, h⟩ := h
    have hsub := sub_enumerate
    have a1 := fun (A : Around) Q E => g prog w A ⟨hp, gg, d, tk, os⟩ Q E hl
    wp_walk
    refine wpAny_stack_any fun st => wpAny_pure ?_
    split
    · rename_i c _ _ _ _ _
      cases (c == Value.type "enumerate")
      · wp_walk using a1 _ _ _
        exact ⟨_, rfl, h⟩
      · wp_walk using a1 _ _ _
        exact ⟨_, rfl, h⟩
    · wp_walk using a1 _ _ _
      exact ⟨_, rfl, h⟩
theorem call_enumG {u : Value} {o : Obj} {P : Heap → Prop} (g : GivesIt u o P) (p : P s.heap) (nf : o.isFreed = false) {Q : Value → Shared → Prop}
    (h : ∀ h', IsEnum h' (s.heap.objs.size + 1) s.heap.objs.size 0 .none → h'.get? s.heap.objs.size = some o → (∀ b o, s.heap.get? b = some o → h'.get? b = some o) → Q (.ref (s.heap.objs.size + 1)) { s with heap := h' }) :
    wpAny (model prog w) A (call (.type "enumerate") [u]) Q E s := by
  refine callType_new F.called_enumerate (by decide) (F.typeCall_enumerate_1 _) (F.newCall_enumerate_1 _) (fun obj => F.args_object_init_2 obj _) F.entry_enumerate_new (meets_enumG u o P g) ⟨p, ?_⟩
  have z1 : (s.heap.push o).objs.size = s.heap.objs.size + 1 := Heap.size_push ..
  have e2 : ((s.heap.push o).push { cls := .type "enumerate", data := .fields #[.none, .bool false, .ref s.heap.objs.size, rawInt 0, .none, .none] }).get? (s.heap.push o).objs.size = some _ := Heap.get?_push_size _ rfl
  have e1 : ((s.heap.push o).push { cls := .type "enumerate", data := .fields #[.none, .bool false, .ref s.heap.objs.size, rawInt 0, .none, .none] }).get? s.heap.objs.size = some o := Heap.get?_push_of_some _ (Heap.get?_push_size _ nf)
  show _ ∧ _
  rw [z1] at e2 ⊢
  exact ⟨⟨_, e2, rfl⟩, h _ e2 e1 fun b o x => Heap.get?_push_of_some _ (Heap.get?_push_of_some _ x)⟩
end
def ItE (n : Nat) (G : Hp → Prop) (V1 : Nat → V → Prop) : It :=
  ⟨fun i H => i < n ∧ G H, fun i H v H' => ∃ T x, v = .ref T ∧ H T = none ∧ H' = upd H T (.tup [.int (i : Nat), x]) ∧ V1 i x, fun i H => i = n ∧ G H⟩
theorem turn_enumG {P : Program} {w : World} {K : Frag} {elts : List Expr} {kk : Nat} {tpos : Pos} {n : Nat} {V1 : Nat → V → Prop} {t1 : Nat → Heap → Prop} {e it : Addr} {ls : List Addr} {G1 : Hp → Prop} (ne : e ≠ it) (nl : e ∉ ls) (nl2 : it ∉ ls)
    (k1 : Kd P w K it ls n G1 V1 t1) : Turn P w K (.Tuple elts kk tpos) (ItE n G1 V1) [e, it] e (fun i h => (∃ old, IsEnum h e it ((i : Nat) : Int) old) ∧ t1 i h) where
  mem := by simp
  obj := fun i h st b hb => by
    obtain ⟨⟨old, he⟩, h1⟩ := st
    simp only [List.mem_cons, List.not_mem_nil, or_false] at hb
    rcases hb with rfl | rfl
    · exact ⟨_, he, fun v q => nomatch q⟩
    · exact k1.obj i h h1
  keep := fun i h h' st k => let ⟨⟨old, he⟩, h1⟩ := st; ⟨⟨old, k e (by simp) _ he⟩, k1.keep i h h' h1 (k it (by simp))⟩
  item := by
    intro X hP hw hK hc i pins s σ H E I hf st hg
    obtain ⟨⟨old, he⟩, h1⟩ := st
    obtain ⟨hi, g1⟩ := hg
    obtain ⟨Y1, s1, J1, q1, r1⟩ := k1.inn X pins σ s H hP hw hK I g1
    subst hP hw hK
    have hel : e < s.heap.objs.size := Heap.lt_size he
    have hil : it < s.heap.objs.size := by obtain ⟨_, q, _⟩ := k1.obj _ _ h1; exact Heap.lt_size q
    refine wpAny_pyNext_enum_itemD (draws_of (A := X.A.in1) (I.ok.hd hc) J1) he ⟨h1, q1⟩ hi ne (by simp [ne, nl]) fun u h' tk hu ho h1' hT hsz hk => ?_
    refine ⟨_, rfl, wpAny_letOwnedTupleGo_enum (s := { s with heap := h', toks := tk + 1 }) ho fun h'' he' sb => ?_⟩
    obtain ⟨x, ru, vx⟩ := r1 i u hu
    have hT2 : h''.get? s.heap.objs.size = some { cls := .type "tuple", data := .seq #[.int i tk, u] } := (sb.2 _ (Nat.ne_of_gt hel)).trans hT
    have new : ObjOk X.prog X.w (upd H s.heap.objs.size (.tup [.int (i : Nat), x])) h'' s.heap.objs.size (.tup [.int (i : Nat), x]) :=
      ⟨by show 2 ≤ sizeLine; decide, [.int i tk, u], .cons ⟨_, rfl⟩ (.cons ru .nil), ⟨_, hT2, rfl, _, rfl⟩⟩
    have I1 : Inv X pins σ (upd H s.heap.objs.size (.tup [.int (i : Nat), x])) { s with heap := h'', toks := tk + 1 } :=
      I.turnedNew (ch := [e, it]) (fun b ob hb q => (sb.2 b (fun z => hb (by simp [z]))).trans (hk b ob (fun z => hb (by simp [z])) (fun z => hb (by simp [z])) q)) hf (Nat.le_refl _) new
    refine ⟨.ref s.heap.objs.size, _, I1, rfl, ⟨_, x, rfl, I.hok.fresh (Nat.le_refl _), rfl, vx⟩, ⟨⟨u, ?_⟩, ?_⟩, fun b hb => ?_⟩
    · rw [show ((i + 1 : Nat) : Int) = (i : Int) + 1 by omega]; exact he'
    · exact k1.keep _ _ _ h1'.1 fun o q => (sb.2 _ ne.symm).trans q
    · have hb' : b < s.heap.objs.size := by
        simp only [List.mem_cons, List.not_mem_nil, or_false] at hb
        rcases hb with rfl | rfl
        · exact hel
        · exact hil
      rw [upd_ne (Nat.ne_of_lt hb')]
      exact (hf b hb).1
  done := by
    intro X hP hw hK hc i pins s σ H E I hf st hg
    obtain ⟨⟨old, he⟩, h1⟩ := st
    obtain ⟨hi, g1⟩ := hg
    obtain ⟨Y1, s1, J1, q1, r1⟩ := k1.inn X pins σ s H hP hw hK I g1
    subst hP hw hK
    subst hi
    obtain ⟨f0, f1, f2, f3, f4, f5⟩ := hf it (by simp)
    exact wpAny_pyNext_enum_endD (draws_of (A := X.A.in1) (I.ok.hd hc) J1) he ⟨h1, q1⟩ fun h' eb => ⟨rfl, I.turned (t' := s.toks) (fun b o hb q => eb b o hb q) f0 f1 f3 f4 f5⟩
  self := fun A i s Q E st h => let ⟨⟨_, he⟩, _⟩ := st; wpAny_pyIter_enum he h
def gEnum : List D → Option (List D)
  | [d] => (iD d).map (enumD 0)
  | _ => none
theorem si_enum {X : Cx} {W : WX} {a : Expr} {q : XA} {p pos tpos : Pos} {elts : List Expr} {kk : Nat} (hg : Gl X "enumerate") (hm : X.mg "enumerate" = none) (ha : SA X W [a] q)
    (hs : starEach [a] X.env = [(false, eval a X.env)] := by rfl) : SI X W (.Tuple elts kk tpos) (.Call (.Name "enumerate" p) [a] [] pos) (iArgs gEnum q) := by
  refine ⟨fun pins s σ H R I ⟨B, e, Z, R0, hq⟩ => ?_⟩
  have h1 : RA X.K X.mg W q σ H fun vs H1 => ∃ v as, vs = [v] ∧ ∃ Z1, Same Z1 H1 ∧ Zp X Z1 v as ∧ ∀ J, Wk X.K Z1 J (enumD 0 as) → R J H1 := by
    refine rg_bind R0 hq fun v1 Z1 e1 d1 H1 s1 R1 D1 h1 => ?_
    obtain ⟨ds, e2, h2⟩ := pgi_lift h1
    unfold gEnum at e2
    split at e2
    · rename_i d
      obtain ⟨v, rfl, hv⟩ := dpa_1 D1
      cases hi : iD d with
      | none => rw [hi] at e2; cases e2
      | some as =>
        rw [hi] at e2
        cases e2
        exact ⟨v, as, rfl, Z1, R1.sub, zp_of hv hi, fun J w => h2 J Z1 H1 (Same.refl _) R1 w⟩
    · cases e2
  refine Call_ (ld_blt I hg hm boot_enumerate (PyProof.Rows.callWith_type1 (thn (ha.run pos pins s σ H _ I h1) fun us s1 ⟨vs, H1, I1, r1, q1⟩ => ?_) hs rfl))
  obtain ⟨v, as, rfl, Z1, sz, zv, fin⟩ := q1
  cases r1 with
  | cons ra rr =>
    cases rr
    obtain ⟨o1, P1, G1, V1, l1, at1, g1, k1, p1, nf1, gg1, lt1, kd1, i01, y1⟩ := zv.ex _ s1 pins σ H1 ra I1 sz
    refine call_enumG g1 p1 nf1 fun h' he h1 hk => wpAny_pyIter_enum he ?_
    have I2 : Inv X pins σ H1 { s1 with heap := h' } := I1.kept (t' := s1.toks) hk
    have no : ∀ b : Addr, @LE.le Nat _ s1.heap.objs.size b → b ∉ l1 := fun b hb hm => Nat.lt_irrefl _ (Nat.lt_of_lt_of_le (lt1 b hm) hb)
    refine ⟨s1.heap.objs.size + 1, [s1.heap.objs.size + 1, s1.heap.objs.size], _, _, H1, rfl, I2, turn_enumG (Nat.succ_ne_self _) (no _ (Nat.le_add_right _ _)) (no _ (Nat.le_refl _)) (kd1 _), ⟨⟨.none, he⟩, i01 _ _ h1⟩, fun c hcm => ?_, fin _ ?_⟩
    · have hle : @LE.le Nat _ s1.heap.objs.size c := by
        simp only [List.mem_cons, List.not_mem_nil, or_false] at hcm
        rcases hcm with rfl | rfl
        · exact Nat.le_add_right _ _
        · exact Nat.le_refl _
      exact I1.fpOk hle (I1.hok.fresh hle)
    · refine ⟨fun i H hi s => ⟨by rw [enumD_len] at hi; exact hi, gg1 H s⟩, fun H s => ⟨enumD_len 0 as, gg1 H s⟩, fun i H x H' B e σ Z2 hi s R hy => ?_⟩
      obtain ⟨T, x, rfl, nT, rfl, vx⟩ := hy
      rw [enumD_len] at hi
      obtain ⟨d1, e1, D1⟩ := y1 i x (by omega) vx
      obtain ⟨R2, s2⟩ := R.new (o := .tup [.int (i : Nat), x]) nT
      have := enumD_get as 0 i d1 e1
      rw [Nat.zero_add] at this
      exact ⟨_, _, s2, R2, this, .tup (.inl (.inl upd_same)) (.cons (.int _) (.cons (dp_mono (s.trans s2) D1) .nil))⟩
end G
set_option Elab.async false
set_option linter.all false
set_option maxRecDepth 100000
/-! the order of data: comparing, sorting -/
namespace G
open PySem PySem.Spec PyProof.Rows L2 PySem.W
section
variable {X : Cx} {W : WX} {pos : Pos}
def alikeD (a b : D) : Bool := PySem.W.alike a b && !dIsN a && decide (a.depth ≤ 32)
def dLtA (a b : D) : Option D := if alikeD a b = true then some (.bool (PySem.W.dataLt a b)) else none
def dGtA (a b : D) : Option D := if alikeD a b = true then some (.bool (PySem.W.dataLt b a)) else none
def dLeA (a b : D) : Option D := if alikeD a b = true then some (.bool (!PySem.W.dataLt b a)) else none
def dGeA (a b : D) : Option D := if alikeD a b = true then some (.bool (!PySem.W.dataLt a b)) else none
theorem alikeD_of {a b : D} (h : alikeD a b = true) : PySem.W.alike a b = true ∧ a ≠ .none ∧ a.depth ≤ 32 := by
  unfold alikeD at h
  simp only [Bool.and_eq_true, decide_eq_true_eq] at h
  exact ⟨h.1.1, fun z => by subst z; simp [dIsN] at h, h.2⟩
def rCmpD (K : Frag) (f : D → D → Bool) : R2 := fun x y H Q => ∃ d e, Dp K H x d ∧ Dp K H y e ∧ alikeD d e = true ∧ Q (.bl (f d e)) H
theorem op_ltD (hu : X.A.units + 64 < cLine) : OpR X (compareOp .Lt) (rCmpD X.K PySem.W.dataLt) := by
  intro pins s σ H x y v u Q I rx ry ⟨d, e, hd, he, ha, q⟩
  obtain ⟨as, r1⟩ := Dp.reads I d x v hd rx
  obtain ⟨bs, r2⟩ := Dp.reads I e y u he ry
  obtain ⟨a1, a2, a3⟩ := alikeD_of ha
  exact lt_data r1 r2 a1 a2 (by omega) ⟨.bl _, H, I, rfl, q⟩
theorem op_gtD (hu : X.A.units + 64 < cLine) : OpR X (compareOp .Gt) (rCmpD X.K fun a b => PySem.W.dataLt b a) := by
  intro pins s σ H x y v u Q I rx ry ⟨d, e, hd, he, ha, q⟩
  obtain ⟨as, r1⟩ := Dp.reads I d x v hd rx
  obtain ⟨bs, r2⟩ := Dp.reads I e y u he ry
  obtain ⟨a1, a2, a3⟩ := alikeD_of ha
  exact gt_data r1 r2 a1 a2 (by omega) ⟨.bl _, H, I, rfl, q⟩
theorem op_leD (hu : X.A.units + 64 < cLine) : OpR X (compareOp .LtE) (rCmpD X.K fun a b => !PySem.W.dataLt b a) := by
  intro pins s σ H x y v u Q I rx ry ⟨d, e, hd, he, ha, q⟩
  obtain ⟨as, r1⟩ := Dp.reads I d x v hd rx
  obtain ⟨bs, r2⟩ := Dp.reads I e y u he ry
  obtain ⟨a1, a2, a3⟩ := alikeD_of ha
  exact le_data r1 r2 a1 a2 (by omega) ⟨.bl _, H, I, rfl, q⟩
theorem op_geD (hu : X.A.units + 64 < cLine) : OpR X (compareOp .GtE) (rCmpD X.K fun a b => !PySem.W.dataLt a b) := by
  intro pins s σ H x y v u Q I rx ry ⟨d, e, hd, he, ha, q⟩
  obtain ⟨as, r1⟩ := Dp.reads I d x v hd rx
  obtain ⟨bs, r2⟩ := Dp.reads I e y u he ry
  obtain ⟨a1, a2, a3⟩ := alikeD_of ha
  exact ge_data r1 r2 a1 a2 (by omega) ⟨.bl _, H, I, rfl, q⟩
theorem ok_cmpD {K : Frag} {f : D → D → Bool} : Ok2 K (rCmpD K f) (fun a b => if alikeD a b = true then some (.bool (f a b)) else none) := by
  intro Z H x y d1 d2 d Q s D1 D2 e k
  dsimp only at e
  split at e
  · cases e
    rename_i ha
    exact ⟨d1, d2, Dq.dp (dp_mono s D1), Dq.dp (dp_mono s D2), ha, k _ Z H (Nw.refl s) (.bl _)⟩
  · cases e
def dLt2 (a b : D) : Option D := (dLt a b).orElse fun _ => dLtA a b
def dLe2 (a b : D) : Option D := (dLe a b).orElse fun _ => dLeA a b
def dGt2 (a b : D) : Option D := (dGt a b).orElse fun _ => dGtA a b
def dGe2 (a b : D) : Option D := (dGe a b).orElse fun _ => dGeA a b
theorem se_lt2 {a b : Expr} {p q : XE} (hu : X.A.units + 64 < cLine) (ha : SE X W a p) (hb : SE X W b q) : SE X W (.Compare a [.Lt] [b] pos) (eOp dLt2 p q) := se_cmp (opr_or op_lt (op_ltD hu)) (ok2_or ok_B0 ok_cmpD) ha hb (nobehind _ (by decide) (by decide))
theorem se_le2 {a b : Expr} {p q : XE} (hu : X.A.units + 64 < cLine) (ha : SE X W a p) (hb : SE X W b q) : SE X W (.Compare a [.LtE] [b] pos) (eOp dLe2 p q) := se_cmp (opr_or op_le (op_leD hu)) (ok2_or ok_B0 ok_cmpD) ha hb (nobehind _ (by decide) (by decide))
theorem se_gt2 {a b : Expr} {p q : XE} (hu : X.A.units + 64 < cLine) (ha : SE X W a p) (hb : SE X W b q) : SE X W (.Compare a [.Gt] [b] pos) (eOp dGt2 p q) := se_cmp (opr_or op_gt (op_gtD hu)) (ok2_or ok_B0 ok_cmpD) ha hb (nobehind _ (by decide) (by decide))
theorem se_ge2 {a b : Expr} {p q : XE} (hu : X.A.units + 64 < cLine) (ha : SE X W a p) (hb : SE X W b q) : SE X W (.Compare a [.GtE] [b] pos) (eOp dGe2 p q) := se_cmp (opr_or op_ge (op_geD hu)) (ok2_or ok_B0 ok_cmpD) ha hb (nobehind _ (by decide) (by decide))
theorem st_lt2 {a b : Expr} {p q : XE} (hu : X.A.units + 64 < cLine) (ha : SE X W a p) (hb : SE X W b q) : ST X W (.Compare a [.Lt] [b] pos) (tOf (eOp dLt2 p q)) := st_cmp (opr_or op_lt (op_ltD hu)) (ok2_or ok_B0 ok_cmpD) ha hb (nobehind _ (by decide) (by decide))
theorem st_le2 {a b : Expr} {p q : XE} (hu : X.A.units + 64 < cLine) (ha : SE X W a p) (hb : SE X W b q) : ST X W (.Compare a [.LtE] [b] pos) (tOf (eOp dLe2 p q)) := st_cmp (opr_or op_le (op_leD hu)) (ok2_or ok_B0 ok_cmpD) ha hb (nobehind _ (by decide) (by decide))
theorem st_gt2 {a b : Expr} {p q : XE} (hu : X.A.units + 64 < cLine) (ha : SE X W a p) (hb : SE X W b q) : ST X W (.Compare a [.Gt] [b] pos) (tOf (eOp dGt2 p q)) := st_cmp (opr_or op_gt (op_gtD hu)) (ok2_or ok_B0 ok_cmpD) ha hb (nobehind _ (by decide) (by decide))
theorem st_ge2 {a b : Expr} {p q : XE} (hu : X.A.units + 64 < cLine) (ha : SE X W a p) (hb : SE X W b q) : ST X W (.Compare a [.GtE] [b] pos) (tOf (eOp dGe2 p q)) := st_cmp (opr_or op_ge (op_geD hu)) (ok2_or ok_B0 ok_cmpD) ha hb (nobehind _ (by decide) (by decide))
/-! sorted(xs) -/
def leD (a b : D) : Bool := PySem.W.dataLe false (fun d : D => d) a b
def isTup1 : D → Bool
  | .tuple (_ :: _) => true
  | _ => false
def noTup : D → Bool
  | .tuple _ => false
  | .none => false
  | _ => true
def sortable (ds : List D) : Bool := (ds.all fun a => ds.all fun b => PySem.W.alike a b) && (ds.all isTup1 || ds.all noTup) && (ds.all fun d => decide (d.depth ≤ 32)) && decide (ds.length ≤ sizeLine)
theorem sortable_of {ds : List D} (h : sortable ds = true) : AllAlike ds ∧ Sortable ds ∧ (∀ d ∈ ds, d.depth ≤ 32) ∧ ds.length ≤ sizeLine := by
  unfold sortable at h
  simp only [Bool.and_eq_true, Bool.or_eq_true, List.all_eq_true, decide_eq_true_eq] at h
  refine ⟨fun d hd d' hd' => h.1.1.1 d hd d' hd', ?_, h.1.2, h.2⟩
  rcases h.1.1.2 with h | h
  · refine .inl fun d hd => ?_
    have := h d hd
    cases d with
    | tuple xs =>
      cases xs with
      | nil => simp [isTup1] at this
      | cons x r => exact ⟨x, r, rfl⟩
    | _ => simp [isTup1] at this
  · refine .inr fun d hd => ?_
    have := h d hd
    exact ⟨fun z => by subst z; simp [noTup] at this, fun xs z => by subst z; simp [noTup] at this⟩
def sortD : List D → Option (List D)
  | [.list xs] => if sortable xs = true then some (xs.mergeSort leD) else none
  | _ => none
theorem dpa_zip {K : Frag} {Z : Hp} : ∀ {vs : List V} {ds : List D}, DqAll K Z vs ds → (vs.zip ds).map (·.1) = vs ∧ (vs.zip ds).map (·.2) = ds ∧ ∀ p ∈ vs.zip ds, Dq K Z p.1 p.2
  | _, _, .nil => ⟨rfl, rfl, fun p hp => by simp at hp⟩
  | _, _, .cons a b => by
    obtain ⟨h1, h2, h3⟩ := dpa_zip b
    refine ⟨by simp [h1], by simp [h2], fun p hp => ?_⟩
    rcases List.mem_cons.mp (by simpa using hp) with rfl | hp
    · exact a
    · exact h3 p hp
theorem dpa_of_pairs {K : Frag} {Z : Hp} : ∀ (ps : List (V × D)), (∀ p ∈ ps, Dq K Z p.1 p.2) → DqAll K Z (ps.map (·.1)) (ps.map (·.2))
  | [], _ => .nil
  | p :: ps, h => .cons (h p (by simp)) (dpa_of_pairs ps fun q hq => h q (by simp [hq]))
theorem each_vals : ∀ {ps : List (V × D)} {us : List Value}, Vals (ps.map (·.1)) us → EachIs (fun u (p : V × D) => RelV p.1 u) us ps
  | [], _, h => by
    have h' : Vals [] _ := h
    cases h'
    exact .nil
  | p :: ps, _, h => by
    have h' : Vals (p.1 :: ps.map (·.1)) _ := h
    cases h' with
    | cons a b => exact .cons a (each_vals b)
theorem vals_each : ∀ {ps : List (V × D)} {us : List Value}, EachIs (fun u (p : V × D) => RelV p.1 u) us ps → Vals (ps.map (·.1)) us
  | _, _, .nil => .nil
  | _, _, .cons a b => .cons a (vals_each b)
def rSortD (K : Frag) : List V → Hp → VK → Prop := fun vs H Q => ∃ (a : Addr) (ps : List (V × D)), vs = [.ref a] ∧ SqL K H a (ps.map (·.1)) ∧ (∀ p ∈ ps, Dp K H p.1 p.2) ∧ sortable (ps.map (·.2)) = true ∧
  ∀ q, H q = none → Q (.ref q) (upd H q (.lst ((ps.mergeSort (PySem.W.dataLe false (·.2))).map (·.1))))
theorem each_reads {pins : List (Addr × Obj)} {σ : L2.St} {H : Hp} {s : Shared} (I : Inv X pins σ H s) : ∀ {ps : List (V × D)} {us : List Value}, EachIs (fun u (p : V × D) => RelV p.1 u) us ps → (∀ p ∈ ps, Dp X.K H p.1 p.2) → EachIs (fun u (p : V × D) => ∃ as, Reads s.heap u p.2 as) us ps
  | _, _, .nil, _ => .nil
  | _, _, .cons a b, h => .cons (Dp.reads I _ _ _ (h _ (by simp)) a) (each_reads I b fun p hp => h p (by simp [hp]))
theorem cr_sortD (hu : X.A.units + 64 < cLine) : CallR X (.builtin "sorted") (rSortD X.K) := by
  intro pins s σ H vs us Q I r h
  obtain ⟨a, ps, rfl, hs, hp, ho, q⟩ := h
  obtain ⟨its, rv, hl, hz⟩ := I.list hs
  rw [Vals.ref1 r]
  obtain ⟨o1, o2, o3, o4⟩ := sortable_of ho
  have ev := each_vals rv
  have er := each_reads I ev hp
  refine sorted_data (R := fun u (p : V × D) => RelV p.1 u) (enc := fun p : V × D => p.2) (bs := ps) hl.isList ev er o1 o2 (by rw [List.length_map] at o4; exact o4) (fun p hp => by have := o3 p.2 (List.mem_map.mpr ⟨p, hp, rfl⟩); omega) fun out hout eo => ?_
  obtain ⟨ep, he'⟩ := PyProof.Rows.sortedAll_at s.heap its out.toArray
  have hlen : ((ps.mergeSort (PySem.W.dataLe false (·.2))).map (·.1)).length ≤ sizeLine := by
    rw [List.length_map, List.length_mergeSort]
    rw [List.length_map] at hz
    exact hz
  exact ⟨.ref _, upd H (s.heap.objs.size + 1) (.lst ((ps.mergeSort (PySem.W.dataLe false (·.2))).map (·.1))), I.laid (t' := s.toks) (fun _ _ => PyProof.Rows.sortedAll_old) (Nat.le_succ _) ⟨hlen, out, ep, vals_each eo, he'⟩, rfl, q _ (I.hok.fresh (Nat.le_succ _))⟩
theorem sn_sorted {a : Expr} {q : XA} {p : Pos} (hu : X.A.units + 64 < cLine) (hg : Gl X "sorted") (hm : X.mg "sorted" = none) (ha : SA X W [a] q) (he : starEach [a] X.env = (false, eval a X.env) :: starEach [] X.env := by rfl) (hpl : (backTo pos (starEach [] X.env)).any (·.1) = false := by rfl) : SN X W (.Call (.Name "sorted" p) [a] [] pos) (nCall sortD q) := by
  refine PE.imp (pe_callB (cr_sortD hu) hg hm (by decide +kernel) ha (by decide) (by decide) he hpl) fun σ H Q ⟨B, e, Z, R0, hq⟩ => ?_
  refine rn_bind R0 hq fun v1 Z1 e1 d1 H1 s1 R1 D1 h1 => ?_
  obtain ⟨ds, e2, h2⟩ := pgf_lift h1
  unfold sortD at e2
  split at e2
  · rename_i xs
    split at e2
    · rename_i ho
      cases e2
      obtain ⟨v, rfl, hv⟩ := dpa_1 D1
      obtain ⟨a, ws, rfl, g1, g2⟩ := dp_list hv
      obtain ⟨z1, z2, z3⟩ := dpa_zip g2
      refine ⟨a, ws.zip xs, rfl, by rw [z1]; exact .inl (.inl (R1.sub _ _ g1)), fun p hp => Dq.dp (dp_mono R1.sub (z3 p hp)), by rw [z2]; exact ho, ?_⟩
      have e3 : xs.mergeSort leD = ((ws.zip xs).mergeSort (PySem.W.dataLe false (·.2))).map (·.2) := by
        conv => lhs; rw [← z2]
        rw [List.map_mergeSort]
        intro a ha b hb
        rfl
      rw [e3] at h2
      exact pgf_new R1 (dpa_of_pairs _ fun p hp => z3 p (List.mem_mergeSort.mp hp)) h2
    · cases e2
  · cases e2
end
end G
set_option Elab.async false
set_option linter.all false
set_option maxRecDepth 100000
/-! a written dict, at once asked -/
namespace G
open PySem PySem.Spec PyProof.Rows L2
def kD : Key → D
  | .inl i => .int i
  | .inr s => .str s
def keyD : D → Option Key
  | .int i => some (.inl i)
  | .str s => some (.inr s)
  | _ => none
theorem keyD_v {K : Frag} {Z : Hp} {v : V} {d : D} {k : Key} (h : Dq K Z v d) (e : keyD d = some k) : v = kV k := by
  cases h with
  | int i => cases e; rfl
  | str s => cases e; rfl
  | _ => cases e
theorem kD_dq {K : Frag} {Z : Hp} (k : Key) : Dq K Z (kV k) (kD k) := by
  cases k with
  | inl i => exact .int i
  | inr s => exact .str s
def dfind (kvs : List (Key × Key)) (k : Key) : Option Key := (kvs.find? fun p => decide (p.1 = k)).map (·.2)
section
variable {X : Cx} {W : WX} {pos : Pos}
theorem merge_new : ∀ (more acc : List (Key × V)), (acc ++ more).map (·.1) |>.Nodup → mergeK acc more = acc ++ more := by
  intro more
  induction more with
  | nil => intro acc _; simp [mergeK]
  | cons p more ih =>
    intro acc h
    have hp : putK acc p.1 p.2 = acc ++ [p] := by
      unfold putK
      rw [if_neg]
      intro z
      obtain ⟨q, hq, e⟩ := List.any_eq_true.mp z
      have e : q.1 = p.1 := of_decide_eq_true e
      rw [List.map_append, List.nodup_append] at h
      exact h.2.2 q.1 (List.mem_map.mpr ⟨q, hq, rfl⟩) p.1 (by simp) e
    have : mergeK acc (p :: more) = mergeK (acc ++ [p]) more := by
      show more.foldl _ (putK acc p.1 p.2) = _
      rw [hp]; rfl
    rw [this, ih _ (by simpa using h)]
    simp
theorem valV_c (kvs : List (Key × Key)) (k : Key) (h : (kvs.map (·.1)).Nodup) : valV (mergeK [] (kvs.map fun p => (p.1, kV p.2))) k = (dfind kvs k).map kV := by
  rw [merge_new _ _ (by simpa [List.map_map, Function.comp_def] using h), List.nil_append]
  unfold valV dfind
  rw [List.find?_map, Option.map_map, Option.map_map]
  rfl
theorem tPairs_c (kvs : List (Key × Key)) {σ : L2.St} {H : Hp} {Q : List (V × V) → Hp → Prop} (h : Q (kvs.map fun p => (kV p.1, kV p.2)) H) : tPairs (kvs.map fun p => (tC (kV p.1), tC (kV p.2))) σ H Q := by
  induction kvs generalizing Q with
  | nil => exact h
  | cons p r ih => exact ih (Q := fun ps H3 => Q ((kV p.1, kV p.2) :: ps) H3) h
def eDictC (kvs : List (Key × Key)) (p : XE) : XE := fun e => (p e).bind fun d e1 => R.lift ((keyD d).bind fun k => (dfind kvs k).map kD) e1
theorem upd_twice {H : Hp} {a : Addr} {o o' : HO} : upd (upd H a o) a o' = upd H a o' := by
  funext b
  by_cases h : b = a
  · subst h; rw [upd_same, upd_same]
  · rw [upd_ne h, upd_ne h, upd_ne h]
theorem se_dictC {kvs : List (Key × Key)} {keys : List (Option Expr)} {values : List Expr} {i : Expr} {p : XE} {pd pos : Pos} (hu : X.A.units + 64 < cLine) (h : PPs X pd keys values (kvs.map fun p => (tC (kV p.1), tC (kV p.2)))) (hn : (kvs.map (·.1)).Nodup) (h15 : kvs.length ≤ 15)
    (hi : SE X W i p) (hs : NoSl i) (hall : keys.all (·.isSome) = true := by rfl) (hl : keys.length = values.length := by rfl) (h0 : keys ≠ [] := by exact List.cons_ne_nil _ _) (h15' : keys.length ≤ 15 := by decide) :
    SE X W (.Subscript (.Dict keys values pd) i pos) (eDictC kvs p) := by
  refine PE.imp (pe_dget (by omega) (pe_disp h hall hl h0 h15') hi hs) fun σ H Q ⟨B, e, Z, R0, hq⟩ => ?_
  intro a ha
  refine tPairs_c kvs ⟨upd_same, kvs.map fun p => (p.1, kV p.2), by simp [List.map_map, Function.comp_def], by rw [List.length_map]; exact h15, ?_⟩
  rw [upd_twice]
  obtain ⟨R2, s2⟩ := R0.new (o := .dK (mergeK [] (kvs.map fun p => (p.1, kV p.2)))) ha
  refine rg_bind R2 (Pg.up s2 hq) fun v1 Z1 e1 d1 H1 s1 R1 D1 h1 => ?_
  obtain ⟨d, ed, k⟩ := pg_lift R1 h1
  cases hk : keyD d1 with
  | none => rw [hk] at ed; cases ed
  | some key =>
    rw [hk] at ed
    cases hf : dfind kvs key with
    | none => simp only [Option.bind_some, hf, Option.map_none] at ed; cases ed
    | some val =>
      simp only [Option.bind_some, hf, Option.map_some] at ed
      cases ed
      refine ⟨a, kV val, rfl, ?_, k _ Z1 H1 (Nw.refl R1.sub) (kD_dq _)⟩
      have hg := DGet.k (H := H1) (a := a) (k := key) (R1.sub _ _ (s1 _ _ (upd_same (H := Z) (a := a))))
      rw [valV_c kvs key hn, hf] at hg
      rw [keyD_v D1 hk]
      exact hg
/-- {..}.get(k, x) -/
def eDictG (kvs : List (Key × Key)) (p q : XE) : XE := fun e => (p e).bind fun d e1 => (q e1).bind fun x e2 => R.lift ((keyD d).map fun k => ((dfind kvs k).map kD).getD x) e2
theorem se_dictG {kvs : List (Key × Key)} {keys : List (Option Expr)} {values : List Expr} {i f : Expr} {p q : XE} {pd apos pos : Pos} (hu : X.A.units + 64 < cLine) (h : PPs X pd keys values (kvs.map fun p => (tC (kV p.1), tC (kV p.2)))) (hn : (kvs.map (·.1)).Nodup) (h15 : kvs.length ≤ 15)
    (hi : SE X W i p) (hf : SE X W f q) (m : M2 X (.Dict keys values pd) "get" apos i f pos) (hall : keys.all (·.isSome) = true := by rfl) (hl : keys.length = values.length := by rfl) (h0 : keys ≠ [] := by exact List.cons_ne_nil _ _) (h15' : keys.length ≤ 15 := by decide) :
    SE X W (.Call (.Attribute (.Dict keys values pd) "get" apos) [i, f] [] pos) (eDictG kvs p q) := by
  refine PE.imp (pe_dget2 (by omega) (pe_disp h hall hl h0 h15') hi hf m) fun σ H Q ⟨B, e, Z, R0, hq⟩ => ?_
  intro a ha
  refine tPairs_c kvs ⟨upd_same, kvs.map fun p => (p.1, kV p.2), by simp [List.map_map, Function.comp_def], by rw [List.length_map]; exact h15, a, rfl, .inl ⟨_, .inl (by rw [upd_twice]; exact upd_same)⟩, ?_⟩
  rw [upd_twice]
  obtain ⟨R2, s2⟩ := R0.new (o := .dK (mergeK [] (kvs.map fun p => (p.1, kV p.2)))) ha
  refine rg_bind R2 (Pg.up s2 hq) fun v1 Z1 e1 d1 H1 s1 R1 D1 h1 => ?_
  refine rg_bind R1 h1 fun v3 Z3 e3 d3 H3 s3 R3 D3 h3 => ?_
  obtain ⟨d, ed, k⟩ := pg_lift R3 h3
  cases hk : keyD d1 with
  | none => rw [hk] at ed; cases ed
  | some key =>
    rw [hk] at ed
    simp only [Option.map_some, Option.some.injEq] at ed
    subst ed
    refine ⟨(dfind kvs key).map kV, ?_, ?_⟩
    · have hg := DGet.k (H := H3) (a := a) (k := key) (R3.sub _ _ ((s1.trans s3) _ _ (upd_same (H := Z) (a := a))))
      rw [valV_c kvs key hn] at hg
      rw [keyD_v D1 hk]
      exact hg
    · cases hf : dfind kvs key with
      | none => exact k _ Z3 H3 (Nw.refl R3.sub) (by simpa [hf] using D3)
      | some val => exact k _ Z3 H3 (Nw.refl R3.sub) (by simpa [hf] using kD_dq val)
end
end G
set_option Elab.async false
set_option linter.all false
set_option maxRecDepth 100000
/-! enumerate(zip(a, b)): the zip's own tuple is held by the enumerate -/
namespace G
open PySem PySem.Spec PyProof.Rows L2
open PySem.Sem (wp)
abbrev ZQ (h : Heap) (z TI TO : Addr) (own : Value) (f : Bool) : Prop :=
  h.get? z = some { cls := .type "zip", dict := none, data := .fields #[own, .bool f, .bool false, .ref TI, .ref TO], slots := #[] }
def ZS (h : Heap) (z TI TO : Addr) : Prop := ∃ (own : Value) (f : Bool), (own = .none ∨ ∃ T : Addr, own = rawInt T) ∧ ZQ h z TI TO own f
section
variable {prog : Program} {w : World} {A : Around} {E : Value → Shared → Prop} {s : Shared}
theorem alive_any {a : Addr} {Q : Option Obj → Shared → Prop} (h : Q (s.heap.get? a) s) : wpAny (model prog w) A (loadIfAlive a) Q E s := fun _ _ _ => h
theorem zq_free {z TI TO : Addr} {own : Value} {f : Bool} (ho : own = .none ∨ ∃ T : Addr, own = rawInt T) (hz : ZQ s.heap z TI TO own f) {Q : Bool → Shared → Prop} (h1 : Q true s)
    (h2 : ∀ h' f', ZQ h' z TI TO own f' → Heap.SameBut z s.heap h' → Q false { s with heap := h' }) : wpAny (model prog w) A (Builtin.SmallTypes.ownedTupleIsFree (.ref z)) Q E s := by
  unfold Builtin.SmallTypes.ownedTupleIsFree
  rcases ho with rfl | ⟨T, rfl⟩
  · exact wpAny_bind (wpAny_field hz rfl (x := .none) rfl (wpAny_pure h1))
  · refine wpAny_bind (wpAny_field hz rfl (x := rawInt T) rfl ?_)
    show wpAny _ _ (loadIfAlive ((T : Int).toNat) >>= _) _ _ _
    rw [Int.toNat_natCast]
    refine wpAny_bind (alive_any ?_)
    cases hT : s.heap.get? T with
    | none => exact wpAny_pure h1
    | some o =>
      simp only [Option.isNone_some, Bool.false_eq_true, if_false]
      refine wpAny_bind (wpAny_field hz rfl (x := .bool f) rfl ?_)
      cases f with
      | true =>
        rw [if_neg (show ¬ ((Value.bool true != Value.bool true) = true) from Bool.false_ne_true)]
        exact wpAny_pure (h2 s.heap _ hz (Heap.SameBut.refl _ _))
      | false =>
        rw [if_pos (show (Value.bool false != Value.bool true) = true from rfl)]
        exact wpAny_bind (wpAny_setField_rec hz (by simp) fun h₁ hz₁ hs₁ => wpAny_pure (h2 h₁ _ hz₁ hs₁))
variable {n1 n2 : Nat} {Y1 Y2 : Nat → Value → Prop} {t1 t2 : Nat → Heap → Prop} {z TI TO i1 i2 : Addr} {l1 l2 : List Addr}
theorem zz_item {hh : A.handled = none} (D : Zap z TI TO i1 i2 l1 l2) (I1 : Inn prog w i1 l1 n1 Y1 t1) (I2 : Inn prog w i2 l2 n2 Y2 t2) {k : Nat} {a b own : Value} {f : Bool} {Q : Value → Shared → Prop}
    (ho : own = .none ∨ ∃ T : Addr, own = rawInt T) (hz : ZQ s.heap z TI TO own f) (hTI : IsPair s.heap TI (.ref i1) (.ref i2)) (hTO : IsPair s.heap TO a b) (h1 : t1 k s.heap) (h2 : t2 k s.heap) (k1 : k < n1) (k2 : k < n2)
    (hQ : ∀ h' t' x y, Y1 k x → Y2 k y → ZS h' z TI TO → (∃ a b, IsPair h' TO a b) → t1 (k + 1) h' → t2 (k + 1) h' → IsPair h' s.heap.objs.size x y → h'.objs.size = s.heap.objs.size + 1 →
      (∀ c o, c ≠ z → c ≠ TO → c ≠ i1 → c ≠ i2 → s.heap.get? c = some o → h'.get? c = some o) → Q (.ref s.heap.objs.size) { s with heap := h', toks := t' }) :
    wpAny (model prog w) A (Builtin.«zip.__next__» ⟨[.ref z], []⟩) (fun fin s' => ∃ v, fin = .done (.ret v) ∧ Q v s') E s := by
  obtain ⟨⟨nTIz, nTOz, n1z, n2z⟩, ⟨nTOTI, n1TI, n2TI⟩, ⟨n1TO, n2TO⟩, n21⟩ := D.ne
  have zl1 : z ∉ l1 := fun q => D.a1 z q (by simp)
  have zl2 : z ∉ l2 := fun q => D.a2 z q (by simp)
  have Tl1 : TO ∉ l1 := fun q => D.a1 TO q (by simp)
  have Tl2 : TO ∉ l2 := fun q => D.a2 TO q (by simp)
  have i1l1 : i1 ∉ l1 := fun q => D.a1 i1 q (by simp)
  have i1l2 : i1 ∉ l2 := fun q => D.a2 i1 q (by simp)
  have i2l1 : i2 ∉ l1 := fun q => D.a1 i2 q (by simp)
  show wpAny _ _ (field (.ref z) 2 >>= _) _ _ _
  refine wpAny_bind (wpAny_field hz rfl (x := .bool false) rfl ?_)
  show wpAny _ _ (field (.ref z) 3 >>= _) _ _ _
  refine wpAny_bind (wpAny_field hz rfl (x := .ref TI) rfl ?_)
  refine wpAny_bind (wpAny_seqItems hTI rfl ?_)
  show wpAny _ _ (Builtin.SmallTypes.ownedTupleIsFree (.ref z) >>= _) _ _ _
  refine wpAny_bind (zq_free ho hz ?_ fun g1 f' z1 s1 => ?_)
  · simp only [if_true]
    refine wpAny_bind (wpAny_rule ?_)
    refine wpAny_bind (wpAny_field hz rfl (x := .ref TO) rfl ?_)
    refine wpAny_bind (wpAny_setField_rec hz (by simp) fun g1 z1 s1 => ?_)
    replace z1 : ZQ g1 z TI TO .ellipsis f := z1
    refine wpAny_bind ?_
    simp only [List.zipIdx_cons, List.zipIdx_nil, List.forIn_cons, List.forIn_nil]
    -- the first
    refine wpAny_bind (wpAny_bind (wpAny_onRaise ?_))
    show wpAny _ _ (Builtin.SmallTypes.nextOf (.ref i1) >>= _) _ _ _
    refine wpAny_bind (I1.item _ k _ _ _ hh k1 (I1.but h1 s1.extBut n1z.symm zl1) fun x g2 tk2 y1 u1 s2 => wpAny_pure ?_)
    have o2 : IsPair g2 TO a b := s2.extBut _ _ n1TO.symm (s1.extBut _ _ nTOz hTO)
    refine wpAny_bind (wpAny_seqItems o2 rfl ?_)
    refine wpAny_bind (wpAny_updateSeq_pair o2 fun g3 o3 s3 => ?_)
    replace o3 : IsPair g3 TO x b := o3
    refine wpAny_bind (wpAny_letGo (wpAny_pure ?_))
    -- the second
    refine wpAny_bind (wpAny_bind (wpAny_onRaise ?_))
    show wpAny _ _ (Builtin.SmallTypes.nextOf (.ref i2) >>= _) _ _ _
    refine wpAny_bind (I2.item _ k _ _ _ hh k2 (I2.but (I2.but (I2.but h2 s1.extBut n2z.symm zl2) s2.extBut n21.symm i1l2) s3.extBut n2TO.symm Tl2) fun y g4 tk4 y2 u2 s4 => wpAny_pure ?_)
    have o4 : IsPair g4 TO x b := s4.extBut _ _ n2TO.symm o3
    refine wpAny_bind (wpAny_seqItems o4 rfl ?_)
    refine wpAny_bind (wpAny_updateSeq_pair o4 fun g5 o5 s5 => ?_)
    replace o5 : IsPair g5 TO x y := o5
    refine wpAny_bind (wpAny_letGo (wpAny_pure (wpAny_pure ?_)))
    refine wpAny_bind (wpAny_seqItems o5 rfl ?_)
    refine wpAny_bind (wpAny_newTuple ?_)
    have size : g5.objs.size = s.heap.objs.size := by rw [s5.1, s4.1, s3.1, s2.1, s1.1]
    have z5 : ZQ g5 z TI TO .ellipsis f := s5.extBut _ _ nTOz.symm (s4.extBut _ _ n2z.symm (s3.extBut _ _ nTOz.symm (s2.extBut _ _ n1z.symm z1)))
    have k5 : ∀ c o, c ≠ z → c ≠ TO → c ≠ i1 → c ≠ i2 → s.heap.get? c = some o → g5.get? c = some o := fun c o c1 c2 c3 c4 e => s5.extBut _ _ c2 (s4.extBut _ _ c4 (s3.extBut _ _ c2 (s2.extBut _ _ c3 (s1.extBut _ _ c1 e))))
    have u5 : t1 (k + 1) g5 := I1.but (I1.but (I1.but u1 s3.extBut n1TO.symm Tl1) s4.extBut n21 i2l1) s5.extBut n1TO.symm Tl1
    have v5 : t2 (k + 1) g5 := I2.but u2 s5.extBut n2TO.symm Tl2
    have hzl : z < g5.objs.size := Heap.lt_size z5
    show wpAny _ _ (Builtin.SmallTypes.ownedTupleHandOut (.ref z) (.ref g5.objs.size) >>= _) _ _ _
    refine wpAny_bind ?_
    unfold Builtin.SmallTypes.ownedTupleHandOut
    have z6 : ZQ (g5.push { cls := .type "tuple", data := .seq #[x, y] }) z TI TO .ellipsis f := Heap.get?_push_of_some _ z5
    refine wpAny_bind (wpAny_setField_rec z6 (by simp) fun g7 z7 s7 => ?_)
    replace z7 : ZQ g7 z TI TO (rawInt g5.objs.size) f := z7
    refine wpAny_setField_rec z7 (by simp) fun g8 z8 s8 => ?_
    replace z8 : ZQ g8 z TI TO (rawInt g5.objs.size) false := z8
    have up : ∀ c o, c ≠ z → g5.get? c = some o → g8.get? c = some o := fun c o c1 e => s8.extBut _ _ c1 (s7.extBut _ _ c1 (Heap.get?_push_of_some _ e))
    have T8 : IsPair g8 g5.objs.size x y := s8.extBut _ _ (Nat.ne_of_gt hzl) (s7.extBut _ _ (Nat.ne_of_gt hzl) (Heap.get?_push_size _ rfl))
    have sz8 : g8.objs.size = g5.objs.size + 1 := by rw [s8.1, s7.1, Heap.size_push]
    rw [size] at z8 T8 sz8
    refine wpAny_pure ⟨_, rfl, ?_⟩
    show Q (.ref g5.objs.size) _
    rw [size]
    exact hQ g8 _ x y y1 y2 ⟨_, _, .inr ⟨_, rfl⟩, z8⟩ ⟨_, _, up _ _ nTOz o5⟩ (I1.keep _ _ _ u5 fun c hc o e => up c o (fun q => by
      subst q
      rcases hc with hc | hc
      · exact n1z hc.symm
      · exact zl1 hc) e) (I2.keep _ _ _ v5 fun c hc o e => up c o (fun q => by
      subst q
      rcases hc with hc | hc
      · exact n2z hc.symm
      · exact zl2 hc) e) T8 sz8 fun c o c1 c2 c3 c4 e => up c o c1 (k5 c o c1 c2 c3 c4 e)
  · simp only [Bool.false_eq_true, if_false]
    refine wpAny_bind ?_
    rw [← Array.forIn_toList]
    simp only [List.forIn_cons, List.forIn_nil]
    refine wpAny_bind (wpAny_bind (wpAny_holding ?_))
    show wpAny _ _ (Builtin.SmallTypes.nextOf (.ref i1) >>= _) _ _ _
    refine wpAny_bind (I1.item _ k _ _ _ hh k1 (I1.but h1 s1.extBut n1z.symm zl1) fun x g2 tk2 y1 u1 s2 => wpAny_pure ?_)
    refine wpAny_pure ?_
    refine wpAny_bind (wpAny_bind (wpAny_holding ?_))
    show wpAny _ _ (Builtin.SmallTypes.nextOf (.ref i2) >>= _) _ _ _
    refine wpAny_bind (I2.item _ k _ _ _ hh k2 (I2.but (I2.but h2 s1.extBut n2z.symm zl2) s2.extBut n21.symm i1l2) fun y g3 tk3 y2 u2 s3 => wpAny_pure ?_)
    refine wpAny_pure (wpAny_pure ?_)
    show wpAny _ _ (newTuple [x, y] >>= _) _ _ _
    refine wpAny_bind (wpAny_newTuple ?_)
    have size : g3.objs.size = s.heap.objs.size := by rw [s3.1, s2.1, s1.1]
    have z3 : ZQ g3 z TI TO own f' := s3.extBut _ _ n2z.symm (s2.extBut _ _ n1z.symm z1)
    have o3 : IsPair g3 TO a b := s3.extBut _ _ n2TO.symm (s2.extBut _ _ n1TO.symm (s1.extBut _ _ nTOz hTO))
    have k3 : ∀ c o, c ≠ z → c ≠ i1 → c ≠ i2 → s.heap.get? c = some o → g3.get? c = some o := fun c o c1 c2 c3 e => s3.extBut _ _ c3 (s2.extBut _ _ c2 (s1.extBut _ _ c1 e))
    have u3 : t1 (k + 1) g3 := I1.but u1 s3.extBut n21 i2l1
    refine wpAny_pure ⟨_, rfl, ?_⟩
    show Q (.ref g3.objs.size) _
    have hp : IsPair (g3.push { cls := .type "tuple", data := .seq #[x, y] }) g3.objs.size x y := Heap.get?_push_size _ rfl
    have hz4 : (g3.push { cls := .type "tuple", data := .seq #[x, y] }).objs.size = g3.objs.size + 1 := Heap.size_push ..
    rw [size] at hp hz4 ⊢
    exact hQ _ _ x y y1 y2 ⟨_, _, ho, Heap.get?_push_of_some _ z3⟩ ⟨_, _, Heap.get?_push_of_some _ o3⟩ (I1.keep _ _ _ u3 fun c hc o e => Heap.get?_push_of_some _ e) (I2.keep _ _ _ u2 fun c hc o e => Heap.get?_push_of_some _ e) hp hz4 fun c o c1 _ c3 c4 e => Heap.get?_push_of_some _ (k3 c o c1 c3 c4 e)
theorem zz_end {hh : A.handled = none} (D : Zap z TI TO i1 i2 l1 l2) (I1 : Inn prog w i1 l1 n1 Y1 t1) (I2 : Inn prog w i2 l2 n2 Y2 t2) {k : Nat} {a b own : Value} {f : Bool} {Q : Fin → Shared → Prop}
    (ho : own = .none ∨ ∃ T : Addr, own = rawInt T) (hz : ZQ s.heap z TI TO own f) (hTI : IsPair s.heap TI (.ref i1) (.ref i2)) (hTO : IsPair s.heap TO a b) (h1 : t1 k s.heap) (h2 : t2 k s.heap) (hk : k = min n1 n2)
    (hE : ∀ h' t' e, (∀ c o, c ≠ z → c ≠ TO → c ≠ i1 → c ≠ i2 → s.heap.get? c = some o → h'.get? c = some o) → (∃ o, h'.get? e = some o ∧ o.cls = .type "StopIteration") → E (.ref e) { s with heap := h', toks := t' }) :
    wpAny (model prog w) A (Builtin.«zip.__next__» ⟨[.ref z], []⟩) Q E s := by
  obtain ⟨⟨nTIz, nTOz, n1z, n2z⟩, ⟨nTOTI, n1TI, n2TI⟩, ⟨n1TO, n2TO⟩, n21⟩ := D.ne
  have zl1 : z ∉ l1 := fun q => D.a1 z q (by simp)
  have zl2 : z ∉ l2 := fun q => D.a2 z q (by simp)
  have Tl2 : TO ∉ l2 := fun q => D.a2 TO q (by simp)
  have i1l2 : i1 ∉ l2 := fun q => D.a2 i1 q (by simp)
  show wpAny _ _ (field (.ref z) 2 >>= _) _ _ _
  refine wpAny_bind (wpAny_field hz rfl (x := .bool false) rfl ?_)
  show wpAny _ _ (field (.ref z) 3 >>= _) _ _ _
  refine wpAny_bind (wpAny_field hz rfl (x := .ref TI) rfl ?_)
  refine wpAny_bind (wpAny_seqItems hTI rfl ?_)
  show wpAny _ _ (Builtin.SmallTypes.ownedTupleIsFree (.ref z) >>= _) _ _ _
  refine wpAny_bind (zq_free ho hz ?_ fun g1 f' z1 s1 => ?_)
  · simp only [if_true]
    refine wpAny_bind (wpAny_rule ?_)
    refine wpAny_bind (wpAny_field hz rfl (x := .ref TO) rfl ?_)
    refine wpAny_bind (wpAny_setField_rec hz (by simp) fun g1 z1 s1 => ?_)
    replace z1 : ZQ g1 z TI TO .ellipsis f := z1
    refine wpAny_bind ?_
    simp only [List.zipIdx_cons, List.zipIdx_nil, List.forIn_cons, List.forIn_nil]
    refine wpAny_bind (wpAny_bind (wpAny_onRaise ?_))
    show wpAny _ _ (Builtin.SmallTypes.nextOf (.ref i1) >>= _) _ _ _
    by_cases hl : k < n1
    · refine wpAny_bind (I1.item _ k _ _ _ hh hl (I1.but h1 s1.extBut n1z.symm zl1) fun x g2 tk2 y1 u1 s2 => wpAny_pure ?_)
      have o2 : IsPair g2 TO a b := s2.extBut _ _ n1TO.symm (s1.extBut _ _ nTOz hTO)
      refine wpAny_bind (wpAny_seqItems o2 rfl ?_)
      refine wpAny_bind (wpAny_updateSeq_pair o2 fun g3 o3 s3 => ?_)
      refine wpAny_bind (wpAny_letGo (wpAny_pure ?_))
      refine wpAny_bind (wpAny_bind (wpAny_onRaise ?_))
      show wpAny _ _ (Builtin.SmallTypes.nextOf (.ref i2) >>= _) _ _ _
      have ek : k = n2 := by omega
      subst ek
      refine wpAny_bind (I2.done _ _ _ _ hh (I2.but (I2.but (I2.but h2 s1.extBut n2z.symm zl2) s2.extBut n21.symm i1l2) s3.extBut n2TO.symm Tl2) fun g4 e s4 he => ?_)
      obtain ⟨oe, hoe, hce⟩ := he
      have z4 : ZQ g4 z TI TO .ellipsis f := s4 _ _ n2z.symm (s3.extBut _ _ nTOz.symm (s2.extBut _ _ n1z.symm z1))
      have nez : e ≠ z := fun q => by subst q; rw [z4] at hoe; cases hoe; simp at hce
      refine wpAny_setField_rec z4 (by simp) fun g5 _ s5 => hE g5 _ e (fun c o c1 c2 c3 c4 q => s5.extBut _ _ c1 (s4 _ _ c4 (s3.extBut _ _ c2 (s2.extBut _ _ c3 (s1.extBut _ _ c1 q))))) ⟨oe, s5.extBut _ _ nez hoe, hce⟩
    · have ek : k = n1 := by omega
      subst ek
      refine wpAny_bind (I1.done _ _ _ _ hh (I1.but h1 s1.extBut n1z.symm zl1) fun g2 e s2 he => ?_)
      obtain ⟨oe, hoe, hce⟩ := he
      have z2 : ZQ g2 z TI TO .ellipsis f := s2 _ _ n1z.symm z1
      have nez : e ≠ z := fun q => by subst q; rw [z2] at hoe; cases hoe; simp at hce
      refine wpAny_setField_rec z2 (by simp) fun g3 _ s3 => hE g3 _ e (fun c o c1 _ c3 _ q => s3.extBut _ _ c1 (s2 _ _ c3 (s1.extBut _ _ c1 q))) ⟨oe, s3.extBut _ _ nez hoe, hce⟩
  · simp only [Bool.false_eq_true, if_false]
    refine wpAny_bind ?_
    rw [← Array.forIn_toList]
    simp only [List.forIn_cons, List.forIn_nil]
    refine wpAny_bind (wpAny_bind (wpAny_holding ?_))
    show wpAny _ _ (Builtin.SmallTypes.nextOf (.ref i1) >>= _) _ _ _
    by_cases hl : k < n1
    · refine wpAny_bind (I1.item _ k _ _ _ hh hl (I1.but h1 s1.extBut n1z.symm zl1) fun x g2 tk2 y1 u1 s2 => wpAny_pure ?_)
      refine wpAny_pure ?_
      refine wpAny_bind (wpAny_bind (wpAny_holding ?_))
      show wpAny _ _ (Builtin.SmallTypes.nextOf (.ref i2) >>= _) _ _ _
      have ek : k = n2 := by omega
      subst ek
      refine wpAny_bind (I2.done _ _ _ _ hh (I2.but (I2.but h2 s1.extBut n2z.symm zl2) s2.extBut n21.symm i1l2) fun g4 e s4 he => ?_)
      exact hE g4 _ e (fun c o c1 c2 c3 c4 q => s4 _ _ c4 (s2.extBut _ _ c3 (s1.extBut _ _ c1 q))) he
    · have ek : k = n1 := by omega
      subst ek
      refine wpAny_bind (I1.done _ _ _ _ hh (I1.but h1 s1.extBut n1z.symm zl1) fun g2 e s2 he => ?_)
      exact hE g2 _ e (fun c o c1 _ c3 _ q => s2 _ _ c3 (s1.extBut _ _ c1 q)) he
theorem nextOf_zz (hh : A.handled = none) (D : Zap z TI TO i1 i2 l1 l2) (I1 : Inn prog w i1 l1 n1 Y1 t1) (I2 : Inn prog w i2 l2 n2 Y2 t2) {k : Nat} {Q : Value → Shared → Prop}
    (hz : ZS s.heap z TI TO) (hTI : IsPair s.heap TI (.ref i1) (.ref i2)) (hTO : ∃ a b, IsPair s.heap TO a b) (h1 : t1 k s.heap) (h2 : t2 k s.heap) (k1 : k < n1) (k2 : k < n2)
    (hQ : ∀ h' t' x y, Y1 k x → Y2 k y → ZS h' z TI TO → (∃ a b, IsPair h' TO a b) → t1 (k + 1) h' → t2 (k + 1) h' → IsPair h' s.heap.objs.size x y → h'.objs.size = s.heap.objs.size + 1 →
      (∀ c o, c ≠ z → c ≠ TO → c ≠ i1 → c ≠ i2 → s.heap.get? c = some o → h'.get? c = some o) → Q (.ref s.heap.objs.size) { s with heap := h', toks := t' }) :
    wpAny (model prog w) A (Builtin.SmallTypes.nextOf (.ref z)) Q E s := by
  obtain ⟨own, f, ho, hz⟩ := hz
  obtain ⟨a, b, hTO⟩ := hTO
  have hT : s.TypeIs (.ref z) "zip" := ⟨_, hz, rfl⟩
  unfold Builtin.SmallTypes.nextOf
  exact wpAny_bind (wpAny_callSpecial?_slot (name := Str.ofString "__next__") hT F.slot_zip_next (wpAny_call_entry F.slot_zip_next hT F.entry_zip_next
    (zz_item (A := A.in1) (hh := hh) D I1 I2 ho hz hTI hTO h1 h2 k1 k2 fun h' t' x y b1 b2 a1 a2 a3 a4 a5 a6 a7 => wpAny_pure (hQ h' t' x y b1 b2 a1 a2 a3 a4 a5 a6 a7)) (F.args_zip_next_1 _)))
theorem nextOf_zz_end (hh : A.handled = none) (D : Zap z TI TO i1 i2 l1 l2) (I1 : Inn prog w i1 l1 n1 Y1 t1) (I2 : Inn prog w i2 l2 n2 Y2 t2) {k : Nat} {Q : Value → Shared → Prop}
    (hz : ZS s.heap z TI TO) (hTI : IsPair s.heap TI (.ref i1) (.ref i2)) (hTO : ∃ a b, IsPair s.heap TO a b) (h1 : t1 k s.heap) (h2 : t2 k s.heap) (hk : k = min n1 n2)
    (hE : ∀ h' t' e, (∀ c o, c ≠ z → c ≠ TO → c ≠ i1 → c ≠ i2 → s.heap.get? c = some o → h'.get? c = some o) → (∃ o, h'.get? e = some o ∧ o.cls = .type "StopIteration") → E (.ref e) { s with heap := h', toks := t' }) :
    wpAny (model prog w) A (Builtin.SmallTypes.nextOf (.ref z)) Q E s := by
  obtain ⟨own, f, ho, hz⟩ := hz
  obtain ⟨a, b, hTO⟩ := hTO
  have hT : s.TypeIs (.ref z) "zip" := ⟨_, hz, rfl⟩
  unfold Builtin.SmallTypes.nextOf
  exact wpAny_bind (wpAny_callSpecial?_slot (name := Str.ofString "__next__") hT F.slot_zip_next (wpAny_call_entry F.slot_zip_next hT F.entry_zip_next
    (zz_end (A := A.in1) (hh := hh) D I1 I2 ho hz hTI hTO h1 h2 hk hE) (F.args_zip_next_1 _)))
/-- the enumerate apart from the zip -/
structure Eap (e z TI TO i1 i2 : Addr) (l1 l2 : List Addr) : Prop where
  ne : e ∉ [z, TI, TO, i1, i2]
  n1 : e ∉ l1
  n2 : e ∉ l2
theorem ez_item {e : Addr} {i : Nat} {old : Value} (hh : A.handled = none) (D : Zap z TI TO i1 i2 l1 l2) (De : Eap e z TI TO i1 i2 l1 l2) (I1 : Inn prog w i1 l1 n1 Y1 t1) (I2 : Inn prog w i2 l2 n2 Y2 t2) {Q : Value → Shared → Prop}
    (he : IsEnum s.heap e z i old) (hz : ZS s.heap z TI TO) (hTI : IsPair s.heap TI (.ref i1) (.ref i2)) (hTO : ∃ a b, IsPair s.heap TO a b) (h1 : t1 i s.heap) (h2 : t2 i s.heap) (k1 : i < n1) (k2 : i < n2)
    (hQ : ∀ g h' tk x y, Y1 i x → Y2 i y → ZS g z TI TO → (∃ a b, IsPair g TO a b) → t1 (i + 1) g → t2 (i + 1) g → IsPair g s.heap.objs.size x y → g.objs.size = s.heap.objs.size + 1 →
      (∀ c o, c ≠ z → c ≠ TO → c ≠ i1 → c ≠ i2 → s.heap.get? c = some o → g.get? c = some o) →
      IsEnumOut h' e z ((i : Int) + 1) (.ref s.heap.objs.size) (s.heap.objs.size + 1) → h'.get? (s.heap.objs.size + 1) = some { cls := .type "tuple", data := .seq #[.int i tk, .ref s.heap.objs.size] } → h'.objs.size = s.heap.objs.size + 2 →
      (∀ b o, b ≠ e → g.get? b = some o → h'.get? b = some o) → Q (.ref (s.heap.objs.size + 1)) { s with heap := h', toks := tk + 1 }) :
    wpAny (model prog w) A (Builtin.«enumerate.__next__» ⟨[.ref e], []⟩) (fun fin s' => ∃ v, fin = .done (.ret v) ∧ Q v s') E s := by
  have nz : e ≠ z := fun q => De.ne (by simp [q])
  have nTO : e ≠ TO := fun q => De.ne (by simp [q])
  have ni1 : e ≠ i1 := fun q => De.ne (by simp [q])
  have ni2 : e ≠ i2 := fun q => De.ne (by simp [q])
  obtain ⟨hp, g, d, tk₀, os⟩ := s
  show wpAny _ _ (field (.ref e) 2 >>= _) _ _ _
  refine wpAny_bind (wpAny_field he rfl (x := .ref z) rfl ?_)
  refine wpAny_bind (nextOf_zz hh D I1 I2 hz hTI hTO h1 h2 k1 k2 fun h₁ tk x y y1 y2 z1 o1 u1 u2 hT sz1 kp1 => ?_)
  replace sz1 : h₁.objs.size = hp.objs.size + 1 := sz1
  replace hT : IsPair h₁ hp.objs.size x y := hT
  have he₁ : IsEnum h₁ e z i old := kp1 _ _ nz nTO ni1 ni2 he
  show wpAny _ _ (field (.ref e) 3 >>= _) _ _ ⟨h₁, g, d, tk, os⟩
  refine wpAny_bind (wpAny_field he₁ rfl (x := rawInt i) rfl ?_)
  show wpAny _ _ (field (.ref e) 4 >>= _) _ _ ⟨h₁, g, d, tk, os⟩
  refine wpAny_bind (wpAny_field he₁ rfl (x := .none) rfl ?_)
  show wpAny _ _ (mkInt i >>= _) _ _ ⟨h₁, g, d, tk, os⟩
  refine wpAny_bind (wpAny_mkInt ?_)
  show wpAny _ _ (setField (.ref e) 3 (rawInt ((i : Int) + 1)) >>= _) _ _ ⟨h₁, g, d, tk + 1, os⟩
  refine wpAny_bind (wpAny_setField_rec he₁ (by simp) fun h₂ he₂ hs₂ => ?_)
  replace hs₂ : Heap.SameBut e h₁ h₂ := hs₂
  replace he₂ : IsEnum h₂ e z ((i : Int) + 1) old := he₂
  show wpAny _ _ (setField (.ref e) 4 .none >>= _) _ _ ⟨h₂, g, d, tk + 1, os⟩
  refine wpAny_bind (wpAny_setField_rec he₂ (by simp) fun h₃ he₃ hs₃ => ?_)
  replace hs₃ : Heap.SameBut e h₂ h₃ := hs₃
  replace he₃ : IsEnum h₃ e z ((i : Int) + 1) old := he₃
  show wpAny _ _ (newTuple [.int i tk, .ref hp.objs.size] >>= _) _ _ ⟨h₃, g, d, tk + 1, os⟩
  refine wpAny_bind (wpAny_newTuple ?_)
  have he₄ : IsEnum (h₃.push { cls := .type "tuple", data := .seq #[.int i tk, .ref hp.objs.size] }) e z ((i : Int) + 1) old := Heap.get?_push_of_some _ he₃
  generalize hh₄ : h₃.push { cls := .type "tuple", data := .seq #[.int i tk, .ref hp.objs.size] } = h₄ at he₄
  have hsz : h₃.objs.size = hp.objs.size + 1 := by rw [hs₃.1, hs₂.1, sz1]
  have hel : e < hp.objs.size + 1 := Nat.lt_succ_of_lt (Heap.lt_size he)
  have ht₄ : h₄.get? (hp.objs.size + 1) = some { cls := .type "tuple", data := .seq #[.int i tk, .ref hp.objs.size] } := by rw [← hh₄, ← hsz]; exact Heap.get?_push_size _ rfl
  have hz₄ : h₄.objs.size = hp.objs.size + 2 := by rw [← hh₄, Heap.size_push, hsz]
  have hk₄ : ∀ b o, b ≠ e → h₁.get? b = some o → h₄.get? b = some o := fun b o hbe hb => by
    rw [← hh₄]; exact Heap.get?_push_of_some _ (hs₃.extBut b o hbe (hs₂.extBut b o hbe hb))
  show wpAny _ _ (Builtin.SmallTypes.ownedTupleIsFree (.ref e) >>= _) _ _ ⟨h₄, g, d, tk + 1, os⟩
  rw [hsz]
  clear hh₄ he₃ hs₃ he₂ hs₂ he₁ hsz h₃ h₂
  refine wpAny_bind ?_
  · unfold Builtin.SmallTypes.ownedTupleIsFree
    refine wpAny_bind (wpAny_field he₄ rfl (x := .none) rfl (wpAny_pure ?_))
    simp only [if_true]
    refine wpAny_bind (wpAny_rule ?_)
    refine wpAny_bind (wpAny_field he₄ rfl (x := old) rfl ?_)
    refine wpAny_bind (wpAny_setField_rec he₄ (by simp) fun h₅ he₅ hs₅ => ?_)
    replace hs₅ : Heap.SameBut e h₄ h₅ := hs₅
    replace he₅ : IsEnum h₅ e z ((i : Int) + 1) (.ref hp.objs.size) := he₅
    show wpAny _ _ (Builtin.SmallTypes.ownedTupleHandOut (.ref e) (.ref (hp.objs.size + 1)) >>= _) _ _ ⟨h₅, g, d, tk + 1, os⟩
    refine wpAny_bind ?_
    · unfold Builtin.SmallTypes.ownedTupleHandOut
      refine wpAny_bind (wpAny_setField_rec he₅ (by simp) fun h₆ he₆ hs₆ => ?_)
      replace hs₆ : Heap.SameBut e h₅ h₆ := hs₆
      replace he₆ : IsEnumOut h₆ e z ((i : Int) + 1) (.ref hp.objs.size) (hp.objs.size + 1) := he₆
      refine wpAny_setField_rec he₆ (by simp) fun h₇ he₇ hs₇ => ?_
      replace hs₇ : Heap.SameBut e h₆ h₇ := hs₇
      replace he₇ : IsEnumOut h₇ e z ((i : Int) + 1) (.ref hp.objs.size) (hp.objs.size + 1) := he₇
      refine wpAny_bind (wpAny_letGo (wpAny_pure ⟨_, rfl, hQ h₁ h₇ tk x y y1 y2 z1 o1 u1 u2 hT sz1 kp1 he₇ ?_ ?_ ?_⟩))
      · exact hs₇.extBut _ _ (Nat.ne_of_gt hel) (hs₆.extBut _ _ (Nat.ne_of_gt hel) (hs₅.extBut _ _ (Nat.ne_of_gt hel) ht₄))
      · rw [hs₇.1, hs₆.1, hs₅.1, hz₄]
      · exact fun b o hbe hb => hs₇.extBut b o hbe (hs₆.extBut b o hbe (hs₅.extBut b o hbe (hk₄ b o hbe hb)))
theorem next_ez {e : Addr} {i : Nat} {old : Value} (hh : A.handled = none) (D : Zap z TI TO i1 i2 l1 l2) (De : Eap e z TI TO i1 i2 l1 l2) (I1 : Inn prog w i1 l1 n1 Y1 t1) (I2 : Inn prog w i2 l2 n2 Y2 t2) {Q : Option Value → Shared → Prop}
    (he : IsEnum s.heap e z i old) (hz : ZS s.heap z TI TO) (hTI : IsPair s.heap TI (.ref i1) (.ref i2)) (hTO : ∃ a b, IsPair s.heap TO a b) (h1 : t1 i s.heap) (h2 : t2 i s.heap) (k1 : i < n1) (k2 : i < n2)
    (hQ : ∀ g h' tk x y, Y1 i x → Y2 i y → ZS g z TI TO → (∃ a b, IsPair g TO a b) → t1 (i + 1) g → t2 (i + 1) g → IsPair g s.heap.objs.size x y → g.objs.size = s.heap.objs.size + 1 →
      (∀ c o, c ≠ z → c ≠ TO → c ≠ i1 → c ≠ i2 → s.heap.get? c = some o → g.get? c = some o) →
      IsEnumOut h' e z ((i : Int) + 1) (.ref s.heap.objs.size) (s.heap.objs.size + 1) → h'.get? (s.heap.objs.size + 1) = some { cls := .type "tuple", data := .seq #[.int i tk, .ref s.heap.objs.size] } → h'.objs.size = s.heap.objs.size + 2 →
      (∀ b o, b ≠ e → g.get? b = some o → h'.get? b = some o) → Q (some (.ref (s.heap.objs.size + 1))) { s with heap := h', toks := tk + 1 }) :
    wpAny (model prog w) A (pyNext (.ref e)) Q E s := by
  have hT : s.TypeIs (.ref e) "enumerate" := ⟨_, he, rfl⟩
  unfold pyNext
  exact wpAny_bind (wpAny_attempt (wpAny_callSpecial?_slot (name := Str.ofString "__next__") hT F.slot_enumerate_next
    (wpAny_call_entry F.slot_enumerate_next hT F.entry_enumerate_next
      (ez_item (A := A.in1) hh D De I1 I2 he hz hTI hTO h1 h2 k1 k2 fun g h' tk x y a1 a2 a3 a4 a5 a6 a7 a8 a9 b1 b2 b3 b4 => wpAny_pure (hQ g h' tk x y a1 a2 a3 a4 a5 a6 a7 a8 a9 b1 b2 b3 b4)) (F.args_enumerate_next_1 _))))
theorem next_ez_end {e : Addr} {i : Int} {k : Nat} {old : Value} (hh : A.handled = none) (D : Zap z TI TO i1 i2 l1 l2) (I1 : Inn prog w i1 l1 n1 Y1 t1) (I2 : Inn prog w i2 l2 n2 Y2 t2) {Q : Option Value → Shared → Prop}
    (he : IsEnum s.heap e z i old) (hz : ZS s.heap z TI TO) (hTI : IsPair s.heap TI (.ref i1) (.ref i2)) (hTO : ∃ a b, IsPair s.heap TO a b) (h1 : t1 k s.heap) (h2 : t2 k s.heap) (hk : k = min n1 n2)
    (hQ : ∀ h' t', (∀ c o, c ≠ z → c ≠ TO → c ≠ i1 → c ≠ i2 → s.heap.get? c = some o → h'.get? c = some o) → Q none { s with heap := h', toks := t' }) : wpAny (model prog w) A (pyNext (.ref e)) Q E s := by
  have hT : s.TypeIs (.ref e) "enumerate" := ⟨_, he, rfl⟩
  unfold pyNext
  refine wpAny_bind (wpAny_attempt (wpAny_callSpecial?_slot (name := Str.ofString "__next__") hT F.slot_enumerate_next
    (wpAny_call_entry F.slot_enumerate_next hT F.entry_enumerate_next ?_ (F.args_enumerate_next_1 _))))
  show wpAny _ _ (field (.ref e) 2 >>= _) _ _ _
  refine wpAny_bind (wpAny_field he rfl (x := .ref z) rfl ?_)
  refine wpAny_bind (nextOf_zz_end (A := A.in1) hh D I1 I2 hz hTI hTO h1 h2 hk fun h' t' x he' hx' => ?_)
  obtain ⟨o, ho, hc⟩ := hx'
  refine wpAny_bind (wpAny_isInstance (T := "StopIteration") (b := true) ⟨o, ho, hc⟩ isSubtype_stop ?_)
  exact wpAny_pure (hQ _ _ he')
end
def ItEZ (n : Nat) (G : Hp → Prop) (V1 V2 : Nat → V → Prop) : It :=
  ⟨fun i H => i < n ∧ G H, fun i H v H' => ∃ T U x y, v = .ref U ∧ H T = none ∧ upd H T (.tup [x, y]) U = none ∧ U ≠ T ∧ H' = upd (upd H T (.tup [x, y])) U (.tup [.int (i : Nat), .ref T]) ∧ V1 i x ∧ V2 i y, fun i H => i = n ∧ G H⟩
theorem turn_ez {P : Program} {w : World} {K : Frag} {elts : List Expr} {kk : Nat} {tpos : Pos} {n1 n2 : Nat} {V1 V2 : Nat → V → Prop} {t1 t2 : Nat → Heap → Prop} {e z TI TO i1 i2 : Addr} {l1 l2 : List Addr} {G1 G2 : Hp → Prop} (D : Zap z TI TO i1 i2 l1 l2) (De : Eap e z TI TO i1 i2 l1 l2)
    (k1 : Kd P w K i1 l1 n1 G1 V1 t1) (k2 : Kd P w K i2 l2 n2 G2 V2 t2) : Turn P w K (.Tuple elts kk tpos) (ItEZ (min n1 n2) (fun H => G1 H ∧ G2 H) V1 V2) [e, z, TI, TO, i1, i2] e
      (fun i h => (∃ old, IsEnum h e z ((i : Nat) : Int) old) ∧ ZS h z TI TO ∧ IsPair h TI (.ref i1) (.ref i2) ∧ (∃ x y, IsPair h TO x y) ∧ t1 i h ∧ t2 i h) where
  mem := by simp
  obj := fun i h st c hc => by
    obtain ⟨⟨old, he⟩, ⟨own, f, ho, hz⟩, hTI, ⟨x, y, hTO⟩, h1, h2⟩ := st
    simp only [List.mem_cons, List.not_mem_nil, or_false] at hc
    rcases hc with rfl | rfl | rfl | rfl | rfl | rfl
    · exact ⟨_, he, fun v q => nomatch q⟩
    · exact ⟨_, hz, fun v q => nomatch q⟩
    · exact ⟨_, hTI, fun v q => nomatch q⟩
    · exact ⟨_, hTO, fun v q => nomatch q⟩
    · exact k1.obj i h h1
    · exact k2.obj i h h2
  keep := fun i h h' st k => by
    obtain ⟨⟨old, he⟩, ⟨own, f, ho, hz⟩, hTI, ⟨x, y, hTO⟩, h1, h2⟩ := st
    exact ⟨⟨old, k e (by simp) _ he⟩, ⟨own, f, ho, k z (by simp) _ hz⟩, k TI (by simp) _ hTI, ⟨x, y, k TO (by simp) _ hTO⟩, k1.keep i h h' h1 (k i1 (by simp)), k2.keep i h h' h2 (k i2 (by simp))⟩
  item := by
    intro X hP hw hK hc i pins s σ H E I hf st hg
    obtain ⟨⟨old, he⟩, hz, hTI, hTO, h1, h2⟩ := st
    obtain ⟨hi, g1, g2⟩ := hg
    obtain ⟨Y1, s1, J1, q1, r1⟩ := k1.inn X pins σ s H hP hw hK I g1
    obtain ⟨Y2, s2, J2, q2, r2⟩ := k2.inn X pins σ s H hP hw hK I g2
    subst hP hw hK
    have hel : e < s.heap.objs.size := Heap.lt_size he
    obtain ⟨⟨nTIz, nTOz, n1z, n2z⟩, ⟨nTOTI, n1TI, n2TI⟩, _, _⟩ := D.ne
    have ez : e ≠ z := fun q => De.ne (by simp [q])
    have eTI : e ≠ TI := fun q => De.ne (by simp [q])
    have eTO : e ≠ TO := fun q => De.ne (by simp [q])
    have e1 : e ≠ i1 := fun q => De.ne (by simp [q])
    have e2 : e ≠ i2 := fun q => De.ne (by simp [q])
    have lts : ∀ c ∈ [e, z, TI, TO, i1, i2], c < s.heap.objs.size := fun c hcm => by
      simp only [List.mem_cons, List.not_mem_nil, or_false] at hcm
      rcases hcm with rfl | rfl | rfl | rfl | rfl | rfl
      · exact hel
      · obtain ⟨_, _, _, q⟩ := hz; exact Heap.lt_size q
      · exact Heap.lt_size hTI
      · obtain ⟨_, _, q⟩ := hTO; exact Heap.lt_size q
      · obtain ⟨_, q, _⟩ := k1.obj _ _ h1; exact Heap.lt_size q
      · obtain ⟨_, q, _⟩ := k2.obj _ _ h2; exact Heap.lt_size q
    refine next_ez (I.ok.hd hc) D De J1 J2 he hz hTI hTO ⟨h1, q1⟩ ⟨h2, q2⟩ (by omega) (by omega) fun g h' tk u u2 y1 y2 zg og ug vg hT szg kg eo hU szh kh => ?_
    refine ⟨_, rfl, wpAny_letOwnedTupleGo_enum (s := { s with heap := h', toks := tk + 1 }) eo fun h'' he' sb => ?_⟩
    obtain ⟨x, ru, vx⟩ := r1 i u y1
    obtain ⟨y, ru2, vy⟩ := r2 i u2 y2
    have kk : ∀ b o, b ≠ e → g.get? b = some o → h''.get? b = some o := fun b o hb q => (sb.2 b hb).trans (kh b o hb q)
    have nT : e ≠ s.heap.objs.size := Nat.ne_of_lt hel
    have nU : e ≠ s.heap.objs.size + 1 := Nat.ne_of_lt (Nat.lt_succ_of_lt hel)
    have newT : ObjOk X.prog X.w (upd H s.heap.objs.size (.tup [x, y])) g s.heap.objs.size (.tup [x, y]) := ⟨by show 2 ≤ sizeLine; decide, [u, u2], .cons ru (.cons ru2 .nil), ⟨_, hT, rfl, _, rfl⟩⟩
    have I1 : Inv X pins σ (upd H s.heap.objs.size (.tup [x, y])) { s with heap := g, toks := tk } :=
      I.turnedNew (t' := tk) (ch := [e, z, TI, TO, i1, i2]) (fun c o hb q => kg c o (fun q' => hb (by simp [q'])) (fun q' => hb (by simp [q'])) (fun q' => hb (by simp [q'])) (fun q' => hb (by simp [q'])) q) hf (Nat.le_refl _) newT
    have hU2 : h''.get? (s.heap.objs.size + 1) = some { cls := .type "tuple", data := .seq #[.int i tk, .ref s.heap.objs.size] } := (sb.2 _ nU.symm).trans hU
    have newU : ObjOk X.prog X.w (upd (upd H s.heap.objs.size (.tup [x, y])) (s.heap.objs.size + 1) (.tup [.int (i : Nat), .ref s.heap.objs.size])) h'' (s.heap.objs.size + 1) (.tup [.int (i : Nat), .ref s.heap.objs.size]) :=
      ⟨by show 2 ≤ sizeLine; decide, [.int i tk, .ref s.heap.objs.size], .cons ⟨_, rfl⟩ (.cons (show RelV (.ref s.heap.objs.size) (.ref s.heap.objs.size) from rfl) .nil), ⟨_, hU2, rfl, _, rfl⟩⟩
    have f1 : ∀ b ∈ [e], FpOk X pins (upd H s.heap.objs.size (.tup [x, y])) b := fun b hb => by
      have q : b = e := by simpa using hb
      subst q
      have := hf b (by simp)
      exact ⟨by rw [upd_ne nT]; exact this.1, this.2⟩
    have I2 : Inv X pins σ (upd (upd H s.heap.objs.size (.tup [x, y])) (s.heap.objs.size + 1) (.tup [.int (i : Nat), .ref s.heap.objs.size])) { s with heap := h'', toks := tk + 1 } :=
      I1.turnedNew (s := { s with heap := g, toks := tk }) (t' := tk + 1) (ch := [e]) (fun c o hb q => kk c o (fun q' => hb (by simp [q'])) q) f1 (show g.objs.size ≤ s.heap.objs.size + 1 by rw [szg]; exact Nat.le_refl _) newU
    refine ⟨.ref (s.heap.objs.size + 1), _, I2, rfl, ⟨s.heap.objs.size, s.heap.objs.size + 1, x, y, rfl, I.hok.fresh (Nat.le_refl _), ?_, Nat.succ_ne_self _, rfl, vx, vy⟩, ⟨⟨_, he'⟩, ?_, ?_, ?_, ?_, ?_⟩, fun c hcm => ?_⟩
    · rw [upd_ne (Nat.succ_ne_self _)]; exact I.hok.fresh (Nat.le_succ _)
    · obtain ⟨own, f, ho, q⟩ := zg
      exact ⟨own, f, ho, kk _ _ ez.symm q⟩
    · exact kk _ _ eTI.symm (kg _ _ nTIz nTOTI.symm n1TI.symm n2TI.symm hTI)
    · obtain ⟨a, b, q⟩ := og
      exact ⟨a, b, kk _ _ eTO.symm q⟩
    · exact k1.keep _ _ _ ug.1 fun o q => kk _ _ e1.symm q
    · exact k2.keep _ _ _ vg.1 fun o q => kk _ _ e2.symm q
    · have hlt := lts c hcm
      rw [upd_ne (Nat.ne_of_lt (Nat.lt_succ_of_lt hlt)), upd_ne (Nat.ne_of_lt hlt)]
      exact (hf c hcm).1
  done := by
    intro X hP hw hK hc i pins s σ H E I hf st hg
    obtain ⟨⟨old, he⟩, hz, hTI, hTO, h1, h2⟩ := st
    obtain ⟨hi, g1, g2⟩ := hg
    obtain ⟨Y1, s1, J1, q1, r1⟩ := k1.inn X pins σ s H hP hw hK I g1
    obtain ⟨Y2, s2, J2, q2, r2⟩ := k2.inn X pins σ s H hP hw hK I g2
    subst hP hw hK
    exact next_ez_end (I.ok.hd hc) D J1 J2 he hz hTI hTO ⟨h1, q1⟩ ⟨h2, q2⟩ hi fun h' tk hk => ⟨rfl, I.turnedL (t' := tk) (ch := [e, z, TI, TO, i1, i2]) (fun c o hb q => hk c o (fun q' => hb (by simp [q'])) (fun q' => hb (by simp [q'])) (fun q' => hb (by simp [q'])) (fun q' => hb (by simp [q'])) q) hf⟩
  self := fun A i s Q E st h => let ⟨⟨_, he⟩, _⟩ := st; wpAny_pyIter_enum he h
def gEnumZ (ds : List D) : Option (List D) := (gZip ds).map (enumD 0)
theorem gEnumZ_of {ds xs : List D} (h : gEnumZ ds = some xs) : ∃ a b as bs, ds = [a, b] ∧ iD a = some as ∧ iD b = some bs ∧ xs = enumD 0 (zipD as bs) := by
  unfold gEnumZ at h
  cases q : gZip ds with
  | none => rw [q] at h; cases h
  | some ys =>
    rw [q] at h
    cases h
    obtain ⟨a, b, as, bs, h1, h2, h3, rfl⟩ := gZip_of q
    exact ⟨a, b, as, bs, h1, h2, h3, rfl⟩
section
variable {prog : Program} {w : World} {A : Around} {E : Value → Shared → Prop} {s : Shared}
theorem meets_enumS (z TI TO : Addr) :
    Meets (Builtin.«enumerate.__new__» ⟨[.type "enumerate", .ref z], []⟩) (fun _ R s => IsZip s.heap z TI TO .none ∧ R (.ok (.ret (.ref s.heap.objs.size)))
      { s with heap := s.heap.push { cls := .type "enumerate", data := .fields #[.none, .bool false, .ref z, rawInt 0, .none, .none] } }) :=
  .of_wp fun prog w A R s h => by
    obtain ⟨hp, gg, d, tk, os⟩ := s
    obtain ⟨hl, h⟩ := h
    have hsub := sub_enumerate
    have a1 := fun (A : Around) Q E => wpAny_pyIter_zip (prog := prog) (w := w) (A := A) (E := E) (Q := Q) (s := ⟨hp, gg, d, tk, os⟩) hl
    wp_walk
    refine wpAny_stack_any fun st => wpAny_pure ?_
    split
    · rename_i c _ _ _ _ _
      cases (c == Value.type "enumerate")
      · wp_walk using a1 _ _ _
        exact ⟨_, rfl, h⟩
      · wp_walk using a1 _ _ _
        exact ⟨_, rfl, h⟩
    · wp_walk using a1 _ _ _
      exact ⟨_, rfl, h⟩
theorem call_enumZ {z TI TO : Addr} (hz : IsZip s.heap z TI TO .none) {Q : Value → Shared → Prop}
    (h : ∀ h', IsEnum h' s.heap.objs.size z 0 .none → (∀ b o, s.heap.get? b = some o → h'.get? b = some o) → Q (.ref s.heap.objs.size) { s with heap := h' }) :
    wpAny (model prog w) A (call (.type "enumerate") [.ref z]) Q E s := by
  refine callType_new F.called_enumerate (by decide) (F.typeCall_enumerate_1 _) (F.newCall_enumerate_1 _) (fun obj => F.args_object_init_2 obj _) F.entry_enumerate_new (meets_enumS z TI TO) ⟨hz, ?_⟩
  have e2 : (s.heap.push { cls := .type "enumerate", data := .fields #[.none, .bool false, .ref z, rawInt 0, .none, .none] }).get? s.heap.objs.size = some _ := Heap.get?_push_size _ rfl
  exact ⟨⟨_, e2, rfl⟩, h _ e2 fun b o x => Heap.get?_push_of_some _ x⟩
end
section
variable {X : Cx} {W : WX}
theorem si_enumZ {a b : Expr} {q : XA} {p p2 pos pos2 tpos : Pos} {elts : List Expr} {kk : Nat} (hg : Gl X "enumerate") (hm : X.mg "enumerate" = none) (hg2 : Gl X "zip") (hm2 : X.mg "zip" = none) (ha : SA X W [a, b] q)
    (hs : starEach [a, b] X.env = (false, eval a X.env) :: starEach [b] X.env := by rfl) (hpl : (backTo pos2 (starEach [b] X.env)).any (·.1) = false := by rfl)
    (he : starEach [.Call (.Name "zip" p2) [a, b] [] pos2] X.env = (false, eval (.Call (.Name "zip" p2) [a, b] [] pos2) X.env) :: starEach [] X.env := by rfl) :
    SI X W (.Tuple elts kk tpos) (.Call (.Name "enumerate" p) [.Call (.Name "zip" p2) [a, b] [] pos2] [] pos) (iArgs gEnumZ q) := by
  refine ⟨fun pins s σ H R I ⟨B, e, Z, R0, hq⟩ => ?_⟩
  have h1 : RA X.K X.mg W q σ H fun vs H1 => ∃ v w as bs, vs = [v, w] ∧ ∃ Z1, Same Z1 H1 ∧ Zp X Z1 v as ∧ Zp X Z1 w bs ∧ ∀ J, Wk X.K Z1 J (enumD 0 (zipD as bs)) → R J H1 := by
    refine rg_bind R0 hq fun v1 Z1 e1 d1 H1 s1 R1 D1 h1 => ?_
    obtain ⟨ds, e2, h2⟩ := pgi_lift h1
    obtain ⟨a', b', as, bs, rfl, ia, ib, rfl⟩ := gEnumZ_of e2
    obtain ⟨v, w, rfl, da, db⟩ := dpa_2 D1
    exact ⟨v, w, as, bs, rfl, Z1, R1.sub, zp_of da ia, zp_of db ib, fun J w => h2 J Z1 H1 (Same.refl _) R1 w⟩
  refine Call_ (ld_blt I hg hm boot_enumerate (PyProof.Rows.callWith_type1 ?_ he rfl))
  rw [he]
  refine Calls.spliced_cons ?_
  refine Call_ (ld_blt I hg2 hm2 PyProof.Rows.boot_zip (PyProof.Rows.callWith_type1 (thn (ha.run pos2 pins s σ H _ I h1) fun us s1 ⟨vs, H1, I1, r1, q1⟩ => ?_) hs hpl))
  obtain ⟨v, w, as, bs, rfl, Z1, sz, zv, zw, fin⟩ := q1
  cases r1 with
  | cons ra rr =>
    cases rr with
    | cons rb rr =>
      cases rr
      obtain ⟨o1, P1, G1, V1, l1, at1, g1, k1, p1, nf1, gg1, lt1, kd1, i01, y1⟩ := zv.ex _ s1 pins σ H1 ra I1 sz
      obtain ⟨o2, P2, G2, V2, l2, at2, g2, k2, p2, nf2, gg2, lt2, kd2, i02, y2⟩ := zw.ex _ s1 pins σ H1 rb I1 sz
      refine call_zipG k2 g1 g2 p1 p2 nf1 nf2 fun h0 hz hTI hTO h1 h2 hsz hk => Calls.spliced_nil ?_
      refine call_enumZ (s := { s1 with heap := h0 }) hz fun h' en hk2 => wpAny_pyIter_enum en ?_
      replace hk2 : ∀ b o, h0.get? b = some o → h'.get? b = some o := hk2
      replace en : IsEnum h' h0.objs.size (s1.heap.objs.size + 4) 0 .none := en
      have I2 : Inv X pins σ H1 { s1 with heap := h' } := I1.kept (t' := s1.toks) fun b o q => hk2 b o (hk b o q)
      have hle : @LE.le Nat _ (s1.heap.objs.size + 5) h0.objs.size := by rw [hsz]; exact Nat.le_refl _
      have ap : Zap (s1.heap.objs.size + 4) (s1.heap.objs.size + 2) (s1.heap.objs.size + 3) s1.heap.objs.size (s1.heap.objs.size + 1) l1 l2 := by
        refine ⟨?_, fun b hb hm => ?_, fun b hb hm => ?_⟩
        · simp
        · have lt := lt1 b hb
          simp only [List.mem_cons, List.not_mem_nil, or_false] at hm
          rcases hm with rfl | rfl | rfl | rfl | rfl <;> first | exact Nat.not_lt.mpr (Nat.le_add_right _ _) lt | exact Nat.lt_irrefl _ lt
        · have lt := lt2 b hb
          simp only [List.mem_cons, List.not_mem_nil, or_false] at hm
          rcases hm with rfl | rfl | rfl | rfl | rfl <;> first | exact Nat.not_lt.mpr (Nat.le_add_right _ _) lt | exact Nat.lt_irrefl _ lt
      have ape : Eap h0.objs.size (s1.heap.objs.size + 4) (s1.heap.objs.size + 2) (s1.heap.objs.size + 3) s1.heap.objs.size (s1.heap.objs.size + 1) l1 l2 := by
        refine ⟨fun hm => ?_, fun hm => ?_, fun hm => ?_⟩
        · simp only [List.mem_cons, List.not_mem_nil, or_false] at hm
          have hle2 : @LE.le Nat _ (s1.heap.objs.size + 5) h0.objs.size := hle
          rcases hm with q | q | q | q | q <;> (rw [q] at hle2; omega)
        · exact Nat.lt_irrefl _ (Nat.lt_of_lt_of_le (lt1 _ hm) (Nat.le_trans (Nat.le_add_right _ 5) hle))
        · exact Nat.lt_irrefl _ (Nat.lt_of_lt_of_le (lt2 _ hm) (Nat.le_trans (Nat.le_add_right _ 5) hle))
      refine ⟨h0.objs.size, [h0.objs.size, s1.heap.objs.size + 4, s1.heap.objs.size + 2, s1.heap.objs.size + 3, s1.heap.objs.size, s1.heap.objs.size + 1], _, _, H1, rfl, I2, turn_ez ap ape (kd1 _) (kd2 _),
        ⟨⟨_, en⟩, ⟨_, _, .inl rfl, hk2 _ _ hz⟩, hk2 _ _ hTI, ⟨_, _, hk2 _ _ hTO⟩, i01 _ _ (hk2 _ _ h1), i02 _ _ (hk2 _ _ h2)⟩, fun c hcm => ?_, fin _ ?_⟩
      · have hle2 : @LE.le Nat _ s1.heap.objs.size c := by
          simp only [List.mem_cons, List.not_mem_nil, or_false] at hcm
          rcases hcm with rfl | rfl | rfl | rfl | rfl | rfl <;> first | exact Nat.le_trans (Nat.le_add_right _ _) hle | exact Nat.le_add_right _ _ | exact Nat.le_refl _
        exact I1.fpOk hle2 (I1.hok.fresh hle2)
      · refine ⟨fun i H hi s => ⟨by rw [enumD_len, zipD_len] at hi; exact hi, gg1 H s, gg2 H s⟩, fun H s => ⟨by rw [enumD_len, zipD_len], gg1 H s, gg2 H s⟩, fun i H x H' B e σ Z2 hi s R hy => ?_⟩
        obtain ⟨T, U, x, y, rfl, nT, nU, hne, rfl, vx, vy⟩ := hy
        rw [enumD_len, zipD_len] at hi
        obtain ⟨d1, e1, D1⟩ := y1 i x (by omega) vx
        obtain ⟨d2, e2, D2⟩ := y2 i y (by omega) vy
        obtain ⟨R2, s2⟩ := R.new (o := .tup [x, y]) nT
        obtain ⟨R3, s3⟩ := R2.new (o := .tup [.int (i : Nat), .ref T]) nU
        have eg := enumD_get (zipD as bs) 0 i _ (zipD_get as bs i d1 d2 e1 e2)
        rw [Nat.zero_add] at eg
        have sT : upd (upd Z2 T (.tup [x, y])) U (.tup [.int (i : Nat), .ref T]) T = some (.tup [x, y]) := by rw [upd_ne hne.symm]; exact upd_same
        have D3 : Dq X.K (upd (upd Z2 T (.tup [x, y])) U (.tup [.int (i : Nat), .ref T])) (.ref T) (.tuple [d1, d2]) :=
          .tup (.inl (.inl sT)) (.cons (dp_mono (s.trans (s2.trans s3)) D1) (.cons (dp_mono (s.trans (s2.trans s3)) D2) .nil))
        exact ⟨_, _, s2.trans s3, R3, eg, .tup (.inl (.inl upd_same)) (.cons (.int _) (.cons D3 .nil))⟩
end
end G
set_option Elab.async false
set_option linter.all false
set_option maxRecDepth 100000
/-! sorted(set(list of ints)) -/
namespace G
open PySem PySem.Spec PyProof.Rows L2
section
variable {P : Program} {w : World} {A : Around} {E : Value → Shared → Prop} {s : Shared}
abbrev oSet0 (w : World) : Obj := { cls := .type "set", dict := none, data := .set #[] 0 (.fresh 0 0 (!w.params.followText "set-order")) }
/-- set.__init__ of a list of ints, of a set that is new -/
theorem init_setL {S l : Addr} {items : Array Value} {ns : List Int} {R : Result → Shared → Prop} (hh : A.handled = none) (hS : s.heap.get? S = some (oSet0 w)) (hl : s.heap.IsList l items) (hi : IntsAre items.toList ns) (hb : ns.length + 1 < scanBound)
    (hR : ∀ (h' : Heap) (tk c : Nat), SetR w h' S (fun j => decide (j ∈ ns)) c → (∀ b o, b ≠ S → s.heap.get? b = some o → h'.get? b = some o) → R (.ok (.ret .none)) { s with heap := h', toks := tk }) :
    codeAny (model P w) A (.call (.builtin "set.__init__") ⟨[.ref S, .ref l], []⟩) R s := by
  have typ : s.TypeIs (.ref S) "set" := ⟨_, hS, rfl⟩
  refine codeAny_call_builtin F.called_set.init.plain F.entry_set_init (check_set_init_1 typ ?_)
  have size : items.size = ns.length := by rw [← Array.length_toList]; exact IntsAre.length hi
  obtain ⟨⟨c0, d0, _, sl0⟩, ho, hc, cap, hd⟩ := id hl
  simp only at hc hd
  subst hc hd
  have neS : l ≠ S := fun q => by
    rw [q, hS] at ho
    have k := congrArg (fun o => o.map fun o : Obj => o.cls == .type "set") ho
    exact absurd k (by simp)
  have notD : (Value.type "list" == Value.type "dict") = false := rfl
  have sub1 := PySem.F.sub_list_set
  have sub2 := PySem.F.sub_list_frozenset
  obtain ⟨hp, g, d, tk, os⟩ := s
  unfold Builtin.«set.__init__» noKeywords Builtin.Frozenset.updateFrom
  generalize hf : pyIter = f
  wp_walk
  subst hf
  refine wpAny_pyIter_list hl (wpAny_bind (wpAny_runValue ?_))
  have lS : S < hp.objs.size := Heap.lt_size hS
  have ll : l < hp.objs.size := Heap.lt_size ho
  refine set_update_ints ((Walks.list (by simpa using hh) hp.objs.size l (Nat.ne_of_lt ll) items).toS) S (fun q => ?_) ns size hb (fun i v hv => ?_) (items.size - 0) 0 _ (by omega) (Nat.zero_le _)
    ⟨⟨_, Heap.get?_push_size _ rfl, rfl, rfl⟩, hl.push _⟩ ⟨0, Nat.le_refl _, setR_new_at (Heap.get?_push_of_some _ hS)⟩ fun s' c' mv _ hS' => ?_
  · rcases List.mem_cons.mp q with q | q
    · exact Nat.lt_irrefl _ (q ▸ lS)
    · exact neS (List.mem_singleton.mp q).symm
  · have lt : i < ns.length := by rw [← size]; exact (Array.getElem?_eq_some_iff.mp hv).1
    obtain ⟨t, e⟩ := PyProof.Rows.IntsAre.int_at hi i v (by rw [Array.getElem?_toList]; exact hv)
    exact ⟨_, t, List.getElem?_eq_getElem lt, by rw [e, List.getD_eq_getElem?_getD, List.getElem?_eq_getElem lt]; rfl⟩
  · rw [Moved.eq_with mv]
    refine wpAny_pure (wpAny_pure (hR s'.heap s'.toks c' hS' fun b o nb q => mv.heap b o (fun m => ?_) (Heap.get?_push_of_some _ q)))
    rcases List.mem_cons.mp m with m | m
    · exact nb m
    · exact Nat.lt_irrefl _ ((List.mem_singleton.mp m) ▸ Heap.lt_size q)
/-- T(..): made, then begun -/
theorem call_typ {T newId initId : String} {args : List Value} {Q Q₁ : Value → Shared → Prop} (ft : TypeCalled T newId initId) (chk : checkTypeCall T ⟨args, []⟩ = pure ()) (made : codeAny (model P w) A.in1 (.call (.builtin newId) ⟨.type T :: args, []⟩) (wants Q₁ E) s)
    (begun : ∀ obj s₁, Q₁ obj s₁ → s₁.TypeIs obj T ∧ codeAny (model P w) A.in1 (.call (.builtin initId) ⟨obj :: args, []⟩) (wants (fun r s₂ => r = .none ∧ Q obj s₂) E) s₁) : wpAny (model P w) A (call (.type T) args) Q E s := by
  obtain ⟨_, _, order⟩ := ft.mro
  have ⟨q1, q2, _, q3, _, q4, q5⟩ := ft
  refine wpAny_call (codeAny_of_tree (show wpAny _ _ (callAny (.type T) _) _ _ _ from wpAny_pure ⟨Code.quiet_builtin _ (by decide +kernel), codeAny_builtin F.entry_type_call ?_⟩))
  rw [Around.under_plain (weight_type_call_type T args []) rfl]
  repeat (any_goals (first | assumption | wp_step))
  refine codeAny_mono made fun r s₁ hr => ?_
  match r, hr with
  | .error _, hr => exact hr
  | .ok (.ret obj), hr =>
    have ⟨typ, go⟩ := begun obj s₁ hr
    have look := ft.init.lookup
    have bnd := ft.init.bind obj
    repeat (any_goals (first | assumption | wp_step))
    refine codeAny_mono go fun r₂ s₂ h2 => ?_
    match r₂, h2 with
    | .error _, h2 => exact h2
    | .ok (.ret _), ⟨e, q⟩ =>
      subst e
      repeat (any_goals (first | assumption | wp_step))
theorem call_set_listI {l : Addr} {items : Array Value} (ns : List Int) {Q : Value → Shared → Prop} (hh : A.handled = none) (hl : s.heap.IsList l items) (hi : IntsAre items.toList ns) (hb : ns.length + 1 < scanBound)
    (h : ∀ (h' : Heap) (tk c : Nat), SetR w h' s.heap.objs.size (fun j => decide (j ∈ ns)) c → (∀ b o, s.heap.get? b = some o → h'.get? b = some o) → Q (.ref s.heap.objs.size) { s with heap := h', toks := tk }) : wpAny (model P w) A (call (.type "set") [.ref l]) Q E s := by
  refine call_typ (Q₁ := fun obj s₁ => obj = .ref s.heap.objs.size ∧ s₁ = { s with heap := s.heap.push (oSet0 w) }) F.called_set (F.typeCall_set_1 _) (code_set_led1 _ ⟨rfl, rfl⟩) fun obj s₁ q => ?_
  obtain ⟨rfl, rfl⟩ := q
  have g0 : (s.heap.push (oSet0 w)).get? s.heap.objs.size = some (oSet0 w) := Heap.get?_push_size _ rfl
  exact ⟨⟨_, g0, rfl⟩, init_setL (s := { s with heap := s.heap.push (oSet0 w) }) (A := A.in1) (by simpa using hh) g0 (hl.push _) hi hb fun h' tk c hS k => ⟨rfl, h h' tk c hS fun b o q => k b o (Nat.ne_of_lt (Heap.lt_size q)) (Heap.get?_push_of_some _ q)⟩⟩
end
/-! the members in order -/
def insI (k : Int) : List Int → List Int
  | [] => [k]
  | x :: r => if k < x then k :: x :: r else if k = x then x :: r else x :: insI k r
def ascI (ns : List Int) : List Int := ns.foldr insI []
theorem mem_insI {k j : Int} : ∀ {l : List Int}, j ∈ insI k l ↔ j = k ∨ j ∈ l
  | [] => by simp [insI]
  | x :: r => by
    unfold insI
    split
    · simp
    · split
      · rename_i h; subst h; simp
      · rw [List.mem_cons, mem_insI (l := r), List.mem_cons]
        constructor
        · rintro (h | h | h) <;> simp [h]
        · rintro (h | h | h) <;> simp [h]
theorem asc_insI {k : Int} : ∀ {l : List Int}, l.Pairwise (· < ·) → (insI k l).Pairwise (· < ·)
  | [], _ => by simp [insI]
  | x :: r, h => by
    obtain ⟨h1, h2⟩ := List.pairwise_cons.mp h
    unfold insI
    split
    · rename_i q
      exact List.pairwise_cons.mpr ⟨fun y hy => by
        rcases List.mem_cons.mp hy with e | e
        · omega
        · have := h1 y e; omega, h⟩
    · split
      · exact h
      · rename_i q1 q2
        exact List.pairwise_cons.mpr ⟨fun y hy => by
          rcases mem_insI.mp hy with e | e
          · omega
          · exact h1 y e, asc_insI h2⟩
theorem mem_ascI {j : Int} : ∀ {ns : List Int}, j ∈ ascI ns ↔ j ∈ ns
  | [] => by simp [ascI]
  | x :: r => by
    show j ∈ insI x (ascI r) ↔ _
    rw [mem_insI, mem_ascI (ns := r), List.mem_cons]
theorem asc_ascI : ∀ (ns : List Int), (ascI ns).Pairwise (· < ·)
  | [] => by simp [ascI]
  | x :: r => asc_insI (asc_ascI r)
theorem asc_uniq : ∀ {a b : List Int}, a.Pairwise (· < ·) → b.Pairwise (· < ·) → (∀ j, j ∈ a ↔ j ∈ b) → a = b
  | [], [], _, _, _ => rfl
  | [], y :: b, _, _, h => by have := (h y).mpr (by simp); simp at this
  | x :: a, [], _, _, h => by have := (h x).mp (by simp); simp at this
  | x :: a, y :: b, ha, hb, h => by
    obtain ⟨a1, a2⟩ := List.pairwise_cons.mp ha
    obtain ⟨b1, b2⟩ := List.pairwise_cons.mp hb
    have exy : x = y := by
      have h1 := (h x).mp (by simp)
      have h2 := (h y).mpr (by simp)
      rcases List.mem_cons.mp h1 with e | e
      · exact e
      · rcases List.mem_cons.mp h2 with e' | e'
        · exact e'.symm
        · have := b1 x e; have := a1 y e'; omega
    subst exy
    refine congrArg _ (asc_uniq a2 b2 fun j => ⟨fun q => ?_, fun q => ?_⟩)
    · rcases List.mem_cons.mp ((h j).mp (by simp [q])) with e | e
      · have := a1 j q; omega
      · exact e
    · rcases List.mem_cons.mp ((h j).mpr (by simp [q])) with e | e
      · have := b1 j q; omega
      · exact e
theorem nodup_asc {a : List Int} (h : a.Pairwise (· < ·)) : a.Nodup := h.imp fun q => by omega
theorem len_of_mem {a b : List Int} (h1 : a.Nodup) (h2 : b.Nodup) (h : ∀ j, j ∈ a ↔ j ∈ b) : a.length = b.length := (((List.perm_ext_iff_of_nodup h1 h2).mpr h)).length_eq
section
variable {X : Cx} {W : WX}
def rSetLI (w : World) (K : Frag) : List V → Hp → VK → Prop := fun vs H Q => ∃ (l : Addr) (ns : List Int), vs = [.ref l] ∧ SqL K H l (ns.map V.int) ∧ ns.length + 1 < scanBound ∧
  ∀ p, H p = none → Q (.ref p) (upd H p (SetO w p (fun j => decide (j ∈ ns)) (ascI ns).length))
theorem cr_setLI (hc : X.calm = true) : CallR X (.type "set") (rSetLI X.w X.K) := by
  intro pins s σ H vs us Q I r h
  obtain ⟨l, ns, rfl, hs, hb, q⟩ := h
  obtain ⟨its, rv, hl, hz⟩ := I.list hs
  rw [Vals.ref1 r]
  refine call_set_listI ns (I.ok.hd hc) hl.isList (ints_of_vals rv) hb fun h' tk c hS k => ?_
  have ec : c = (ascI ns).length := by
    obtain ⟨o, es, ep, t, ho, h1, h2, h3, h4, h5, h6, h7, h8, _⟩ := hS
    have e1 : (es.toList.map keyOf).length = (ascI ns).length := len_of_mem h4 (nodup_asc (asc_ascI ns)) fun j => by
      rw [mem_ascI, ← h5 j]
      simp
    rw [List.length_map, Array.length_toList, h8] at e1
    exact e1
  subst ec
  exact ⟨.ref _, upd H s.heap.objs.size (SetO X.w s.heap.objs.size (fun j => decide (j ∈ ns)) (ascI ns).length), I.laid (t' := tk) k (Nat.le_refl _) (setO_new hS), rfl, q _ (I.hok.fresh (Nat.le_refl _))⟩
def gSetS : List D → Option (List D)
  | [.list xs] => match intsD xs with
    | some ns => if (ascI ns).length < 64 ∧ ns.length + 1 < scanBound then some ((ascI ns).map .int) else none
    | none => none
  | _ => none
theorem gSetS_of {ds xs : List D} (h : gSetS ds = some xs) : ∃ ys ns, ds = [.list ys] ∧ intsD ys = some ns ∧ (ascI ns).length < 64 ∧ ns.length + 1 < scanBound ∧ xs = (ascI ns).map .int := by
  unfold gSetS at h
  split at h
  · split at h
    · split at h
      · rename_i q
        cases h; exact ⟨_, _, rfl, by assumption, q.1, q.2, rfl⟩
      · cases h
    · cases h
  · cases h
theorem dpa_int {K : Frag} {Z : Hp} : ∀ (ns : List Int), DqAll K Z (ns.map V.int) (ns.map .int)
  | [] => .nil
  | n :: ns => .cons (.int n) (dpa_int ns)
theorem sn_sortSet {a : Expr} {q : XA} {p p2 pos pos2 : Pos} (hc : X.calm = true) (hg : Gl X "sorted") (hm : X.mg "sorted" = none) (hg2 : Gl X "set") (hm2 : X.mg "set" = none) (ha : SA X W [a] q)
    (hs : starEach [a] X.env = (false, eval a X.env) :: starEach [] X.env := by rfl) (hpl : (backTo pos2 (starEach [] X.env)).any (·.1) = false := by rfl)
    (he : starEach [.Call (.Name "set" p2) [a] [] pos2] X.env = (false, eval (.Call (.Name "set" p2) [a] [] pos2) X.env) :: starEach [] X.env := by rfl) :
    SN X W (.Call (.Name "sorted" p) [.Call (.Name "set" p2) [a] [] pos2] [] pos) (nCall gSetS q) := by
  refine PE.imp (pe_callB (cr_sortedSet hc) hg hm (by decide +kernel) (pa_cons (pe_callTy (cr_setLI hc) hg2 hm2 (by decide +kernel) ha (by decide) (by decide) hs hpl) pa_nil he) (by decide) (by decide) he rfl) fun σ H Q ⟨B, e, Z, R0, hq⟩ => ?_
  refine rn_bind R0 hq fun v1 Z1 e1 d1 H1 s1 R1 D1 h1 => ?_
  obtain ⟨ds, e2, h2⟩ := pgf_lift h1
  obtain ⟨ys, ns, rfl, hi, h64, hb, rfl⟩ := gSetS_of e2
  obtain ⟨v, rfl, hv⟩ := dpa_1 D1
  obtain ⟨l, ws, rfl, g1, g2⟩ := dp_list hv
  have ew := dpa_ints g2 hi
  subst ew
  refine ⟨l, ns, rfl, .inl (.inl (R1.sub _ _ g1)), hb, fun p hp => ?_⟩
  refine ⟨p, fun j => decide (j ∈ ns), _, rfl, upd_same, h64, fun ms q2 m1 m2 m3 hq2 => ?_⟩
  have em : ms = ascI ns := asc_uniq m1 (asc_ascI ns) fun j => by rw [m2 j, mem_ascI]; simp
  subst em
  exact pgf_new (R1.new0 hp) (dpa_int _) h2 q2 hq2
end
end G
set_option Elab.async false
set_option linter.all false
set_option maxRecDepth 100000
/-! list(text) -/
namespace G
open PySem PySem.Spec PyProof.Rows L2
theorem vals_of_get : ∀ {vs : List V} {us : List Value}, vs.length = us.length → (∀ (i : Nat) (v : V) (u : Value), vs[i]? = some v → us[i]? = some u → RelV v u) → Vals vs us
  | [], [], _, _ => .nil
  | [], _ :: _, h, _ => by simp at h
  | _ :: _, [], h, _ => by simp at h
  | v :: vs, u :: us, h, k => .cons (k 0 v u rfl rfl) (vals_of_get (by simpa using h) fun i a b h1 h2 => k (i + 1) a b (by simpa using h1) (by simpa using h2))
section
variable {X : Cx} {W : WX} {pos : Pos}
def rListS (xs : List V) (H : Hp) (Q : VK) : Prop := ∃ z : Str, xs = [.str z] ∧ z.cps.size ≤ sizeLine ∧ ∀ l, H l = none → Q (.ref l) (upd H l (.lst (z.cps.toList.map fun c => V.str ⟨#[c]⟩)))
theorem cr_listS (hc : X.calm = true) : CallR X (.type "list") rListS := by
  intro pins s σ H xs us Q I r h
  obtain ⟨z, rfl, hz, q⟩ := h
  obtain ⟨u, rfl, t, rfl⟩ := vals1 r
  refine call_list_str (hn := hz) (I.ok.hd hc) z t fun h' tk acc' c' hk hS ha => ?_
  have hv : Vals (z.cps.toList.map fun c => V.str ⟨#[c]⟩) acc'.toList := by
    refine vals_of_get (by rw [List.length_map, Array.length_toList, Array.length_toList, ha.1]) fun i v u h1 h2 => ?_
    obtain ⟨c, u', hc, rfl⟩ := ha.2 i u (by rw [← Array.getElem?_toList]; exact h2)
    rw [List.getElem?_map, Array.getElem?_toList, hc] at h1
    cases h1
    exact ⟨u', rfl⟩
  exact ⟨.ref _, upd H s.heap.objs.size (.lst (z.cps.toList.map fun c => V.str ⟨#[c]⟩)), I.laid (t' := tk) hk (Nat.le_refl _) (show ObjOk X.prog X.w _ h' _ (.lst _) from ⟨by rw [List.length_map, Array.length_toList]; exact hz, acc'.toList, c', hv, hS⟩), rfl, q _ (I.hok.fresh (Nat.le_refl _))⟩
def lDA : List D → Option (List D)
  | [.list xs] => some xs
  | [.tuple xs] => some xs
  | [.str z] => if z.cps.size ≤ sizeLine then some (z.cps.toList.map fun c => .str ⟨#[c]⟩) else none
  | _ => none
theorem dpa_chars {K : Frag} {Z : Hp} : ∀ (l : List Nat), DqAll K Z (l.map fun c => V.str ⟨#[c]⟩) (l.map fun c => PyData.str ⟨#[c]⟩)
  | [] => .nil
  | c :: l => .cons (.str _) (dpa_chars l)
theorem sn_listA {a : Expr} {q : XA} {p : Pos} (hc : X.calm = true) (hg : Gl X "list") (hm : X.mg "list" = none) (ha : SA X W [a] q) (he : starEach [a] X.env = (false, eval a X.env) :: starEach [] X.env := by rfl) (hpl : (backTo pos (starEach [] X.env)).any (·.1) = false := by rfl) : SN X W (.Call (.Name "list" p) [a] [] pos) (nCall lDA q) := by
  refine PE.imp (pe_callTy (callr_or call_list_of (cr_listS hc)) hg hm (by decide +kernel) ha (by decide) (by decide) he hpl) fun σ H Q ⟨B, e, Z, R0, hq⟩ => ?_
  refine rn_bind R0 hq fun v1 Z1 e1 d1 H1 s1 R1 D1 h1 => ?_
  obtain ⟨ds, e2, h2⟩ := pgf_lift h1
  unfold lDA at e2
  split at e2
  · cases e2
    obtain ⟨v, rfl, hv⟩ := dpa_1 D1
    obtain ⟨a, ws, rfl, g1, g2⟩ := dp_list hv
    exact .inl ⟨a, ws, rfl, .inl (.inl (.inl (R1.sub _ _ g1))), pgf_new R1 g2 h2⟩
  · cases e2
    obtain ⟨v, rfl, hv⟩ := dpa_1 D1
    obtain ⟨a, ws, rfl, g1, g2⟩ := dp_tuple hv
    exact .inl ⟨a, ws, rfl, .inr (same_tup R1.sub g1), pgf_new R1 g2 h2⟩
  · split at e2
    · rename_i hz
      cases e2
      obtain ⟨v, rfl, hv⟩ := dpa_1 D1
      cases dp_str hv
      exact .inr ⟨_, rfl, hz, pgf_new R1 (dpa_chars _) h2⟩
    · cases e2
  · cases e2
end
end G
set_option Elab.async false
set_option linter.all false
set_option maxRecDepth 100000
/-! x or y by truth; a tuple's slice that may be the whole -/
namespace G
open PySem PySem.Spec PyProof.Rows L2
section
variable {X : Cx} {W : WX} {pos : Pos}
def eOrT (p q : XE) : XE := fun e => (p e).bind fun d e1 => match dTru d with
  | some true => .ok d e1
  | some false => q e1
  | none => .bad
theorem tru_of {K : Frag} {Z H : Hp} {v : V} {d : D} {b : Bool} (s : Same Z H) (h : Dq K Z v d) (e : dTru d = some b) : TruV K v H b := by
  have emp : ∀ {vs : List V} {ds : List D}, DqAll K Z vs ds → (!ds.isEmpty) = !vs.isEmpty := fun k => by cases k <;> rfl
  cases h with
  | non => cases e; rfl
  | bl _ => cases e; rfl
  | int _ => cases e; rfl
  | str z =>
    have e : (if z.length ≤ sizeLine then some (z.length != 0) else none) = some b := e
    by_cases hz : z.length ≤ sizeLine
    · rw [if_pos hz] at e
      cases e
      refine ⟨hz, ?_⟩
      rw [Bool.eq_iff_iff, bne_iff_ne, bne_iff_ne]
      omega
    · rw [if_neg hz] at e
      cases e
  | lst q a => cases e; exact .inl ⟨_, .inl (.inl (s _ _ q)), emp a⟩
  | tup q a => cases e; exact .inr (.inl ⟨_, same_tup s q, emp a⟩)
theorem se_orT {a b : Expr} {rest : List Expr} {p q : XE} (ha : SE X W a p) (hb : SE X W (.BoolOp .Or (b :: rest) pos) q) : SE X W (.BoolOp .Or (a :: b :: rest) pos) (eOrT p q) := by
  refine PE.imp (pe_orT ha hb) fun σ H Q ⟨B, e, Z, R0, hq⟩ => ?_
  refine rg_bind R0 hq fun v1 Z1 e1 d1 H1 s1 R1 D1 h1 => ?_
  cases ht : dTru d1 with
  | none => rw [ht] at h1; exact h1.elim
  | some b =>
    rw [ht] at h1
    refine ⟨b, tru_of R1.sub D1 ht, ?_⟩
    cases b with
    | true => rw [if_pos rfl]; exact h1 _ Z1 H1 (Same.refl _) R1 D1
    | false => rw [if_neg (by decide)]; exact ⟨B, e1, Z1, R1, h1⟩
/-- a slice; of a tuple the whole is the tuple itself -/
def dSlA : D → Option Int → Option Int → Option D
  | .list xs, lo, hi => some (.list (cutD xs lo hi))
  | .tuple xs, lo, hi => some (.tuple (cutD xs lo hi))
  | .str z, lo, hi => if z.length ≤ sizeLine then some (.str (cutS z lo hi)) else none
  | _, _, _ => none
theorem cut_whole {xs : List D} {lo hi : Option Int} (h : HT.sIx xs.length 0 lo = 0 ∧ HT.sIx xs.length xs.length hi = xs.length) : cutD xs lo hi = xs := by
  unfold cutD
  rw [h.1, h.2, List.drop_zero, Nat.sub_zero, List.take_of_length_le (Nat.le_refl _)]
theorem ok_slA {K : Frag} : OkS K (fun x lo hi H Q => (rSlL K x lo hi H Q ∨ rSlA K x lo hi H Q) ∨ ∃ z, x = .str z ∧ z.length ≤ sizeLine ∧ Q (.str (cutS z lo hi)) H) dSlA := by
  intro Z H x c lo hi d Q s D1 e k
  unfold dSlA at e
  split at e
  · cases e
    obtain ⟨a, ws, rfl, h1, h2⟩ := dp_list D1
    refine .inl (.inl ⟨a, ws, rfl, .inl (.inl (s _ _ h1)), fun p hp => ?_⟩)
    have n := Nw.new (o := .lst (cutV ws lo hi)) s hp
    exact k _ _ _ n (.lst upd_same (dpa_mono n.z (dpa_cut h2)))
  · cases e
    obtain ⟨a, ws, rfl, h1, h2⟩ := dp_tuple D1
    have el := dpa_len h2
    refine .inl (.inr ⟨a, ws, rfl, same_tup s h1, fun hw => ?_, fun hw p hp => ?_⟩)
    · rw [el] at hw
      have q := k (.ref a) Z H (Nw.refl s)
      rw [cut_whole hw] at q
      exact q (.tup h1 h2)
    · have n := Nw.new (o := .tup (cutV ws lo hi)) s hp
      exact k _ _ _ n (.tup (.inl (.inl upd_same)) (dpa_mono n.z (dpa_cut h2)))
  · split at e
    · rename_i hl
      cases e
      cases dp_str D1
      exact .inr ⟨_, rfl, hl, k _ Z H (Nw.refl s) (.str _)⟩
    · cases e
  · cases e
theorem se_sliceA {a : Expr} {lo hi : Option Expr} {p2 : Pos} {p : XE} {l u : XO} (ha : SE X W a p) (hl : SO X W lo l) (hu : SO X W hi u) : SE X W (.Subscript a (.Slice lo hi none p2) pos) (eSl dSlA p l u) :=
  se_sl ok_slA (pe_slice (.or (.or sl_list sl_tupA) sl_str) ha hl hu)
end
end G
set_option Elab.async false
set_option linter.all false
set_option maxRecDepth 100000
/-! sorted(tuple); x or y by truth; a tuple's slice that may be the whole -/
namespace G
open PySem PySem.Spec PyProof.Rows L2 PySem.W
section
variable {prog : Program} {w : World} {A : Around} {E : Value → Shared → Prop} {s : Shared}
theorem collect_tup {l : Addr} {vs : List Value} {Q : List Value → Shared → Prop} (ht : s.heap.IsTuple l vs.toArray) (hz : vs.length ≤ sizeLine)
    (q : Q vs { s with heap := (s.heap.push (seqObj "list" #[] 0)).update s.heap.objs.size (Obj.mapSeq (· ++ vs.toArray)) }) : wpAny (model prog w) A (collect (.ref l)) Q E s := by
  obtain ⟨o, ho, hc, n, hd⟩ := id ht
  have new := Heap.get?_push_size s.heap (o := seqObj "list" #[] 0) rfl
  have old := Heap.get?_push_of_some (seqObj "list" #[] 0) ho
  unfold collect
  refine wpAny_bind (wpAny_runValue (codeAny_builtin entry_proto_collect' ?_))
  refine wpAny_bind (m := newList []) (wpAny_newList (wpAny_pure ⟨Code.quiet_builtin _ (by decide +kernel), codeAny_builtin entry_list_iadd' ?_⟩))
  show wpAny _ _ (Builtin.List.listExtendWith _ _ _) _ _ _
  unfold Builtin.List.listExtendWith
  refine wpAny_bind (wpAny_typeOf (T := "tuple") ⟨o, old, hc⟩ ?_)
  rw [if_pos (by simp)]
  refine wpAny_bind (listItems_at old hd (wpAny_bind (listItems_at new rfl ?_)))
  rw [if_neg (by simp)]
  refine wpAny_bind (listUpdate_at new rfl (wpAny_pure ?_) (Nat.zero_le _) (by simp; omega))
  refine wpAny_bind (m := load s.heap.objs.size) (wpAny_load (get?_update_seq new _) ?_)
  exact wpAny_pure (by simpa using q)
theorem sorted_tup {R : Value → V × D → Prop} {l : Addr} {vs : List Value} {ps : List (V × D)} {Q : Value → Shared → Prop} (ht : s.heap.IsTuple l vs.toArray) (e : EachIs R vs ps) (er : EachIs (fun v p => ∃ as, Reads s.heap v p.2 as) vs ps) (o1 : AllAlike (ps.map (·.2))) (o2 : Sortable (ps.map (·.2))) (oz : ps.length ≤ sizeLine)
    (ou : ∀ p, p ∈ ps → A.units + 2 + p.2.depth < cLine) (h : ∀ out, EachIs R out (ps.mergeSort (PySem.W.dataLe false (·.2))) → Q (.ref (s.heap.objs.size + 1)) { s with heap := sortedAll s.heap vs (List.toArray out) }) : wpAny (model prog w) A (call (.builtin "sorted") [.ref l]) Q E s := by
  have vz : vs.length ≤ sizeLine := by rw [e.length]; exact oz
  have er2 : EachIs (fun v p => ∃ as, Reads (sortingHeap (copyHeap s.heap vs) (s.heap.objs.size + 1) vs) v p.2 as) vs ps := er.mono fun _ _ ⟨as, r⟩ => ⟨as, PyProof.Rows.Reads.keeps (fun _ _ => sorting_copy_old) r⟩
  refine call_function_entry_kw kind_sorted plain_sorted entry_sorted (args_sorted1 _) ?_
  unfold Builtin.«sorted»
  refine wpAny_bind (m := checkCount "sorted" 1 1 _) (wpAny_pure (wpAny_bind (collect_tup ht vz (wpAny_bind (wpAny_newList ?_ vz)))))
  have size : ((s.heap.push (seqObj "list" #[] 0)).update s.heap.objs.size (Obj.mapSeq (· ++ vs.toArray))).objs.size = s.heap.objs.size + 1 := by rw [Heap.size_update, size_push']
  show wpAny _ _ _ _ _ { s with heap := copyHeap s.heap vs }
  rw [size]
  have S := SortsAt.data (prog := prog) (w := w) (A := A.in1.in1) (s := { s with heap := sortingHeap (copyHeap s.heap vs) (s.heap.objs.size + 1) vs }) (each_map (R := fun v d => ∃ as, Reads (sortingHeap (copyHeap s.heap vs) (s.heap.objs.size + 1) vs) v d as) (fun p : V × D => p.2) er2) o1 o2 (bound_map ou)
  refine wpAny_bind (wpAny_holding (wpAny_call_entry_kw slot_list_sort ⟨_, copyHeap_at s.heap vs, rfl⟩ entry_list_sort ?_ (args_list_sort _)))
  exact list_sort_vals (s := { s with heap := copyHeap s.heap vs }) (copyHeap_at s.heap vs) S vz ⟨_, rfl, wpAny_pure ⟨_, rfl, h _ (sortVals_data false e er2 o1)⟩⟩
end
section
variable {X : Cx} {W : WX} {pos : Pos}
def rSortT (K : Frag) : List V → Hp → VK → Prop := fun vs H Q => ∃ (a : Addr) (ps : List (V × D)), vs = [.ref a] ∧ SqT K H a (ps.map (·.1)) ∧ (∀ p ∈ ps, Dp K H p.1 p.2) ∧ sortable (ps.map (·.2)) = true ∧
  ∀ q, H q = none → Q (.ref q) (upd H q (.lst ((ps.mergeSort (PySem.W.dataLe false (·.2))).map (·.1))))
theorem cr_sortT (hu : X.A.units + 64 < cLine) : CallR X (.builtin "sorted") (rSortT X.K) := by
  intro pins s σ H vs us Q I r h
  obtain ⟨a, ps, rfl, hs, hp, ho, q⟩ := h
  obtain ⟨its, rv, ht, hz⟩ := I.tuple hs
  rw [Vals.ref1 r]
  obtain ⟨o1, o2, o3, o4⟩ := sortable_of ho
  have ev := each_vals rv
  refine sorted_tup (R := fun u (p : V × D) => RelV p.1 u) ht ev (each_reads I ev hp) o1 o2 (by rw [List.length_map] at o4; exact o4) (fun p hp => by have := o3 p.2 (List.mem_map.mpr ⟨p, hp, rfl⟩); omega) fun out eo => ?_
  obtain ⟨ep, he'⟩ := PyProof.Rows.sortedAll_at s.heap its out.toArray
  have zz : ((ps.mergeSort (PySem.W.dataLe false (·.2))).map (·.1)).length ≤ sizeLine := by
    rw [List.length_map, List.length_mergeSort]
    rw [List.length_map] at hz
    exact hz
  exact ⟨.ref _, upd H (s.heap.objs.size + 1) (.lst ((ps.mergeSort (PySem.W.dataLe false (·.2))).map (·.1))), I.laid (t' := s.toks) (fun _ _ => PyProof.Rows.sortedAll_old) (Nat.le_succ _) ⟨zz, out, ep, vals_each eo, he'⟩, rfl, q _ (I.hok.fresh (Nat.le_succ _))⟩
/-- sorted(list or tuple) -/
def sortDA : List D → Option (List D)
  | [.list xs] => if sortable xs = true then some (xs.mergeSort leD) else none
  | [.tuple xs] => if sortable xs = true then some (xs.mergeSort leD) else none
  | _ => none
theorem sn_sortedA {a : Expr} {q : XA} {p : Pos} (hu : X.A.units + 64 < cLine) (hg : Gl X "sorted") (hm : X.mg "sorted" = none) (ha : SA X W [a] q) (he : starEach [a] X.env = (false, eval a X.env) :: starEach [] X.env := by rfl) (hpl : (backTo pos (starEach [] X.env)).any (·.1) = false := by rfl) : SN X W (.Call (.Name "sorted" p) [a] [] pos) (nCall sortDA q) := by
  refine PE.imp (pe_callB (callr_or (cr_sortD hu) (cr_sortT hu)) hg hm (by decide +kernel) ha (by decide) (by decide) he hpl) fun σ H Q ⟨B, e, Z, R0, hq⟩ => ?_
  refine rn_bind R0 hq fun v1 Z1 e1 d1 H1 s1 R1 D1 h1 => ?_
  obtain ⟨ds, e2, h2⟩ := pgf_lift h1
  have fin : ∀ {ws : List V} {xs : List D}, DqAll X.K Z1 ws xs → PgF X.K X.mg W B σ Z1 (R.ok (xs.mergeSort leD) e1) Q → (ws.zip xs).map (·.1) = ws ∧ (ws.zip xs).map (·.2) = xs ∧ (∀ p ∈ ws.zip xs, Dp X.K H1 p.1 p.2) ∧
      ∀ q, H1 q = none → Q (.ref q) (upd H1 q (.lst (((ws.zip xs).mergeSort (PySem.W.dataLe false (·.2))).map (·.1)))) := fun {ws xs} g2 h2 => by
    obtain ⟨z1, z2, z3⟩ := dpa_zip g2
    refine ⟨z1, z2, fun p hp => Dq.dp (dp_mono R1.sub (z3 p hp)), ?_⟩
    have e3 : xs.mergeSort leD = ((ws.zip xs).mergeSort (PySem.W.dataLe false (·.2))).map (·.2) := by
      conv => lhs; rw [← z2]
      rw [List.map_mergeSort]
      intro a ha b hb
      rfl
    rw [e3] at h2
    exact pgf_new R1 (dpa_of_pairs _ fun p hp => z3 p (List.mem_mergeSort.mp hp)) h2
  unfold sortDA at e2
  split at e2
  · split at e2
    · rename_i ho
      cases e2
      obtain ⟨v, rfl, hv⟩ := dpa_1 D1
      obtain ⟨a, ws, rfl, g1, g2⟩ := dp_list hv
      obtain ⟨z1, z2, z3, z4⟩ := fin g2 h2
      exact .inl ⟨a, ws.zip _, rfl, by rw [z1]; exact .inl (.inl (R1.sub _ _ g1)), z3, by rw [z2]; exact ho, z4⟩
    · cases e2
  · split at e2
    · rename_i ho
      cases e2
      obtain ⟨v, rfl, hv⟩ := dpa_1 D1
      obtain ⟨a, ws, rfl, g1, g2⟩ := dp_tuple hv
      obtain ⟨z1, z2, z3, z4⟩ := fin g2 h2
      exact .inr ⟨a, ws.zip _, rfl, by rw [z1]; exact same_tup R1.sub g1, z3, by rw [z2]; exact ho, z4⟩
    · cases e2
  · cases e2
end
end G
set_option Elab.async false
set_option linter.all false
set_option maxRecDepth 100000
/-! len(set(xs)) of texts no two of which are alike -/
namespace G
open PySem PySem.Spec PyProof.Rows L2
section
variable {P : Program} {w : World} {A : Around} {E : Value → Shared → Prop} {s : Shared}
abbrev SetS (P : Program) (w : World) (h : Heap) (S : Addr) (xs : List Str) : Prop := h.SetOf (PySem.strKind P w) S (fun k => decide (k ∈ xs)) xs.length
theorem fill_strs {R : Result → Shared → Prop} {I S : Addr} {fp wr : List Addr} {G : Array GenState → Array GenState → Prop} {Pv : Nat → Value → Prop} {St : Nat → Shared → Prop} (xs : List Str) (nd : xs.Nodup) (hb : xs.length + 1 < scanBound)
    (W : WalksS P w A.in1 I fp wr G xs.length Pv St) (out : S ∉ fp) (hv : ∀ i v, Pv i v → ∃ x t, xs[i]? = some x ∧ v = .str x t) :
    ∀ (m i : Nat) (s : Shared), xs.length = i + m → St i s → SetS P w s.heap S (xs.take i) → (∀ s', Moved (S :: wr) G s s' → SetS P w s'.heap S xs → R (.ok (.ret .none)) s') → codeAny (model P w) A (.builtin "set.update.loop" ⟨[.ref S, .ref I], []⟩) R s := by
  have out2 : S ∉ wr := fun q => out (W.sub _ q)
  have keep : ∀ {s1 s2 : Shared} {ys : List Str}, Moved wr G s1 s2 → SetS P w s1.heap S ys → SetS P w s2.heap S ys := fun mv ⟨o, es, ep, t, ho, r⟩ => ⟨o, es, ep, t, mv.heap S _ out2 ho, r⟩
  have more : ∀ b ∈ wr, b ∈ S :: wr := fun b hb => List.mem_cons_of_mem _ hb
  intro m
  induction m with
  | zero =>
    intro i s hi st hS k
    have e : i = xs.length := by omega
    subst e
    rw [List.take_of_length_le (Nat.le_refl _)] at hS
    refine codeAny_builtin F.entry_set_update_loop ?_
    rw [Around.under_plainId F.plain_set_update_loop _]
    exact wpAny_bind (m := pyNext (.ref I)) (W.done s _ _ st fun s' mv => wpAny_pure (k s' (mv.mono more) (keep mv hS)))
  | succ m ih =>
    intro i s hi st hS k
    refine codeAny_builtin F.entry_set_update_loop ?_
    rw [Around.under_plainId F.plain_set_update_loop _]
    refine wpAny_bind (m := pyNext (.ref I)) (W.item i s _ _ (by omega) st fun v s' hP st' mv => ?_)
    obtain ⟨x, t, hx, rfl⟩ := hv i v hP
    have nx : x ∉ xs.take i := fun q => by
      obtain ⟨j, hj, e⟩ := List.getElem_of_mem q
      rw [List.getElem_take] at e
      rw [List.length_take] at hj
      obtain ⟨h1, h2⟩ := List.getElem?_eq_some_iff.mp hx
      exact absurd ((List.getElem_inj nd).mp (e.trans h2.symm)) (by omega)
    refine wpAny_bind (m := holding [Value.str x t] (setAdd S (.str x t))) (wpAny_holding ?_)
    unfold setAdd
    refine wpAny_holding (wpAny_bind ((PySem.strKind P w).pyHash (k := x) (strKind_is _ _ _ _) ?_))
    refine wpAny_setAddHashed_of (knd := PySem.strKind P w) (s := { s' with toks := s'.toks + 1 }) (strKind_is _ _ _ _) rfl (show SetS P w s'.heap S _ from keep mv hS) (by rw [List.length_take]; omega) fun h' sb hS2 => ?_
    have el : (xs.take (i + 1)).length = (xs.take i).length + 1 := by rw [List.length_take, List.length_take]; omega
    have hS3 : SetS P w h' S (xs.take (i + 1)) := by
      refine SetOf_congr hS2 (fun j => ?_) ?_
      · rw [List.take_add_one, hx]
        simp
      · rw [if_neg (by simpa using nx), el]
    refine wpAny_pure ⟨plainId_quiet F.plain_set_update_loop _, ih (i + 1) _ (by omega) (W.frame _ s' _ _ st' (Nat.le_succ _) fun b q o e => ?_) hS3 fun s2 mv2 hS4 => ?_⟩
    · exact (sb.2 b fun z : b = S => out (z ▸ q)).trans e
    · exact k s2 (Moved.trans W.gtrans ((mv.mono more).then_heap (Nat.le_succ _) fun b o q e => (sb.2 b fun z : b = S => q (z ▸ List.mem_cons_self)).trans e) mv2) hS4
theorem strs_get : ∀ {vs : List Value} {ts : List Str}, StrsAre vs ts → ∀ (i : Nat) (v : Value), vs[i]? = some v → ∃ x t, ts[i]? = some x ∧ v = .str x t
  | _, _, .nil, i, v, h => by simp at h
  | _, _, .cons y t r, 0, v, h => by cases h; exact ⟨y, t, rfl, rfl⟩
  | _, _, .cons y t r, i + 1, v, h => by simpa using strs_get r i v (by simpa using h)
/-- set.__init__ of a tuple of texts -/
theorem init_setT {S l : Addr} {items : Array Value} {xs : List Str} {R : Result → Shared → Prop} (hh : A.handled = none) (hS : s.heap.get? S = some (oSet0 w)) (hl : s.heap.IsTuple l items) (hi : StrsAre items.toList xs) (nd : xs.Nodup) (hb : xs.length + 1 < scanBound)
    (hR : ∀ (h' : Heap) (tk : Nat), SetS P w h' S xs → (∀ b o, b ≠ S → s.heap.get? b = some o → h'.get? b = some o) → R (.ok (.ret .none)) { s with heap := h', toks := tk }) :
    codeAny (model P w) A (.call (.builtin "set.__init__") ⟨[.ref S, .ref l], []⟩) R s := by
  have typ : s.TypeIs (.ref S) "set" := ⟨_, hS, rfl⟩
  refine codeAny_call_builtin F.called_set.init.plain F.entry_set_init (check_set_init_1 typ ?_)
  have size : items.size = xs.length := by rw [← Array.length_toList]; exact StrsAre.length hi
  obtain ⟨⟨c0, d0, _, sl0⟩, ho, hc, cap, hd⟩ := id hl
  simp only at hc hd
  subst hc hd
  have neS : l ≠ S := fun q => by
    rw [q, hS] at ho
    have k := congrArg (fun o => o.map fun o : Obj => o.cls == .type "set") ho
    exact absurd k (by simp)
  have notD : (Value.type "tuple" == Value.type "dict") = false := rfl
  have sub1 := PySem.F.sub_tuple_set
  have sub2 := PySem.F.sub_tuple_frozenset
  obtain ⟨hp, g, d, tk, os⟩ := s
  unfold Builtin.«set.__init__» noKeywords Builtin.Frozenset.updateFrom
  generalize hf : pyIter = f
  wp_walk
  subst hf
  refine wpAny_pyIter_tuple hl (wpAny_bind (wpAny_runValue ?_))
  have lS : S < hp.objs.size := Heap.lt_size hS
  have ll : l < hp.objs.size := Heap.lt_size ho
  have W := (Walks.tuple (prog := P) (w := w) (A := A.in1.in1) (by simpa using hh) hp.objs.size l (Nat.ne_of_lt ll) items).toS
  rw [size] at W
  have emp : SetS P w (hp.push { cls := .type "tuple_iterator", data := .fields #[.ref l, .int 0 0] }) S [] := by
    have := (setObjOf_fresh (knd := PySem.strKind P w) (!w.params.followText "set-order")).setOf (a := S) (h := hp.push { cls := .type "tuple_iterator", data := .fields #[.ref l, .int 0 0] }) (Heap.get?_push_of_some _ hS) (by unfold scanBound; omega)
    exact SetOf_congr this (fun _ => by simp) rfl
  refine fill_strs xs nd hb W (fun q => ?_) (fun i v hv => ?_) xs.length 0 _ (by omega) ?st ?em fun s' mv hS' => ?_
  case st => exact ⟨⟨_, Heap.get?_push_size _ rfl, rfl, rfl⟩, ⟨_, Heap.get?_push_of_some _ ho, rfl, _, rfl⟩⟩
  case em => rw [List.take_zero]; exact emp
  · rcases List.mem_cons.mp q with q | q
    · exact Nat.lt_irrefl _ (q ▸ lS)
    · exact neS (List.mem_singleton.mp q).symm
  · exact strs_get hi i v (by rw [Array.getElem?_toList]; exact hv)
  · rw [Moved.eq_with mv]
    refine wpAny_pure (wpAny_pure (hR s'.heap s'.toks hS' fun b o nb q => mv.heap b o (fun m => ?_) (Heap.get?_push_of_some _ q)))
    rcases List.mem_cons.mp m with m | m
    · exact nb m
    · exact Nat.lt_irrefl _ ((List.mem_singleton.mp m) ▸ Heap.lt_size q)
theorem call_setT {l : Addr} {items : Array Value} (xs : List Str) {Q : Value → Shared → Prop} (hh : A.handled = none) (hl : s.heap.IsTuple l items) (hi : StrsAre items.toList xs) (nd : xs.Nodup) (hb : xs.length + 1 < scanBound)
    (h : ∀ (h' : Heap) (tk : Nat), SetS P w h' s.heap.objs.size xs → (∀ b o, s.heap.get? b = some o → h'.get? b = some o) → Q (.ref s.heap.objs.size) { s with heap := h', toks := tk }) : wpAny (model P w) A (call (.type "set") [.ref l]) Q E s := by
  refine call_typ (Q₁ := fun obj s₁ => obj = .ref s.heap.objs.size ∧ s₁ = { s with heap := s.heap.push (oSet0 w) }) F.called_set (F.typeCall_set_1 _) (code_set_led1 _ ⟨rfl, rfl⟩) fun obj s₁ q => ?_
  obtain ⟨rfl, rfl⟩ := q
  have g0 : (s.heap.push (oSet0 w)).get? s.heap.objs.size = some (oSet0 w) := Heap.get?_push_size _ rfl
  exact ⟨⟨_, g0, rfl⟩, init_setT (s := { s with heap := s.heap.push (oSet0 w) }) (A := A.in1) (by simpa using hh) g0 ⟨_, Heap.get?_push_of_some _ hl.choose_spec.1, hl.choose_spec.2⟩ hi nd hb fun h' tk hS k => ⟨rfl, h h' tk hS fun b o q => k b o (Nat.ne_of_lt (Heap.lt_size q)) (Heap.get?_push_of_some _ q)⟩⟩
end
section
variable {X : Cx} {W : WX} {pos : Pos}
/-- len(set(a tuple of texts)) -/
def dLenSet : List D → Option D
  | [.tuple xs] => match strsD xs with
    | some ns => if ns.Nodup ∧ ns.length ≤ 4000 then some (.int (ns.length : Nat)) else none
    | none => none
  | _ => none
def rLenSet (K : Frag) (vs : List V) (H : Hp) (Q : VK) : Prop := ∃ (l : Addr) (ns : List Str), vs = [.ref l] ∧ SqT K H l (ns.map V.str) ∧ ns.Nodup ∧ ns.length ≤ 4000 ∧ Q (.int (ns.length : Nat)) H
theorem pe_lenSetT {a : Expr} {ta : TA} {p p2 pos pos2 : Pos} (hc : X.calm = true) (hg : Gl X "len") (hm : X.mg "len" = none) (hg2 : Gl X "set") (hm2 : X.mg "set" = none) (ha : PA X [a] ta)
    (hs : starEach [a] X.env = (false, eval a X.env) :: starEach [] X.env := by rfl) (hpl : (backTo pos2 (starEach [] X.env)).any (·.1) = false := by rfl)
    (he : starEach [.Call (.Name "set" p2) [a] [] pos2] X.env = (false, eval (.Call (.Name "set" p2) [a] [] pos2) X.env) :: starEach [] X.env := by rfl) :
    PE X (.Call (.Name "len" p) [.Call (.Name "set" p2) [a] [] pos2] [] pos) (fun σ H Q => ta σ H fun vs H1 => rLenSet X.K vs H1 Q) := by
  refine ⟨fun pins s σ H Q I h => ?_⟩
  refine Call_ (ld_blt I hg hm PySem.boot_len ?_)
  refine PyProof.Rows.callWith_builtin1 ?_ he rfl
  rw [he]
  refine Calls.spliced_cons ?_
  refine Call_ (ld_blt I hg2 hm2 (u := .type "set") (by decide +kernel) (PyProof.Rows.callWith_type1 (thn (ha.run pos2 pins s σ H _ I h) fun us s1 ⟨vs, H1, I1, r1, q1⟩ => ?_) hs hpl))
  obtain ⟨l, ns, rfl, hq, nd, hb, q⟩ := q1
  rw [Vals.ref1 r1]
  obtain ⟨its, rv, ht, hz⟩ := I1.tuple hq
  refine call_setT ns (I.ok.hd hc) ht (by simpa using strsAre_of rv) nd (by show _ < 4096; omega) fun h' tk hS k => Calls.spliced_nil ?_
  obtain ⟨o, es, ep, t, ho, hex, hd, _, _, _, hf, hn⟩ := hS
  have I2 : Inv X pins σ H1 { s1 with heap := h', toks := tk } := I1.kept k
  exact call_len_set ho hex hd hf (by rw [hn]; omega) ⟨.int ns.length, H1, I2.tok _, ⟨_, by rw [hn]⟩, q⟩
theorem se_lenSet {a : Expr} {q : XA} {p p2 pos pos2 : Pos} (hc : X.calm = true) (hg : Gl X "len") (hm : X.mg "len" = none) (hg2 : Gl X "set") (hm2 : X.mg "set" = none) (ha : SA X W [a] q)
    (hs : starEach [a] X.env = (false, eval a X.env) :: starEach [] X.env := by rfl) (hpl : (backTo pos2 (starEach [] X.env)).any (·.1) = false := by rfl)
    (he : starEach [.Call (.Name "set" p2) [a] [] pos2] X.env = (false, eval (.Call (.Name "set" p2) [a] [] pos2) X.env) :: starEach [] X.env := by rfl) :
    SE X W (.Call (.Name "len" p) [.Call (.Name "set" p2) [a] [] pos2] [] pos) (eCall dLenSet q) := by
  refine PE.imp (pe_lenSetT hc hg hm hg2 hm2 ha hs hpl he) fun σ H Q ⟨B, e, Z, R0, hq⟩ => ?_
  refine rg_bind R0 hq fun v1 Z1 e1 d1 H1 s1 R1 D1 h1 => ?_
  obtain ⟨d, ed, k⟩ := pg_lift R1 h1
  unfold dLenSet at ed
  split at ed
  · split at ed
    · rename_i hs
      split at ed
      · rename_i hb
        cases ed
        obtain ⟨v, rfl, hv⟩ := dpa_1 D1
        obtain ⟨a, ws, rfl, g1, g2⟩ := dp_tuple hv
        have ew := dpa_strs g2 hs
        subst ew
        exact ⟨a, _, rfl, same_tup R1.sub g1, hb.1, hb.2, k _ Z1 H1 (Nw.refl R1.sub) (.int _)⟩
      · cases ed
    · cases ed
  · cases ed
end
end G
set_option Elab.async false
set_option linter.all false
set_option maxRecDepth 100000
/-! text.find, is of truths, text[::-1], extend by a tuple, two places exchanged, a def that replaces a sign -/
namespace G
open PySem PySem.Spec PyProof.Rows L2
section
variable {X : Cx} {W : WX} {pos : Pos}
/-! ### text.find(text) -/
def dFind : D → List D → Option D
  | .str a, [.str b] => some (.int (Txt.find a b))
  | _, _ => none
theorem ok_find {K : Frag} : OkM K (fun x xs H Q => ∃ a b, x = .str a ∧ xs = [.str b] ∧ Q (.int (Txt.find a b)) H) dFind := by
  intro Z H x xs c ds d Q s D1 D2 e k
  unfold dFind at e
  split at e
  · cases e
    cases dp_str D1
    obtain ⟨v, rfl, hv⟩ := dpa_1 D2
    cases dp_str hv
    exact ⟨_, _, rfl, rfl, k _ Z H (Nw.refl s) (.int _)⟩
  · cases e
theorem se_find {o a : Expr} {ap : Pos} {p : XE} {q : XA} (ho : SE X W o p) (ha : SA X W [a] q) (hbase : attributeBase o "find" X.env (eval o X.env) = eval o X.env := by rfl)
    (hfew : ((backTo pos (starEach [a] X.env)).all (fun x => !x.1) && (backToKw pos (keywordEach [] X.env)).all (fun x => x.1.isSome)
      && decide ([a].length + ([] : List Keyword).length + (if ([] : List Keyword).isEmpty then 0 else 1) < 30)) = true := by rfl)
    (hline : (ap.endLine == pos.line) = true := by rfl) (hs : starEach [a] X.env = (false, eval a X.env) :: starEach [] X.env := by rfl) (hplain : (backTo pos (starEach [] X.env)).any (·.1) = false := by rfl) :
    SE X W (.Call (.Attribute o "find" ap) [a] [] pos) (eMeth isStr dFind p q) :=
  se_tBM tyD_str ok_find (pe_bm PySem.F.plainAttrs_str PySem.F.slot_str_find PySem.F.type_str_find mt_find ho ha hbase hfew hline hs hplain)
/-! ### is, is not of truths -/
def dIsB : D → D → Option D
  | .bool a, .bool b => some (.bool (decide (a = b)))
  | _, _ => none
def dNotB : D → D → Option D
  | .bool a, .bool b => some (.bool (!decide (a = b)))
  | _, _ => none
theorem ok_isB {K : Frag} : Ok2 K rIsB dIsB := by
  intro Z H x y d1 d2 d Q s D1 D2 e k
  unfold dIsB at e
  split at e
  · cases e
    cases dp_bool D1
    cases dp_bool D2
    exact ⟨_, _, rfl, rfl, k _ Z H (Nw.refl s) (.bl _)⟩
  · cases e
theorem ok_notB {K : Frag} : Ok2 K rNotB dNotB := by
  intro Z H x y d1 d2 d Q s D1 D2 e k
  unfold dNotB at e
  split at e
  · cases e
    cases dp_bool D1
    cases dp_bool D2
    exact ⟨_, _, rfl, rfl, k _ Z H (Nw.refl s) (.bl _)⟩
  · cases e
theorem se_isB {a b : Expr} {p q : XE} (ha : SE X W a p) (hb : SE X W b q) : SE X W (.Compare a [.Is] [b] pos) (eOp dIsB p q) := se_cmp op_isBl ok_isB ha hb (nobehind _ (by decide) (by decide))
theorem st_isB {a b : Expr} {p q : XE} (ha : SE X W a p) (hb : SE X W b q) : ST X W (.Compare a [.Is] [b] pos) (tOf (eOp dIsB p q)) := st_cmp op_isBl ok_isB ha hb (nobehind _ (by decide) (by decide))
theorem se_notB {a b : Expr} {p q : XE} (ha : SE X W a p) (hb : SE X W b q) : SE X W (.Compare a [.IsNot] [b] pos) (eOp dNotB p q) := se_cmp op_notBl ok_notB ha hb (nobehind _ (by decide) (by decide))
theorem st_notB {a b : Expr} {p q : XE} (ha : SE X W a p) (hb : SE X W b q) : ST X W (.Compare a [.IsNot] [b] pos) (tOf (eOp dNotB p q)) := st_cmp op_notBl ok_notB ha hb (nobehind _ (by decide) (by decide))
/-! ### text[::-1] -/
def backS (x : Str) (k : Tok) : Str := ⟨((slicePicked x none none (some (-1, k))).filterMap (x.cps[·]?)).toArray⟩
theorem back_ix (n : Nat) : Builtin.Str.strSliceIndices none none (-1) n = (List.range n).map fun k => n - 1 - k := by
  unfold Builtin.Str.strSliceIndices
  simp only [show ¬ ((-1 : Int) > 0) by decide, if_false]
  unfold sliceRange
  simp only [show ¬ ((-1 : Int) > 0) by decide, if_false]
  have e : (if ((n : Int) - 1) > (-1) then ((n : Int) - 1 - (-1) - (-1) - 1) / (- (-1)) else 0) = (n : Int) := by
    have h1 : (- (-1 : Int)) = 1 := by decide
    rw [h1, Int.ediv_one]
    split <;> omega
  rw [e]
  show List.map _ (List.range n) = _
  refine List.map_congr_left fun k hk => ?_
  have := List.mem_range.mp hk
  omega
theorem backS_eq (x : Str) (k : Tok) : backS x k = ⟨((x.cps.toList).reverse).toArray⟩ := by
  unfold backS slicePicked
  show (⟨((Builtin.Str.strSliceIndices none none (-1) x.length).filterMap (x.cps[·]?)).toArray⟩ : Str) = _
  rw [back_ix]
  congr 2
  have hl : x.length = x.cps.toList.length := by simp [Str.length]
  rw [hl]
  refine List.ext_getElem? fun i => ?_
  rw [List.filterMap_map]
  have key : ∀ l : List Nat, (List.range l.length).filterMap ((fun i : Nat => l[i]?) ∘ fun k => l.length - 1 - k) = l.reverse := fun l => by
    have e1 : (List.range l.length).map ((fun i : Nat => l[i]?) ∘ fun k => l.length - 1 - k) = l.reverse.map some := by
      refine List.ext_getElem? fun j => ?_
      rw [List.getElem?_map, List.getElem?_map]
      by_cases hj : j < l.length
      · rw [List.getElem?_range hj, List.getElem?_reverse hj]
        simp [List.getElem?_eq_getElem (show l.length - 1 - j < l.length by omega)]
      · rw [List.getElem?_eq_none (by simp; omega), List.getElem?_eq_none (by simp; omega)]
        rfl
    have e2 : ∀ (f : Nat → Option Nat) (L : List Nat), L.filterMap f = (L.map f).filterMap id := fun f L => by rw [List.filterMap_map]; rfl
    rw [e2, e1, List.filterMap_map]
    simp
  have := key x.cps.toList
  simpa using congrArg (fun l : List Nat => l[i]?) this
def revS (x : Str) : Str := ⟨(x.cps.toList.reverse).toArray⟩
def tRevS (te : TE) : TE := fun σ H Q => te σ H fun x H1 => ∃ z, x = .str z ∧ z.length ≤ sizeLine ∧ Q (.str (revS z)) H1
theorem revS_len (z : Str) : (revS z).length = z.length := by simp [revS, Str.length]
theorem pe_revS {e : Expr} {te : TE} {k : Nat} {p1 p2 p3 : Pos} (he : PE X e te) : PE X (.Subscript e (.Slice none none (some (.UnaryOp .USub (.Constant (.int 1) k p1) p2)) p3) pos) (tRevS te) := by
  refine ⟨fun pins s σ H Q I h => Subscript_ (thn (he.run pins s σ H _ I h) fun v s1 w1 => ?_)⟩
  obtain ⟨x, H1, I1, r1, z, ex, hz, q⟩ := w1
  subst ex
  obtain ⟨tk, rfl⟩ := r1
  have step : PO X (some (.UnaryOp .USub (.Constant (.int 1) k p1) p2)) (tPart (tUn (rU fun i => .int (-i)) (tC (.int 1)))) := po_some (pe_un un_neg pe_int)
  refine wpAny_Slice (thn (po_none.run pins s1 σ H1 (fun o Ha => o = none ∧ Ha = H1) I1 ⟨rfl, rfl⟩) ?_)
  rintro vl s2 ⟨l, Ha, I2, pl, rfl, rfl⟩
  refine thn (po_none.run pins s2 σ Ha (fun o Hb => o = none ∧ Hb = Ha) I2 ⟨rfl, rfl⟩) ?_
  rintro vu s3 ⟨u, Hb, I3, pu, rfl, rfl⟩
  refine thn (step.run pins s3 σ Hb (fun o Hc => o = some (-1) ∧ Hc = Hb) I3 ⟨1, rfl, -1, rfl, rfl, rfl⟩) ?_
  rintro vs s4 ⟨o, Hc, I4, ps, rfl, rfl⟩
  obtain ⟨l', rfl, z1⟩ := IsPart.raw pl
  obtain ⟨u', rfl, z2⟩ := IsPart.raw pu
  obtain ⟨m', rfl, z3⟩ := IsPart.raw ps
  have e1 : l' = none := by cases l' <;> simp_all
  have e2 : u' = none := by cases u' <;> simp_all
  obtain ⟨kk, e3⟩ : ∃ kk, m' = some (-1, kk) := by
    cases m' with
    | none => simp at z3
    | some y =>
      obtain ⟨y1, y2⟩ := y
      simp at z3
      exact ⟨y2, by rw [← z3]⟩
  subst e1 e2 e3
  refine tail_any (ops := [.ref s4.heap.objs.size, .str z tk]) (typeIs_str _ _ _) PySem.F.slot_str_getitem.lookup ?_ (by with_unfolding_all rfl)
  refine wpAny_getItem_str_slice (l := none) (u := none) (st := some (-1, kk)) ⟨_, Heap.get?_push_size _ rfl, rfl, rfl⟩ rfl ?_
  have key : sliceMade z tk none none (some (-1, kk)) = .str (backS z kk) := by
    unfold sliceMade
    rw [if_neg (by simp)]
    rfl
  rw [key, backS_eq]
  have I5 := I4.kept (h' := s4.heap.push { cls := .type "slice", data := .fields #[partValue none, partValue none, partValue (some (-1, kk))] }) (t' := s4.toks) fun b ob q => Heap.get?_push_of_some _ q
  exact ⟨by have := revS_len z; unfold revS at this; omega, .str _, Hc, I5.tok _, ⟨_, rfl⟩, q⟩
def eRevS (p : XE) : XE := fun e => (p e).bind fun d e1 => match d with
  | .str z => if z.length ≤ sizeLine then .ok (.str (revS z)) e1 else .bad
  | _ => .bad
theorem se_revS {a : Expr} {k : Nat} {p1 p2 p3 : Pos} {p : XE} (ha : SE X W a p) : SE X W (.Subscript a (.Slice none none (some (.UnaryOp .USub (.Constant (.int 1) k p1) p2)) p3) pos) (eRevS p) := by
  refine PE.imp (pe_revS ha) fun σ H Q ⟨B, e, Z, R0, hq⟩ => ?_
  refine rg_bind R0 hq fun v1 Z1 e1 d1 H1 s1 R1 D1 h1 => ?_
  cases D1 with
  | str z =>
    dsimp only at h1
    split at h1
    · rename_i hz
      exact ⟨z, rfl, hz, h1 _ Z1 H1 (Same.refl _) R1 (.str _)⟩
    · exact h1.elim
  | non => exact h1.elim
  | bl _ => exact h1.elim
  | int _ => exact h1.elim
  | lst _ _ => exact h1.elim
  | tup _ _ => exact h1.elim
/-! ### a list extended by a tuple -/
def rExtT (K : Frag) : V → List V → Hp → VK → Prop := fun x vs H Q => ∃ l b xs zs, x = .ref l ∧ vs = [.ref b] ∧ H l = some (.lst xs) ∧ SqT K H b zs ∧ xs.length + zs.length ≤ sizeLine ∧ Q .non (upd H l (.lst (xs ++ zs)))
theorem ext_meets (l : Addr) (us : Array Value) (n : Nat) (b : Addr) (ws : Array Value) (m : Nat) (od : Option Addr) (osl : Array (Option Value))
    (fit : ¬(!us.isEmpty && Builtin.List.listTooLong (us.size + ws.size)) = true) (h1 : us.size ≤ sizeLine) (h2 : us.size + ws.size ≤ sizeLine + 1) :
    Meets (Builtin.«list.extend» ⟨[.ref l, .ref b], []⟩) (fun _ R s => s.heap.get? l = some { cls := .type "list", dict := none, data := .seq us n, slots := #[] } ∧ s.heap.get? b = some ⟨.type "tuple", od, .seq ws m, osl⟩ ∧ R (.ok (.ret Value.none)) { s with heap := s.heap.update l (Obj.mapSeq fun x => x ++ ws), toks := s.toks }) :=
  .of_wp fun prog w A R s hh => by
    obtain ⟨hp, g, d, tk, os⟩ := s
    obtain ⟨hl, hb, h⟩ := hh
    have g1 := AutoSeq1.idx_int
    have g2 := AutoSeq1.sub_tuple_tuple
    have g3 := AutoSeq1.sub_list_list
    have g4 := AutoSeq1.sub_tuple_list
    have g5 := AutoSeq1.sub_list_tuple
    have g6 : (us ++ ws).size ≤ sizeLine + 1 := by rw [Array.size_append]; exact h2
    wp_walk using (wpAny_updateSeq hl rfl (hz := h1) (_hz' := g6)), AutoSeq1.wpAny_loadPart' hl, AutoSeq1.wpAny_loadPart' hb
    exact ⟨_, rfl, h⟩
theorem mt_extT : MtM X "list.extend" (rExtT X.K) := by
  intro pins s σ H x vs v us Q I rx rv ⟨l, b, xs, zs, e1, e2, hH, hB, hz, q⟩
  subst e1 e2
  cases rx
  obtain ⟨u, rfl, ru⟩ := rv.one
  cases ru
  obtain ⟨z, its, n, r, hl, e⟩ := I.lstM hH
  obtain ⟨jts, rj, ht, hz2⟩ := I.tuple hB
  obtain ⟨⟨oc, od, odt, osl⟩, g1, g2, m, g3⟩ := ht
  cases (show oc = _ from g2)
  cases (show odt = _ from g3)
  have l1 := r.length
  have l2 := rj.length
  have tot : its.toArray.size + jts.toArray.size ≤ sizeLine := by simp only [List.size_toArray]; omega
  have fit : ¬ (!its.toArray.isEmpty && Builtin.List.listTooLong (its.toArray.size + jts.toArray.size)) = true := by rw [notLongL tot, Bool.and_false]; exact Bool.false_ne_true
  have meets := ext_meets l its.toArray n b jts.toArray m od osl fit (by omega) (by omega)
  refine call_meets F.slot_list_extend ⟨_, e, rfl⟩ F.entry_list_extend (F.args_list_extend_2 _ _) meets ⟨e, g1, ?_⟩
  exact ⟨.non, _, I.lset (its' := its ++ jts) hH e (by simp) (r.append rj) (by rw [List.length_append]; omega), rfl, q⟩
def mExtendT : List D → List D → Option (D × List D)
  | xs, [.tuple ys] => if xs.length + ys.length ≤ sizeLine then some (.none, xs ++ ys) else none
  | _, _ => none
theorem ok_extT {K : Frag} : OkMut K (rExtT K) mExtendT := by
  intro Z H l xs vs ds as d ys Q s h1 h2 h3 h4 e k
  unfold mExtendT at e
  split at e
  · split at e
    · cases e
      obtain ⟨v, rfl, hv⟩ := dpa_1 h4
      obtain ⟨b, us, rfl, g1, g2⟩ := dp_tuple hv
      exact ⟨l, b, xs, us, rfl, rfl, h1, same_tup s g1, by rw [dpa_len h3, dpa_len g2]; assumption, k _ _ (dpa_app h3 g2) .non⟩
    · cases e
  · cases e
theorem se_extT {i : Nat} {x : Str} {px ap : Pos} {a : Expr} {q : XA} (hx : PE X (.Name x px) (tVar i)) (ha : SA X W [a] q)
    (hbase : attributeBase (.Name x px) "extend" X.env (eval (.Name x px) X.env) = eval (.Name x px) X.env := by rfl)
    (hfew : ((backTo pos (starEach [a] X.env)).all (fun x => !x.1) && (backToKw pos (keywordEach [] X.env)).all (fun x => x.1.isSome)
      && decide ([a].length + ([] : List Keyword).length + (if ([] : List Keyword).isEmpty then 0 else 1) < 30)) = true := by rfl)
    (hline : (ap.endLine == pos.line) = true := by rfl) (hs : starEach [a] X.env = (false, eval a X.env) :: starEach [] X.env := by rfl) (hplain : (backTo pos (starEach [] X.env)).any (·.1) = false := by rfl) :
    SE X W (.Call (.Attribute (.Name x px) "extend" ap) [a] [] pos) (eMut i mExtendT q) :=
  PE.imp (pe_bm PySem.F.plainAttrs_list PySem.F.slot_list_extend PySem.F.type_list_extend mt_extT hx ha hbase hfew hline hs hplain) fun _ _ _ => mut_imp ok_extT
/-! ### xs[a], xs[b] = two things -/
def setAt (i : Nat) (q : XE) (d : D) : XS := fun e => match e[i]? with
  | some (.own _ (.lst _)) => (q e).bind fun k e2 => match e2[i]?, k with
    | some (.own t (.lst xs)), .int k => match ixN xs.length k with
      | some j => .ok .nx (e2.set i (.own t (.lst (xs.set j d))))
      | none => .bad
    | _, _ => .bad
  | _ => .bad
def sSwapIx (i : Nat) (q1 q2 p : XE) : XS := fun e => (p e).bind fun d e1 => match d with
  | .tuple [d1, d2] => (setAt i q1 d1 e1).bind fun _ e2 => setAt i q2 d2 e2
  | _ => .bad
theorem g_set {i : Nat} {q : XE} {v : V} {d : D} {Dn : Ends} {B : Bs} {σ : L2.St} {Z H : Hp} {e : En} {k : Fl → En → R Fl} {Q : L2.St → Hp → Prop} (R1 : Rl X.K B e σ Z H) (D1 : Dq X.K Z v d)
    (h : PgS X.K X.mg W B Z ((setAt i q d e).bind k) Dn) (f : ∀ Z' e' H', Same Z Z' → Rl X.K B e' σ Z' H' → PgS X.K X.mg W B Z' (k .nx e') Dn → Q σ H') : gSub (tVar i) (RE X.K X.mg W q) rSetL v σ H Q := by
  unfold setAt at h
  split at h
  · rename_i t ds he
    obtain ⟨a, u, h1, _⟩ := R1.own he
    refine ⟨_, h1, ?_⟩
    have h' : PgS X.K X.mg W B Z ((q e).bind fun c e2 => R.bind (match e2[i]?, c with
      | some (.own t (.lst xs)), .int k => match ixN xs.length k with
        | some j => .ok .nx (e2.set i (.own t (.lst (xs.set j d))))
        | none => .bad
      | _, _ => .bad) k) Dn := by
      cases hq : q e with
      | ok c e2 => rw [hq] at h; exact h
      | ex x e2 => rw [hq] at h; exact h
      | bad => rw [hq] at h; exact h
    refine rs_bind R1 h' fun v2 Z2 e2 d2 H2 s2 R2 D2 g2 => ?_
    split at g2
    · rename_i t2 xs kk he2
      obtain ⟨a2, u2, z2, z3, z4, ⟨vs, rfl, z5⟩, _⟩ := R2.own he2
      rw [h1] at z2
      cases z2
      cases dp_int D2
      cases hj : ixN xs.length kk with
      | none => rw [hj] at g2; exact g2.elim
      | some j =>
        rw [hj] at g2
        exact ⟨a, vs, kk, j, rfl, rfl, z3, by rw [dpa_len z5]; exact hj, f Z2 _ _ s2 (R2.write (o' := .lst (xs.set j d)) he2 h1 ⟨_, rfl, dpa_set (dp_mono s2 D1) j z5⟩) g2⟩
    · exact g2.elim
  · exact h.elim
theorem ss_swapIx {i n : Nat} {x : Str} {px p1 p2 pt : Pos} {b1 b2 v : Expr} {q1 q2 p : XE} (hc : X.calm = true) (ha : PE X (.Name x px) (tVar i)) (hb1 : SE X W b1 q1) (hb2 : SE X W b2 q2) {px2 : Pos} (ha2 : PE X (.Name x px2) (tVar i)) (hv : SE X W v p)
    (hs : swapsWithSole [.Tuple [.Subscript (.Name x px) b1 p1, .Subscript (.Name x px2) b2 p2] n pt] v pos.line X.env = pure false := by rfl)
    (hw : swappedStores [.Tuple [.Subscript (.Name x px) b1 p1, .Subscript (.Name x px2) b2 p2] n pt] v X.env = pure none := by rfl)
    (h1 : (assignEach [.Tuple [.Subscript (.Name x px) b1 p1, .Subscript (.Name x px2) b2 p2] n pt] X.env).map (·.2) = [assign (.Tuple [.Subscript (.Name x px) b1 p1, .Subscript (.Name x px2) b2 p2] n pt) X.env] := by rfl)
    (h2 : ∀ w, assign (.Subscript (.Name x px) b1 p1) X.env w = (do
      let ov ← holding [w] (eval (.Name x px) X.env)
      let iv ← holding [w, ov] (eval b1 X.env)
      standAt p1
      holding [w, ov, iv] (setItem ov iv w)
      release [w, ov, iv] []) := by intro _; rfl)
    (h3 : ∀ w, assign (.Subscript (.Name x px2) b2 p2) X.env w = (do
      let ov ← holding [w] (eval (.Name x px2) X.env)
      let iv ← holding [w, ov] (eval b2 X.env)
      standAt p2
      holding [w, ov, iv] (setItem ov iv w)
      release [w, ov, iv] []) := by intro _; rfl)
    (k1 : (assignEach [.Subscript (.Name x px) b1 p1, .Subscript (.Name x px2) b2 p2] X.env).map (·.2) = assign (.Subscript (.Name x px) b1 p1) X.env :: (assignEach [.Subscript (.Name x px2) b2 p2] X.env).map (·.2) := by rfl)
    (k2 : (assignEach [.Subscript (.Name x px2) b2 p2] X.env).map (·.2) = assign (.Subscript (.Name x px2) b2 p2) X.env :: (assignEach [] X.env).map (·.2) := by rfl)
    (k3 : (assignEach [.Subscript (.Name x px) b1 p1, .Subscript (.Name x px2) b2 p2] X.env).length = 2 := by rfl)
    (k4 : (assignEach [.Subscript (.Name x px) b1 p1, .Subscript (.Name x px2) b2 p2] X.env).findIdx? (·.1) = none := by rfl) :
    SS X W (.Assign [.Tuple [.Subscript (.Name x px) b1 p1, .Subscript (.Name x px2) b2 p2] n pt] v pos) (sSwapIx i q1 q2 p) := by
  refine PS.imp (ps_asg hv (pg_tup hc (pgs_cons (pg_sub ha hb1 set_list h2) (pgs_cons (pg_sub ha2 hb2 set_list h3) pgs_nil k2) k1) k3 k4) hs hw h1) fun Dn σ H ⟨B, e, Z, R0, hq⟩ => ?_
  refine rs_bind R0 hq fun v1 Z1 e1 d1 H1 s1 R1 D1 g1 => ?_
  split at g1
  · rename_i d1 d2
    obtain ⟨a, ws, rfl, z1, z2⟩ := dp_tuple D1
    obtain ⟨w1, wr, rfl, y1, z3⟩ := dpa_cons z2
    obtain ⟨w2, rfl, y2⟩ := dpa_1 z3
    refine ⟨a, [w1, w2], rfl, same_tup R1.sub z1, rfl, w1, [w2], rfl, ?_⟩
    refine g_set R1 y1 g1 fun Z2 e2 H2 s2 R2 g2 => ⟨w2, [], rfl, ?_⟩
    have g2' : PgS X.K X.mg W B Z2 ((setAt i q2 d2 e2).bind fun f e => R.ok f e) Dn := by
      have e0 : ∀ r : R Fl, r.bind (fun f e => R.ok f e) = r := fun r => by cases r <;> rfl
      rw [e0]
      exact g2
    exact g_set R2 (dp_mono s2 y2) g2' fun Z3 e3 H3 s3 R3 g3 => ⟨rfl, g3 σ Z3 H3 (Same.refl _) R3⟩
  · exact g1.elim
/-! ### def f(text): return text.replace(sign, sign) -/
def eRepl (y z : Str) (p : XE) : XE := fun e => (p e).bind fun d e1 => match d with
  | .str x => if x.length + (x.length + 1) * z.length ≤ 16777216 then .ok (.str (Txt.replace x y z)) e1 else .bad
  | _ => .bad
theorem sbt_repl {o : Expr} {y z : Str} {j k : Nat} {c0 c1 apos cpos rpos : Pos} {p : XE} (ho : SE X W o p) (hyz : (y == z) = false)
    (hst : starEach [.Constant (.str y) j c0, .Constant (.str z) k c1] X.env = [(false, eval (.Constant (.str y) j c0) X.env), (false, eval (.Constant (.str z) k c1) X.env)] := by rfl)
    (hbase : attributeBase o "replace" X.env (eval o X.env) = eval o X.env := by rfl) (hline : (apos.endLine == cpos.line) = true := by rfl) :
    PSsT X [.Return (some (.Call (.Attribute o "replace" apos) [.Constant (.str y) j c0, .Constant (.str z) k c1] [] cpos)) rpos] (RSt X.K X.mg W (sRet (eRepl y z p))) := by
  have h := CwR.psst_one (CwR.pst_ret (pos := rpos) (CwR.pet_replC ho hyz hst hbase hline))
  intro pins s σ H D h0 I hw
  refine h pins s σ H D h0 I ?_
  obtain ⟨B, e, Z, R0, hq⟩ := hw
  refine rs_bind R0 (k := fun d e1 => (match d with
    | .str x => if x.length + (x.length + 1) * z.length ≤ 16777216 then R.ok (PyData.str (Txt.replace x y z)) e1 else .bad
    | _ => .bad).bind fun d e1 => R.ok (.rt d) e1) (by
      unfold sRet eRepl at hq
      cases hp : p e with
      | ok a e1 => rw [hp] at hq; exact hq
      | ex x e1 => rw [hp] at hq; exact hq
      | bad => rw [hp] at hq; exact hq) fun v1 Z1 e1 d1 H1 s1 R1 D1 g1 => ?_
  cases D1 with
  | str x =>
    dsimp only at g1
    split at g1
    · rename_i hz
      exact ⟨x, rfl, hz, g1 _ σ Z1 H1 (Same.refl _) R1 (.str _)⟩
    · exact g1.elim
  | non => exact g1.elim
  | bl _ => exact g1.elim
  | int _ => exact g1.elim
  | lst _ _ => exact g1.elim
  | tup _ _ => exact g1.elim
end
/-- a def whose body wants a token -/
theorem fn_okT {P : Program} {w : World} {K : PySem.W.Frag} {mg : Str → Option Value} {base : Heap} {x qual : Str} {st : Stmt} {f : Addr} {fd : FuncData} {N ps : List Str} {k nio : Nat} {b : XS} (F : Fun K x qual st f fd) (S : FnScope N ps (defScope st))
    (hnc : ∀ y ∈ (defScope st).names, y.2 ≠ .cell) (hps : 1 ≤ ps.length)
    (hb : ∀ (cdv : Value) (A : Around) (outer : List Env) (s : Shared) (H : Hp) (E : XK), Room k (A.deeper (envOfC qual (defScope st) s.heap.objs.size f cdv)) → PSsT (cxOf CX0 P w K mg base N qual (defScope st) f cdv A outer s H E) (defBody st) (RSt K mg WF b)) :
    FnOk P w K mg base CX0 (k + 1) f fd ps (spF K mg ps.length nio fun a => (runF N.length nio b a).nox) := by
  obtain ⟨oc, od, kV, doc, pm, an, cdv, ct, osl, rfl, lk, hcd⟩ := F.ex
  refine fn_ofT lk hcd S hnc hps (fun vs H Q E h => h.1) fun A outer s H vs Q E hr h => ?_
  obtain ⟨hl, Z, args, io, hio, hs, hp, hsep, hz, h⟩ := h
  refine ⟨_, hb cdv A outer s H E hr, _, _, Z, rl_start hs hp hsep, ?_⟩
  show PgS K mg WF _ Z (b (args ++ List.replicate (N.length - args.length) .un)) _
  unfold runF at h
  subst hio
  dsimp only at h
  cases hb : b (args ++ List.replicate (N.length - args.length) .un) with
  | bad => rw [hb] at h; exact h
  | ex x e =>
    rw [hb] at h
    simp only at h
    cases ho : outsOf io.length e with
    | none => rw [ho] at h; exact h.elim
    | some os => rw [ho] at h; exact h.elim
  | ok fl e =>
    rw [hb] at h
    cases fl with
    | bk => exact h.elim
    | ct => exact h.elim
    | nx =>
      simp only at h
      cases ho : outsOf io.length e with
      | none => rw [ho] at h; exact h.elim
      | some os =>
        rw [ho] at h
        exact fun σ' Z' H' s1 R1 => h _ Z' H' (after_of hz R1 ho) .non
    | rn ds =>
      simp only at h
      cases ho : outsOf io.length e with
      | none => rw [ho] at h; exact h.elim
      | some os =>
        rw [ho] at h
        exact fun p vs σ' Z' H' s1 R1 g1 g2 g3 g4 g5 => h p vs Z' H' (after_of hz R1 ho) (g3.resolve_right fun z => g4 (outs_own R1 ho z)) g1 g2 g5
    | rt d =>
      simp only at h
      cases ho : outsOf io.length e with
      | none => rw [ho] at h; exact h.elim
      | some os =>
        rw [ho] at h
        exact fun v σ' Z' H' s1 R1 dd => h v Z' H' (after_of hz R1 ho) dd
end G
set_option Elab.async false
set_option linter.all false
set_option maxRecDepth 100000
/-! xs[i] += n of a name's own list of ints -/
namespace G
open PySem PySem.Spec PyProof.Rows L2
section
variable {X : Cx} {W : WX} {pos : Pos}
def rGetN : V → V → Hp → VK → Prop := fun o i H Q => ∃ p xs k v, o = .ref p ∧ i = .int k ∧ H p = some (.lst xs) ∧ (0 ≤ k ∧ k < 2 ^ 62) ∧ xs[k.toNat]? = some v ∧ Q v H
theorem get_nat : PGet X rGetN := by
  intro pins s σ H o i ov iv Q I ro ri ⟨p, xs, k, v, e1, e2, hH, hk, hx, q⟩
  subst e1 e2
  cases ro
  obtain ⟨t, rfl⟩ := ri
  obtain ⟨z, its, n, r, hl, e⟩ := I.lstM hH
  obtain ⟨w, ew, rw'⟩ := r.get hx
  exact wpAny_getItem_list (items := its.toArray) ⟨_, e, rfl, _, rfl⟩ hk.1 (by omega) (by simpa using ew) ⟨v, H, I, rw', q⟩
def sAugIx (i : Nat) (q p : XE) (f : Int → Int → Int) : XS := fun e => match e[i]? with
  | some (.own _ (.lst _)) => (q e).bind fun k e1 => match e1[i]?, k with
    | some (.own _ (.lst xs)), .int k => if 0 ≤ k ∧ k < 2 ^ 62 then match xs[k.toNat]? with
      | some (.int a) => (p e1).bind fun d e2 => match d, e2[i]? with
        | .int c, some (.own t (.lst ys)) => match ixN ys.length k with
          | some j => .ok .nx (e2.set i (.own t (.lst (ys.set j (.int (f a c))))))
          | none => .bad
        | _, _ => .bad
      | _ => .bad
      else .bad
    | _, _ => .bad
  | _ => .bad
theorem ss_augIx {i : Nat} {x : Str} {px ps : Pos} {b v : Expr} {q p : XE} {op : Operator} {f : Int → Int → Int} (hop : PIp X op (ipI f)) (ha : PE X (.Name x px) (tVar i)) (hb : SE X W b q) (hv : SE X W v p)
    (h1 : ∀ ov iv new, augStore b ov iv new = (do holding [new, ov, iv] (setItem ov iv new); release [new, ov, iv] []; pure .next) := by intros; rfl) : SS X W (.AugAssign (.Subscript (.Name x px) b ps) op v pos) (sAugIx i q p f) := by
  refine PS.imp (ps_augS ha hb get_nat hv hop set_list h1) fun Dn σ H ⟨B, e, Z, R0, hq⟩ => ?_
  unfold sAugIx at hq
  split at hq
  · rename_i t ds he
    obtain ⟨a, u, h1, _⟩ := R0.own he
    refine ⟨_, h1, ?_⟩
    refine rs_bind R0 hq fun v2 Z2 e2 d2 H2 s2 R2 D2 g2 => ?_
    split at g2
    · rename_i t2 xs kk he2
      split at g2
      · rename_i hk
        obtain ⟨a2, u2, z2, z3, z4, ⟨vs, rfl, z5⟩, _⟩ := R2.own he2
        rw [h1] at z2
        cases z2
        cases dp_int D2
        split at g2
        · rename_i av hx
          obtain ⟨w, hw, dw⟩ := dpa_get z5 hx
          cases dp_int dw
          refine ⟨a, vs, kk, _, rfl, rfl, z3, hk, hw, ?_⟩
          refine rs_bind R2 g2 fun v3 Z3 e3 d3 H3 s3 R3 D3 g3 => ?_
          split at g3
          · rename_i c t3 ys he3
            cases dp_int D3
            refine ⟨_, _, rfl, rfl, ?_⟩
            obtain ⟨a3, u3, y2, y3, y4, ⟨ws, rfl, y5⟩, _⟩ := R3.own he3
            rw [h1] at y2
            cases y2
            cases hj : ixN ys.length kk with
            | none => rw [hj] at g3; exact g3.elim
            | some j =>
              rw [hj] at g3
              exact ⟨a, ws, kk, j, rfl, rfl, y3, by rw [dpa_len y5]; exact hj, g3 σ Z3 _ (Same.refl _) (R3.write (o' := .lst (ys.set j (.int (f av c)))) he3 h1 ⟨_, rfl, dpa_set (.int _) j y5⟩)⟩
          · exact g3.elim
        · exact g2.elim
      · exact g2.elim
    · exact g2.elim
  · exact hq.elim
/-! ### sum of a list or a tuple of ints -/
def rSumT (K : Frag) : List V → Hp → VK → Prop := fun vs H Q => ∃ (a : Addr) (ns : List Int), vs = [V.ref a] ∧ SqT K H a (ns.map V.int) ∧ Q (.int ns.sum) H
theorem cr_sumT (hc : X.calm = true) : CallR X (.builtin "sum") (rSumT X.K) := by
  intro pins s σ H vs us Q I r ⟨a, ns, e, hs, q⟩
  subst e
  obtain ⟨its, rv, ht, _⟩ := I.tuple hs
  rw [Vals.ref1 r]
  have hi := rv.ints
  obtain ⟨xs, e⟩ := hi.allInts.items
  have hn : numsOf (intItems xs).toList = ns := by rw [← e]; exact hi.numsOf
  rw [nums_intItems] at hn
  rw [e] at ht
  refine PySem.W.ktm_sumG (I.ok.hd hc) ht fun h' tk t' hk => ?_
  rw [preSum_eq, List.take_of_length_le (by simp), hn]
  exact ⟨.int _, H, I.kept hk, ⟨_, rfl⟩, q⟩
def dSumA : List D → Option D
  | [.list xs] => (intsD xs).map fun ns => .int ns.sum
  | [.tuple xs] => (intsD xs).map fun ns => .int ns.sum
  | _ => none
theorem ok_sumA {K : Frag} : OkC K (fun vs H Q => rSum K vs H Q ∨ rSumT K vs H Q) dSumA := by
  intro Z H xs ds d Q s D1 e k
  unfold dSumA at e
  split at e
  · rename_i ys
    obtain ⟨v, rfl, hv⟩ := dpa_1 D1
    obtain ⟨a, ws, rfl, h1, h2⟩ := dp_list hv
    cases hi : intsD ys with
    | none => rw [hi] at e; cases e
    | some ns =>
      rw [hi] at e
      cases e
      refine .inl ⟨a, ns, rfl, .inl (.inl ?_), k _ Z H (Nw.refl s) (.int _)⟩
      rw [← dpa_ints h2 hi]
      exact s _ _ h1
  · rename_i ys
    obtain ⟨v, rfl, hv⟩ := dpa_1 D1
    obtain ⟨a, ws, rfl, h1, h2⟩ := dp_tuple hv
    cases hi : intsD ys with
    | none => rw [hi] at e; cases e
    | some ns =>
      rw [hi] at e
      cases e
      refine .inr ⟨a, ns, rfl, ?_, k _ Z H (Nw.refl s) (.int _)⟩
      rw [← dpa_ints h2 hi]
      exact same_tup s h1
  · cases e
theorem se_sumA {a : Expr} {q : XA} {p : Pos} (hc : X.calm = true) (hg : Gl X "sum") (hm : X.mg "sum" = none) (ha : SA X W [a] q) (he : starEach [a] X.env = (false, eval a X.env) :: starEach [] X.env := by rfl) (hpl : (backTo pos (starEach [] X.env)).any (·.1) = false := by rfl) : SE X W (.Call (.Name "sum" p) [a] [] pos) (eCall dSumA q) :=
  se_tCB ok_sumA (pe_callB (callr_or (cr_sum hc) (cr_sumT hc)) hg hm (by decide +kernel) ha (by decide) (by decide) he hpl)
end
end G
set_option Elab.async false
set_option linter.all false
set_option maxRecDepth 100000
namespace G
open PySem PySem.Spec PyProof.Rows L2
/-! ### what holds behind a piece of code: one rule for each reading -/
inductive Wp {α : Type} (r : R α) (Q : α → En → Prop) (X : Xn → En → Prop) : Prop
  | ok {a : α} {e : En} (h : r = .ok a e) (q : Q a e) : Wp r Q X
  | ex {x : Xn} {e : En} (h : r = .ex x e) (q : X x e) : Wp r Q X
inductive WpO {α : Type} (o : Option α) (Q : α → Prop) : Prop
  | mk {d : α} (h : o = some d) (q : Q d) : WpO o Q
abbrev NX : Xn → En → Prop := fun _ _ => False
section
variable {α β : Type} {e e0 e1 e2 e3 : En} {a b d d1 d2 c : D} {ds ls acc xs ys : List D} {p q : XE} {qa : XA} {pi : XI} {X : Xn → En → Prop}
theorem wp_eq {r : R α} {a : α} {Q : α → En → Prop} (h : r = .ok a e) (q : Q a e) : Wp r Q X := .ok h q
theorem wp_k {a : α} {Q : α → En → Prop} (q : Q a e) : Wp (.ok a e) Q X := .ok rfl q
theorem wp_kOf {a : α} {Q : α → En → Prop} (h : Wp (.ok a e) Q X) : Q a e := by
  cases h with
  | ok h q => cases h; exact q
  | ex h q => cases h
theorem wp_bind {r : R α} {k : α → En → R β} {Q : β → En → Prop} (h : Wp r (fun a e => Wp (k a e) Q X) X) : Wp (r.bind k) Q X := by
  cases h with
  | ok h q => subst h; exact q
  | ex h q => subst h; exact .ex rfl q
theorem wp_mid {r : R α} {Q Q' : α → En → Prop} (h : Wp r Q' X) (f : ∀ a e, Q' a e → Q a e) : Wp r Q X := by
  cases h with
  | ok h q => exact .ok h (f _ _ q)
  | ex h q => exact .ex h q
theorem wp_out {r : R α} {Q : α → En → Prop} (h : Wp r Q NX) : ∃ a e, r = .ok a e ∧ Q a e := by
  cases h with
  | ok h q => exact ⟨_, _, h, q⟩
  | ex h q => exact q.elim
theorem wp_noex {r : R α} {Q : α → En → Prop} (h : Wp r Q NX) : Wp r.noex Q X := by
  cases h with
  | ok h q => subst h; exact .ok rfl q
  | ex h q => exact q.elim
theorem wpo {o : Option α} {d : α} {Q : α → Prop} (h : o = some d) (q : Q d) : WpO o Q := .mk h q
theorem wpo_out {o : Option α} {Q : α → Prop} (h : WpO o Q) : ∃ d, o = some d ∧ Q d := by
  cases h with
  | mk h q => exact ⟨_, h, q⟩
theorem wp_lift {o : Option α} {Q : α → En → Prop} (h : WpO o fun a => Q a e) : Wp (R.lift o e) Q X := by
  cases h with
  | mk h q => subst h; exact .ok rfl q
theorem wp_map {r : R α} {f : α → En → β} {g : α → En → En} {Q : β → En → Prop} (h : Wp r (fun a e => Q (f a e) (g a e)) X) : Wp (r.bind fun a e => .ok (f a e) (g a e)) Q X :=
  wp_bind (wp_mid h fun _ _ h => .ok rfl h)
section
variable {Q : D → En → Prop}
theorem w_var {i : Nat} (h : e[i]? = some (.dat d)) (k : Q d e) : Wp (eVar i e) Q X := wp_eq (st_var h) k
theorem w_varO {i : Nat} {t : Option Nat} (h : e[i]? = some (.own t (.lst ds))) (k : Q (.list ds) (e.set i (.dat (.list ds)))) : Wp (eVar i e) Q X := wp_eq (st_varO h) k
theorem w_c (k : Q d e) : Wp (eC d e) Q X := wp_eq rfl k
theorem w_op {g : D → D → Option D} (h : Wp (p e) (fun a e1 => Wp (q e1) (fun b e2 => WpO (g a b) fun d => Q d e2) X) X) : Wp (eOp g p q e) Q X :=
  wp_bind (wp_mid h fun _ _ h => wp_bind (wp_mid h fun _ _ h => wp_lift h))
theorem w_and (h : Wp (p e) (fun d e1 => ∃ b, d = .bool b ∧ (b = true → Wp (q e1) Q X) ∧ (b = false → Q (.bool false) e1)) X) : Wp (eAnd p q e) Q X := by
  refine wp_bind (wp_mid h fun d e1 ⟨b, hd, h1, h2⟩ => ?_)
  subst hd
  cases b
  · first | exact h2 rfl | exact wp_eq rfl (h2 rfl) | exact wpo rfl (h2 rfl)
  · first | exact h1 rfl | exact wp_eq rfl (h1 rfl) | exact wpo rfl (h1 rfl)
theorem w_or (h : Wp (p e) (fun d e1 => ∃ b, d = .bool b ∧ (b = true → Q (.bool true) e1) ∧ (b = false → Wp (q e1) Q X)) X) : Wp (eOr p q e) Q X := by
  refine wp_bind (wp_mid h fun d e1 ⟨b, hd, h1, h2⟩ => ?_)
  subst hd
  cases b
  · first | exact h2 rfl | exact wp_eq rfl (h2 rfl) | exact wpo rfl (h2 rfl)
  · first | exact h1 rfl | exact wp_eq rfl (h1 rfl) | exact wpo rfl (h1 rfl)
theorem w_not (h : Wp (p e) (fun d e1 => ∃ b, d = .bool b ∧ Q (.bool (!b)) e1) X) : Wp (eNot p e) Q X := by
  refine wp_bind (wp_mid h fun d e1 ⟨b, hd, h1⟩ => ?_)
  subst hd
  first | exact h1 | exact wp_eq rfl (h1) | exact wpo rfl (h1)
theorem w_if {t : XT} (h : Wp (t e) (fun b e1 => (b = true → Wp (p e1) Q X) ∧ (b = false → Wp (q e1) Q X)) X) : Wp (eIf t p q e) Q X := by
  refine wp_bind (wp_mid h fun b e1 ⟨h1, h2⟩ => ?_)
  cases b
  · first | exact h2 rfl | exact wp_eq rfl (h2 rfl) | exact wpo rfl (h2 rfl)
  · first | exact h1 rfl | exact wp_eq rfl (h1 rfl) | exact wpo rfl (h1 rfl)
theorem w_isN (h : Wp (p e) (fun d e1 => Q (.bool (dIsN d)) e1) X) : Wp (eIsN p e) Q X := wp_map h
theorem w_notN (h : Wp (p e) (fun d e1 => Q (.bool (!dIsN d)) e1) X) : Wp (eNotN p e) Q X := wp_map h
theorem w_call {g : List D → Option D} (h : Wp (qa e) (fun ds e1 => WpO (g ds) fun d => Q d e1) X) : Wp (eCall g qa e) Q X := wp_bind (wp_mid h fun _ _ h => wp_lift h)
theorem w_meth {ty : D → Bool} {g : D → List D → Option D} (h : Wp (p e) (fun c e1 => ty c = true ∧ Wp (qa e1) (fun ds e2 => WpO (g c ds) fun d => Q d e2) X) X) : Wp (eMeth ty g p qa e) Q X := by
  refine wp_bind (wp_mid h fun c e1 ⟨h1, h2⟩ => ?_)
  rw [if_pos h1]
  exact wp_bind (wp_mid h2 fun _ _ h => wp_lift h)
theorem w_new (h : Wp (pi e) (fun ds e1 => Q (.list ds) e1) X) : Wp (eNew pi e) Q X := wp_map h
theorem w_isi {T : String} (h : Wp (p e) (fun d e1 => WpO (kitB (tyN d) T) fun b => Q (.bool b) e1) X) : Wp (eIsi T p e) Q X := by
  refine wp_bind (wp_mid h fun d e1 h => wp_lift ?_)
  obtain ⟨b, hb, k⟩ := wpo_out h
  rw [hb]
  first | exact k | exact wp_eq rfl (k) | exact wpo rfl (k)
theorem w_bits (h : Wp (p e) (fun d e1 => ∃ i, d = .int i ∧ Q (.int (Builtin.Int.intBits i : Nat)) e1) X) : Wp (eBits p e) Q X := by
  refine wp_bind (wp_mid h fun d e1 ⟨i, hd, k⟩ => ?_)
  subst hd
  first | exact k | exact wp_eq rfl (k) | exact wpo rfl (k)
theorem w_rev (h : Wp (p e) (fun d e1 => ∃ xs, d = .list xs ∧ Q (.list xs.reverse) e1) X) : Wp (eRev p e) Q X := by
  refine wp_bind (wp_mid h fun d e1 ⟨i, hd, k⟩ => ?_)
  subst hd
  first | exact k | exact wp_eq rfl (k) | exact wpo rfl (k)
theorem w_ixOwn {i : Nat} {t : Option Nat} (h0 : e[i]? = some (.own t (.lst xs))) (h : Wp (q e) (fun d e1 => ∃ u ys, e1[i]? = some (.own u (.lst ys)) ∧ WpO (dIx (.list ys) d) fun d => Q d e1) X) : Wp (eIxOwn i q e) Q X := by
  unfold eIxOwn
  rw [h0]
  refine wp_bind (wp_mid h fun d e1 ⟨u, ys, h1, h2⟩ => ?_)
  rw [h1]
  exact wp_lift h2
theorem w_lenOwn {i : Nat} {t : Option Nat} (h0 : e[i]? = some (.own t (.lst xs))) (k : Q (.int (xs.length : Nat)) e) : Wp (eLenOwn i e) Q X := wp_eq (st_lenOwn h0) k
theorem w_mut {i : Nat} {g : List D → List D → Option (D × List D)} {t : Option Nat} (h0 : e[i]? = some (.own t (.lst xs))) (h : Wp (qa e) (fun as e1 => ∃ u ys, e1[i]? = some (.own u (.lst ys)) ∧ WpO (g ys as) fun r => Q r.1 (e1.set i (.own u (.lst r.2)))) X) : Wp (eMut i g qa e) Q X := by
  unfold eMut
  rw [h0]
  refine wp_bind (wp_mid h fun as e1 ⟨u, ys, h1, h2⟩ => ?_)
  obtain ⟨⟨x, zs⟩, h3, h4⟩ := wpo_out h2
  rw [h1]
  show Wp (match g ys as with
    | some (d, ys) => .ok d (e1.set i (.own u (.lst ys)))
    | none => .bad) Q X
  rw [h3]
  first | exact h4 | exact wp_eq rfl (h4) | exact wpo rfl (h4)
theorem w_sl {g : D → Option Int → Option Int → Option D} {l u : XO} (h : Wp (p e) (fun c e1 => Wp (l e1) (fun lo e2 => Wp (u e2) (fun hi e3 => WpO (g c lo hi) fun d => Q d e3) X) X) X) : Wp (eSl g p l u e) Q X :=
  wp_bind (wp_mid h fun _ _ h => wp_bind (wp_mid h fun _ _ h => wp_bind (wp_mid h fun _ _ h => wp_lift h)))
end
section
variable {Q : Option Int → En → Prop}
theorem w_oN (k : Q none e) : Wp (oNone e) Q X := wp_eq rfl k
theorem w_oS (h : Wp (p e) (fun d e1 => ∃ i, d = .int i ∧ Q (some i) e1) X) : Wp (oSome p e) Q X := by
  refine wp_bind (wp_mid h fun d e1 ⟨i, hd, k⟩ => ?_)
  subst hd
  first | exact k | exact wp_eq rfl (k) | exact wpo rfl (k)
end
section
variable {Q : Bool → En → Prop}
theorem t_of (h : Wp (p e) (fun d e1 => ∃ b, d = .bool b ∧ Q b e1) X) : Wp (tOf p e) Q X := by
  refine wp_bind (wp_mid h fun d e1 ⟨b, hd, k⟩ => ?_)
  subst hd
  first | exact k | exact wp_eq rfl (k) | exact wpo rfl (k)
theorem t_tru (h : Wp (p e) (fun d e1 => WpO (dTru d) fun b => Q b e1) X) : Wp (tTru p e) Q X := wp_bind (wp_mid h fun _ _ h => wp_lift h)
theorem t_and {t u : XT} (h : Wp (t e) (fun b e1 => (b = true → Wp (u e1) Q X) ∧ (b = false → Q false e1)) X) : Wp (tAnd t u e) Q X := by
  refine wp_bind (wp_mid h fun b e1 ⟨h1, h2⟩ => ?_)
  cases b
  · first | exact h2 rfl | exact wp_eq rfl (h2 rfl) | exact wpo rfl (h2 rfl)
  · first | exact h1 rfl | exact wp_eq rfl (h1 rfl) | exact wpo rfl (h1 rfl)
theorem t_or {t u : XT} (h : Wp (t e) (fun b e1 => (b = true → Q true e1) ∧ (b = false → Wp (u e1) Q X)) X) : Wp (tOr t u e) Q X := by
  refine wp_bind (wp_mid h fun b e1 ⟨h1, h2⟩ => ?_)
  cases b
  · first | exact h2 rfl | exact wp_eq rfl (h2 rfl) | exact wpo rfl (h2 rfl)
  · first | exact h1 rfl | exact wp_eq rfl (h1 rfl) | exact wpo rfl (h1 rfl)
theorem t_not {t : XT} (h : Wp (t e) (fun b e1 => Q (!b) e1) X) : Wp (tNot t e) Q X := wp_map h
theorem t_yes (k : Q true e) : Wp ((fun e => R.ok true e : XT) e) Q X := wp_eq rfl k
end
section
variable {Q : List D → En → Prop}
theorem a_nil (k : Q [] e) : Wp (aNil e) Q X := wp_eq rfl k
theorem a_cons (h : Wp (p e) (fun d e1 => Wp (qa e1) (fun ds e2 => Q (d :: ds) e2) X) X) : Wp (aCons p qa e) Q X := wp_bind (wp_mid h fun _ _ h => wp_map h)
theorem i_of (h : Wp (p e) (fun d e1 => WpO (iD d) fun ds => Q ds e1) X) : Wp (iOf p e) Q X := wp_bind (wp_mid h fun _ _ h => wp_lift h)
theorem i_args {g : List D → Option (List D)} (h : Wp (qa e) (fun ds e1 => WpO (g ds) fun ds => Q ds e1) X) : Wp (iArgs g qa e) Q X := wp_bind (wp_mid h fun _ _ h => wp_lift h)
theorem n_lst (h : Wp (qa e) (fun ds e1 => ds.length ≤ sizeLine ∧ Q ds e1) X) : Wp (nLst qa e) Q X := by
  refine wp_bind (wp_mid h fun d e1 ⟨h1, h2⟩ => ?_)
  rw [if_pos h1]
  first | exact h2 | exact wp_eq rfl (h2) | exact wpo rfl (h2)
theorem n_take {i : Nat} (h : e[i]? = some (.own none (.lst ds))) (k : Q ds (e.set i .un)) : Wp (nTake i e) Q X := wp_eq (nl_take h) k
theorem n_call {g : List D → Option (List D)} (h : Wp (qa e) (fun ds e1 => WpO (g ds) fun ds => Q ds e1) X) : Wp (nCall g qa e) Q X := wp_bind (wp_mid h fun _ _ h => wp_lift h)
theorem n_rg1 (h : Wp (p e) (fun d e1 => ∃ n, d = .int n ∧ (0 ≤ n ∧ n ≤ 16777216) ∧ Q (rgD 0 n) e1) X) : Wp (nRange1 p e) Q X := by
  refine wp_bind (wp_mid h fun d e1 ⟨n, hd, h1, h2⟩ => ?_)
  subst hd
  show Wp (if 0 ≤ n ∧ n ≤ 16777216 then _ else _) Q X
  rw [if_pos h1]
  first | exact h2 | exact wp_eq rfl (h2) | exact wpo rfl (h2)
theorem n_slScr {i : Nat} {l u : XO} (h0 : e[i]? = some (.scr xs)) (h : Wp (l e) (fun lo e1 => Wp (u e1) (fun hi e2 => Q (cutD xs lo hi) e2) X) X) : Wp (nSlScr i l u e) Q X := by
  unfold nSlScr
  rw [h0]
  exact wp_bind (wp_mid h fun _ _ h => wp_map h)
theorem n_rep (h : Wp (p e) (fun x e1 => Wp (q e1) (fun y e2 => ∃ xs k, x = .list xs ∧ y = .int k ∧ ((-(2 ^ 63) ≤ k ∧ k < 2 ^ 63) ∧ xs.length * k.toNat ≤ sizeLine) ∧ Q (List.replicate k.toNat xs).flatten e2) X) X) : Wp (nRep p q e) Q X := by
  refine wp_bind (wp_mid h fun x e1 h => wp_bind (wp_mid h fun y e2 ⟨xs, k, h1, h2, h3, h4⟩ => ?_))
  subst h1
  subst h2
  show Wp (if _ then _ else _) Q X
  rw [if_pos h3]
  first | exact h4 | exact wp_eq rfl (h4) | exact wpo rfl (h4)
theorem n_lc {t : XG} {c : XT} {x : XE} {vs : List Nat} (h : Wp (pi e) (fun ds e1 => ds.length < sizeLine ∧ Wp (lcGo t c x vs ds (wipeE e1 vs) []) (fun acc e2 => Q acc (back e1 e2 vs)) X) X) : Wp (nLc pi t c x vs e) Q X := by
  refine wp_bind (wp_mid h fun d e1 ⟨h1, h2⟩ => ?_)
  rw [if_pos h1]
  exact wp_map h2
theorem n_lc2 {t : XG} {c : XT} {pi1 : XI} {t1 : XG} {c1 : XT} {x : XE} {vs vs1 : List Nat} (h : Wp (pi e) (fun ds e1 => Wp (lc2Go t c pi1 t1 c1 x vs vs1 ds (wipeE e1 vs) []) (fun acc e2 => Q acc (back e1 e2 vs)) X) X) : Wp (nLc2 pi t c pi1 t1 c1 x vs vs1 e) Q X :=
  wp_bind (wp_mid h fun d e1 h => wp_map h)
end
/-! ### a comprehension's turns -/
theorem app_cons {γ : Type} (a : List γ) (x : γ) (b : List γ) : a ++ x :: b = (a ++ [x]) ++ b := by simp
theorem l_goA {γ : Type} {t : XG} {c : XT} {x : XE} {vs : List Nat} {f : γ → D} {all : List γ} (I : List γ → En → List D → Prop) {Q : List D → En → Prop}
    (hs : ∀ done a rest e acc, all = done ++ a :: rest → I done e acc → ∃ e1, t (f a) e = some e1 ∧ Wp (c e1) (fun b e2 => (b = true → Wp (x e2) (fun y e3 => I (done ++ [a]) (wipeE e3 vs) (acc ++ [y])) NX) ∧ (b = false → I (done ++ [a]) (wipeE e2 vs) acc)) NX)
    (hd : ∀ e acc, I all e acc → Q acc e) : ∀ (rest done : List γ) (e : En) (acc : List D), all = done ++ rest → I done e acc → Wp (lcGo t c x vs (rest.map f) e acc) Q X
  | [], done, e, acc, ha, h => wp_eq rfl (hd e acc (by rw [ha, List.append_nil]; exact h))
  | a :: rest, done, e, acc, ha, h => by
    obtain ⟨e1, h1, h2⟩ := hs done a rest e acc ha h
    show Wp (match t (f a) e with
      | none => .bad
      | some e1 => (c e1).noex.bind fun b e2 => if b = true then (x e2).noex.bind fun y e3 => lcGo t c x vs (rest.map f) (wipeE e3 vs) (acc ++ [y]) else lcGo t c x vs (rest.map f) (wipeE e2 vs) acc) Q X
    rw [h1]
    refine wp_bind (wp_noex (wp_mid h2 fun b e2 ⟨k1, k2⟩ => ?_))
    cases b
    · exact l_goA I hs hd rest (done ++ [a]) _ _ (by rw [ha, app_cons]) (k2 rfl)
    · exact wp_bind (wp_noex (wp_mid (k1 rfl) fun y e3 k => l_goA I hs hd rest (done ++ [a]) _ _ (by rw [ha, app_cons]) k))
/-- by an invariant: what was gone through, the slots, what is made so far -/
theorem l_go {γ : Type} {t : XG} {c : XT} {x : XE} {vs : List Nat} {f : γ → D} {all : List γ} (I : List γ → En → List D → Prop) {Q : List D → En → Prop} (h0 : I [] e acc)
    (hs : ∀ done a rest e acc, all = done ++ a :: rest → I done e acc → ∃ e1, t (f a) e = some e1 ∧ Wp (c e1) (fun b e2 => (b = true → Wp (x e2) (fun y e3 => I (done ++ [a]) (wipeE e3 vs) (acc ++ [y])) NX) ∧ (b = false → I (done ++ [a]) (wipeE e2 vs) acc)) NX)
    (hd : ∀ e acc, I all e acc → Q acc e) : Wp (lcGo t c x vs (all.map f) e acc) Q X := l_goA I hs hd all [] e acc rfl h0
/-- one that changes nothing: a filter and a map -/
theorem l_pure {γ : Type} {t : XG} {c : XT} {x : XE} {vs : List Nat} {f : γ → D} {all : List γ} (cb : γ → Bool) (y : γ → D) {Q : List D → En → Prop}
    (hs : ∀ a ∈ all, ∃ e1, t (f a) e = some e1 ∧ Wp (c e1) (fun b e2 => b = cb a ∧ (b = true → Wp (x e2) (fun z e3 => z = y a ∧ wipeE e3 vs = e) NX) ∧ (b = false → wipeE e2 vs = e)) NX)
    (hd : Q (acc ++ (all.filter cb).map y) e) : Wp (lcGo t c x vs (all.map f) e acc) Q X := by
  refine l_go (fun done e' acc' => e' = e ∧ acc' = acc ++ (done.filter cb).map y) ⟨rfl, by simp⟩ (fun done a rest e' acc' ha ⟨h1, h2⟩ => ?_) (fun e' acc' ⟨h1, h2⟩ => by rw [h1, h2]; exact hd)
  subst h1
  obtain ⟨e1, k1, k2⟩ := hs a (by rw [ha]; simp)
  refine ⟨e1, k1, wp_mid k2 fun b e2 ⟨g1, g2, g3⟩ => ⟨fun hb => wp_mid (g2 hb) fun z e3 ⟨m1, m2⟩ => ⟨m2, ?_⟩, fun hb => ⟨g3 hb, ?_⟩⟩⟩
  · rw [h2, m1, List.filter_append, List.map_append, ← List.append_assoc, List.filter_cons, if_pos (by rw [← g1, hb])]; rfl
  · rw [h2, List.filter_append, List.map_append, List.filter_cons, if_neg (by rw [← g1, hb]; decide)]; simp
/-- without a test -/
theorem l_map {γ : Type} {t : XG} {x : XE} {vs : List Nat} {f : γ → D} {all : List γ} (y : γ → D) {Q : List D → En → Prop}
    (hs : ∀ a ∈ all, ∃ e1, t (f a) e = some e1 ∧ Wp (x e1) (fun z e3 => z = y a ∧ wipeE e3 vs = e) NX)
    (hd : Q (acc ++ all.map y) e) : Wp (lcGo t (fun e => R.ok true e) x vs (all.map f) e acc) Q X := by
  refine l_pure (fun _ => true) y (fun a ha => ?_) (by rw [List.filter_eq_self.mpr fun _ _ => rfl]; exact hd)
  obtain ⟨e1, k1, k2⟩ := hs a ha
  exact ⟨e1, k1, wp_eq rfl ⟨rfl, fun _ => k2, fun z => nomatch z⟩⟩
theorem l_go2A {γ : Type} {t : XG} {c : XT} {pi1 : XI} {t1 : XG} {c1 : XT} {x : XE} {vs vs1 : List Nat} {f : γ → D} {all : List γ} (I : List γ → En → List D → Prop) {Q : List D → En → Prop}
    (hs : ∀ done a rest e acc, all = done ++ a :: rest → I done e acc → ∃ e1, t (f a) e = some e1 ∧ Wp (c e1) (fun b e2 => (b = true → Wp (pi1 e2) (fun ds1 e3 => acc.length + ds1.length < sizeLine ∧ Wp (lcGo t1 c1 x vs1 ds1 (wipeE e3 vs1) acc) (fun acc' e4 => I (done ++ [a]) (wipeE e4 vs) acc') NX) NX) ∧ (b = false → I (done ++ [a]) (wipeE e2 vs) acc)) NX)
    (hd : ∀ e acc, I all e acc → Q acc e) : ∀ (rest done : List γ) (e : En) (acc : List D), all = done ++ rest → I done e acc → Wp (lc2Go t c pi1 t1 c1 x vs vs1 (rest.map f) e acc) Q X
  | [], done, e, acc, ha, h => wp_eq rfl (hd e acc (by rw [ha, List.append_nil]; exact h))
  | a :: rest, done, e, acc, ha, h => by
    obtain ⟨e1, h1, h2⟩ := hs done a rest e acc ha h
    rw [List.map_cons]
    unfold lc2Go
    rw [h1]
    refine wp_bind (wp_noex (wp_mid h2 fun b e2 ⟨k1, k2⟩ => ?_))
    cases b
    · exact l_go2A I hs hd rest (done ++ [a]) _ _ (by rw [ha, app_cons]) (k2 rfl)
    · refine wp_bind (wp_noex (wp_mid (k1 rfl) fun ds1 e3 ⟨k3, k4⟩ => ?_))
      rw [if_pos k3]
      obtain ⟨acc', e4, m1, m2⟩ := wp_out k4
      rw [m1]
      exact l_go2A I hs hd rest (done ++ [a]) _ _ (by rw [ha, app_cons]) m2
theorem l_go2 {γ : Type} {t : XG} {c : XT} {pi1 : XI} {t1 : XG} {c1 : XT} {x : XE} {vs vs1 : List Nat} {f : γ → D} {all : List γ} (I : List γ → En → List D → Prop) {Q : List D → En → Prop} (h0 : I [] e acc)
    (hs : ∀ done a rest e acc, all = done ++ a :: rest → I done e acc → ∃ e1, t (f a) e = some e1 ∧ Wp (c e1) (fun b e2 => (b = true → Wp (pi1 e2) (fun ds1 e3 => acc.length + ds1.length < sizeLine ∧ Wp (lcGo t1 c1 x vs1 ds1 (wipeE e3 vs1) acc) (fun acc' e4 => I (done ++ [a]) (wipeE e4 vs) acc') NX) NX) ∧ (b = false → I (done ++ [a]) (wipeE e2 vs) acc)) NX)
    (hd : ∀ e acc, I all e acc → Q acc e) : Wp (lc2Go t c pi1 t1 c1 x vs vs1 (all.map f) e acc) Q X := l_go2A I hs hd all [] e acc rfl h0
/-! ### statements -/
section
variable {Q : Fl → En → Prop}
def thn (s : XS) (Q : Fl → En → Prop) (X : Xn → En → Prop) : Fl → En → Prop
  | .nx, e => Wp (s e) Q X
  | f, e => Q f e
theorem thn_nx {s : XS} (h : Wp (s e) Q X) : thn s Q X .nx e := h
theorem thn_rt {s : XS} (h : Q (.rt d) e) : thn s Q X (.rt d) e := h
theorem thn_rn {s : XS} (h : Q (.rn ds) e) : thn s Q X (.rn ds) e := h
theorem thn_bk {s : XS} (h : Q .bk e) : thn s Q X .bk e := h
theorem thn_ct {s : XS} (h : Q .ct e) : thn s Q X .ct e := h
theorem s_seq {s1 s2 : XS} (h : Wp (s1 e) (thn s2 Q X) X) : Wp (sSeq s1 s2 e) Q X := by
  unfold sSeq
  refine wp_bind (wp_mid h fun f e1 k => ?_)
  cases f <;> first | exact k | exact wp_eq rfl k
theorem s_nx (k : Q .nx e) : Wp (sNx e) Q X := wp_eq rfl k
theorem s_bk (k : Q .bk e) : Wp ((fun e => R.ok Fl.bk e : XS) e) Q X := wp_eq rfl k
theorem s_ct (k : Q .ct e) : Wp ((fun e => R.ok Fl.ct e : XS) e) Q X := wp_eq rfl k
theorem s_retN (k : Q (.rt .none) e) : Wp ((fun e => R.ok (Fl.rt .none) e : XS) e) Q X := wp_eq rfl k
theorem s_expr (h : Wp (p e) (fun _ e1 => Q .nx e1) X) : Wp (sExpr p e) Q X := wp_map h
theorem s_ret (h : Wp (p e) (fun d e1 => Q (.rt d) e1) X) : Wp (sRet p e) Q X := wp_map h
theorem s_retW (h : Wp (pi e) (fun d e1 => Q (.rn d) e1) X) : Wp (sRetN pi e) Q X := wp_map h
theorem s_if {t : XT} {s1 s2 : XS} (h : Wp (t e) (fun b e1 => (b = true → Wp (s1 e1) Q X) ∧ (b = false → Wp (s2 e1) Q X)) X) : Wp (sIf t s1 s2 e) Q X := by
  refine wp_bind (wp_mid h fun b e1 ⟨h1, h2⟩ => ?_)
  cases b
  · first | exact h2 rfl | exact wp_eq rfl (h2 rfl) | exact wpo rfl (h2 rfl)
  · first | exact h1 rfl | exact wp_eq rfl (h1 rfl) | exact wpo rfl (h1 rfl)
theorem s_set {i : Nat} (h : Wp (p e) (fun d e1 => Q .nx (e1.set i (.dat d))) X) : Wp (sSet i p e) Q X := wp_map h
theorem s_own {i : Nat} (h : Wp (pi e) (fun ds e1 => Q .nx (e1.set i (.own none (.lst ds)))) X) : Wp (sOwn i pi e) Q X := wp_map h
theorem s_asg {t : XG} (h : Wp (p e) (fun d e1 => ∃ e2, t d e1 = some e2 ∧ Q .nx e2) X) : Wp (sAsg t p e) Q X := by
  refine wp_bind (wp_mid h fun d e1 ⟨e2, h1, h2⟩ => ?_)
  rw [h1]
  first | exact h2 | exact wp_eq rfl (h2) | exact wpo rfl (h2)
theorem s_setIx {i : Nat} (h : Wp (p e) (fun d e1 => (∃ t xs, e1[i]? = some (.own t (.lst xs))) ∧ Wp (q e1) (fun k e2 => ∃ t xs n j, e2[i]? = some (.own t (.lst xs)) ∧ k = .int n ∧ ixN xs.length n = some j ∧ Q .nx (e2.set i (.own t (.lst (xs.set j d))))) X) X) : Wp (sSetIx i q p e) Q X := by
  refine wp_bind (wp_mid h fun d e1 ⟨⟨t, xs, h1⟩, h2⟩ => ?_)
  rw [h1]
  refine wp_bind (wp_mid h2 fun k e2 ⟨t, xs, n, j, g1, g2, g3, g4⟩ => ?_)
  subst g2
  rw [g1]
  show Wp (match ixN xs.length n with
    | some j => .ok .nx (e2.set i (.own t (.lst (xs.set j d))))
    | none => .bad) Q X
  rw [g3]
  first | exact g4 | exact wp_eq rfl (g4) | exact wpo rfl (g4)
theorem s_for {t : XG} {b : XS} (h : Wp (pi e) (fun ds e1 => Wp (forD t b ds e1) Q X) X) : Wp (sFor pi t b e) Q X := wp_bind h
def lpk (I : En → Prop) (Q : Fl → En → Prop) : Fl → En → Prop
  | .nx, e => I e
  | .ct, e => I e
  | .bk, e => Q .nx e
  | .rt d, e => Q (.rt d) e
  | .rn ds, e => Q (.rn ds) e
theorem lpk_nx {I : En → Prop} (h : I e) : lpk I Q .nx e := h
theorem lpk_ct {I : En → Prop} (h : I e) : lpk I Q .ct e := h
theorem lpk_bk {I : En → Prop} (h : Q .nx e) : lpk I Q .bk e := h
theorem lpk_rt {I : En → Prop} (h : Q (.rt d) e) : lpk I Q (.rt d) e := h
theorem lpk_rn {I : En → Prop} (h : Q (.rn ds) e) : lpk I Q (.rn ds) e := h
theorem f_goA {γ : Type} {t : XG} {b : XS} {f : γ → D} {all : List γ} (I : List γ → En → Prop)
    (hs : ∀ done a rest e, all = done ++ a :: rest → I done e → ∃ e1, t (f a) e = some e1 ∧ Wp (b e1) (lpk (I (done ++ [a])) Q) X)
    (hd : ∀ e, I all e → Q .nx e) : ∀ (rest done : List γ) (e : En), all = done ++ rest → I done e → Wp (forD t b (rest.map f) e) Q X
  | [], done, e, ha, h => wp_eq rfl (hd e (by rw [ha, List.append_nil]; exact h))
  | a :: rest, done, e, ha, h => by
    obtain ⟨e1, h1, h2⟩ := hs done a rest e ha h
    rw [List.map_cons]
    unfold forD
    rw [h1]
    refine wp_bind (wp_mid h2 fun fl e2 k => ?_)
    cases fl with
    | nx => exact f_goA I hs hd rest (done ++ [a]) e2 (by rw [ha, app_cons]) k
    | ct => exact f_goA I hs hd rest (done ++ [a]) e2 (by rw [ha, app_cons]) k
    | bk => exact wp_eq rfl k
    | rt d => exact wp_eq rfl k
    | rn d => exact wp_eq rfl k
/-- a loop by an invariant: what was gone through, the slots -/
theorem f_go {γ : Type} {t : XG} {b : XS} {f : γ → D} {all : List γ} (I : List γ → En → Prop) (h0 : I [] e)
    (hs : ∀ done a rest e, all = done ++ a :: rest → I done e → ∃ e1, t (f a) e = some e1 ∧ Wp (b e1) (lpk (I (done ++ [a])) Q) X)
    (hd : ∀ e, I all e → Q .nx e) : Wp (forD t b (all.map f) e) Q X := f_goA I hs hd all [] e rfl h0
end
/-! ### calls -/
section
variable {Q : List Ar → En → Prop}
theorem r_nil (k : Q [] e) : Wp (rNil e) Q X := wp_eq rfl k
theorem r_cons {qr : XR} (h : Wp (p e) (fun d e1 => Wp (qr e1) (fun ds e2 => Q (.d d :: ds) e2) X) X) : Wp (rCons p qr e) Q X := wp_bind (wp_mid h fun _ _ h => wp_map h)
theorem r_io {qr : XR} {i : Nat} {t : Option Nat} {o : Ob} (h0 : e[i]? = some (.own t o)) (h : Wp (qr e) (fun ds e2 => Q (.io i :: ds) e2) X) : Wp (rIo i qr e) Q X := by
  unfold rIo
  rw [h0]
  exact wp_map h
theorem r_scr {qr : XR} {i : Nat} (h0 : e[i]? = some (.scr xs)) (h : Wp (qr e) (fun ds e2 => Q (.scr xs :: ds) e2) X) : Wp (rScr i qr e) Q X := by
  unfold rScr
  rw [h0]
  exact wp_map h
end
/-- the call itself, its arguments told -/
def Cl (n nio : Nat) (F : List Sl → RF) (as : List Ar) (e : En) : R D := if as.length = n ∧ (ios as).length = nio then match resolve e as 0 with
  | some args => behind e as (F args)
  | none => .bad
  else .bad
def ClN (n nio : Nat) (F : List Sl → RF) (as : List Ar) (e : En) : R (List D) := if as.length = n ∧ (ios as).length = nio then match resolve e as 0 with
  | some args => behindN e as (F args)
  | none => .bad
  else .bad
theorem w_fn {n nio : Nat} {F : List Sl → RF} {qr : XR} {Q : D → En → Prop} (h : Wp (qr e) (fun as e1 => Wp (Cl n nio F as e1) Q X) X) : Wp (eFn n nio F qr e) Q X := wp_bind h
theorem n_fn {n nio : Nat} {F : List Sl → RF} {qr : XR} {Q : List D → En → Prop} (h : Wp (qr e) (fun as e1 => Wp (ClN n nio F as e1) Q X) X) : Wp (nFn n nio F qr e) Q X := wp_bind h
section
variable {n : Nat} {F : List Sl → RF} {as : List Ar} {args : List Sl} {os : List Ob} {Q : D → En → Prop}
theorem c_ok (hF : F args = .ok d os) (k : Q d e) (hn : as.length = n := by rfl) (hi : ios as = [] := by rfl) (hr : resolve e as 0 = some args := by rfl) : Wp (Cl n 0 F as e) Q X := by
  unfold Cl
  rw [if_pos ⟨hn, by rw [hi]; rfl⟩, hr]
  show Wp (behind e as (F args)) Q X
  rw [hF]; unfold behind; rw [hi]; exact wp_eq rfl k
theorem c_new (hF : F args = .new ds os) (k : Q (.list ds) e) (hn : as.length = n := by rfl) (hi : ios as = [] := by rfl) (hr : resolve e as 0 = some args := by rfl) : Wp (Cl n 0 F as e) Q X := by
  unfold Cl
  rw [if_pos ⟨hn, by rw [hi]; rfl⟩, hr]
  show Wp (behind e as (F args)) Q X
  rw [hF]; unfold behind; rw [hi]; exact wp_eq rfl k
theorem c_newN {Q : List D → En → Prop} (hF : F args = .new ds os) (k : Q ds e) (hn : as.length = n := by rfl) (hi : ios as = [] := by rfl) (hr : resolve e as 0 = some args := by rfl) : Wp (ClN n 0 F as e) Q X := by
  unfold ClN
  rw [if_pos ⟨hn, by rw [hi]; rfl⟩, hr]
  show Wp (behindN e as (F args)) Q X
  rw [hF]; unfold behindN; rw [hi]; exact wp_eq rfl k
theorem c_io {i : Nat} {t : Option Nat} {o o' : Ob} (hF : F args = .ok d [o']) (k : Q d (e.set i (.own t o'))) (h0 : e[i]? = some (.own t o) := by rfl) (hn : as.length = n := by rfl) (hi : ios as = [i] := by rfl) (hr : resolve e as 0 = some args := by rfl) : Wp (Cl n 1 F as e) Q X := by
  unfold Cl
  rw [if_pos ⟨hn, by rw [hi]; rfl⟩, hr]
  show Wp (behind e as (F args)) Q X
  rw [hF]; unfold behind; rw [hi]
  show Wp (match putO e i o' with | some e' => R.ok d e' | none => .bad) Q X
  unfold putO; rw [h0]; exact wp_eq rfl k
theorem c_ioV {i : Nat} {t : Option Nat} {o o' : Ob} (hF : F args = .new ds [o']) (k : Q (.list ds) (e.set i (.own t o'))) (h0 : e[i]? = some (.own t o) := by rfl) (hn : as.length = n := by rfl) (hi : ios as = [i] := by rfl) (hr : resolve e as 0 = some args := by rfl) : Wp (Cl n 1 F as e) Q X := by
  unfold Cl
  rw [if_pos ⟨hn, by rw [hi]; rfl⟩, hr]
  show Wp (behind e as (F args)) Q X
  rw [hF]; unfold behind; rw [hi]
  show Wp (match putO e i o' with | some e' => R.ok (.list ds) e' | none => .bad) Q X
  unfold putO; rw [h0]; exact wp_eq rfl k
theorem c_ioN {i : Nat} {t : Option Nat} {o o' : Ob} {Q : List D → En → Prop} (hF : F args = .new ds [o']) (k : Q ds (e.set i (.own t o'))) (h0 : e[i]? = some (.own t o) := by rfl) (hn : as.length = n := by rfl) (hi : ios as = [i] := by rfl) (hr : resolve e as 0 = some args := by rfl) : Wp (ClN n 1 F as e) Q X := by
  unfold ClN
  rw [if_pos ⟨hn, by rw [hi]; rfl⟩, hr]
  show Wp (behindN e as (F args)) Q X
  rw [hF]; unfold behindN; rw [hi]
  show Wp (match putO e i o' with | some e' => R.ok ds e' | none => .bad) Q X
  unfold putO; rw [h0]; exact wp_eq rfl k
end
/-! ### a body -/
def fin (nio : Nat) (Q : RF → Prop) : Fl → En → Prop
  | .rt d, e => WpO (outsOf nio e) fun os => Q (.ok d os)
  | .nx, e => WpO (outsOf nio e) fun os => Q (.ok .none os)
  | .rn ds, e => WpO (outsOf nio e) fun os => Q (.new ds os)
  | _, _ => False
theorem fin_rt {nio : Nat} {Q : RF → Prop} {os : List Ob} (h : Q (.ok d os)) (ho : outsOf nio e = some os := by rfl) : fin nio Q (.rt d) e := wpo ho h
theorem fin_nx {nio : Nat} {Q : RF → Prop} {os : List Ob} (h : Q (.ok .none os)) (ho : outsOf nio e = some os := by rfl) : fin nio Q .nx e := wpo ho h
theorem fin_rn {nio : Nat} {Q : RF → Prop} {os : List Ob} (h : Q (.new ds os)) (ho : outsOf nio e = some os := by rfl) : fin nio Q (.rn ds) e := wpo ho h
theorem b_run {n nio : Nat} {b : XS} {args : List Sl} {Q : RF → Prop} (h : Wp (b (args ++ List.replicate (n - args.length) .un)) (fin nio Q) NX) : Q (runF n nio b args) := by
  unfold runF
  obtain ⟨f, e, h1, h⟩ := wp_out h
  rw [h1]
  cases f with
  | bk => exact h.elim
  | ct => exact h.elim
  | nx => obtain ⟨os, h1, h2⟩ := wpo_out h; simp only [h1]; exact h2
  | rt d => obtain ⟨os, h1, h2⟩ := wpo_out h; simp only [h1]; exact h2
  | rn d => obtain ⟨os, h1, h2⟩ := wpo_out h; simp only [h1]; exact h2
theorem nox_ok {F : RF} {d : D} {os : List Ob} (h : F = .ok d os) : F.nox = .ok d os := by rw [h]; rfl
theorem nox_new {F : RF} {d : List D} {os : List Ob} (h : F = .new d os) : F.nox = .new d os := by rw [h]; rfl
end
/-! ### data -/
section
variable {Q : D → Prop} {i j : Int} {xs ys : List D}
theorem o_addI (k : Q (.int (i + j))) : WpO (dAdd (.int i) (.int j)) Q := wpo rfl k
theorem o_subI (k : Q (.int (i - j))) : WpO (dSub (.int i) (.int j)) Q := wpo rfl k
theorem o_mulI (h : CMul i j) (k : Q (.int (i * j))) : WpO (dMul (.int i) (.int j)) Q := wpo (by rw [dMul_int, if_pos h]) k
theorem o_modI (h : 0 < j) (k : Q (.int (i % j))) : WpO (dMod (.int i) (.int j)) Q := wpo (by rw [dMod_int, if_pos h]) k
theorem o_divI (h : CDiv i j) (k : Q (.int (i / j))) : WpO (dDiv (.int i) (.int j)) Q := wpo (by rw [dDiv_int, if_pos h]) k
theorem o_shlI (h : CPow i j) (k : Q (.int (i * 2 ^ j.toNat))) : WpO (dShl (.int i) (.int j)) Q := wpo (by rw [dShl_int, if_pos h]) k
theorem o_powI (h : CPow i j) (k : Q (.int (i ^ j.toNat))) : WpO (dPow (.int i) (.int j)) Q := wpo (by rw [dPow_int, if_pos h]) k
theorem o_shrI (h : 0 ≤ j) (k : Q (.int (i / 2 ^ j.toNat))) : WpO (dShr (.int i) (.int j)) Q := wpo (by rw [dShr_int, if_pos h]) k
theorem o_ltI (k : Q (.bool (decide (i < j)))) : WpO (dLt (.int i) (.int j)) Q := wpo rfl k
theorem o_leI (k : Q (.bool (decide (i ≤ j)))) : WpO (dLe (.int i) (.int j)) Q := wpo rfl k
theorem o_gtI (k : Q (.bool (decide (j < i)))) : WpO (dGt (.int i) (.int j)) Q := wpo rfl k
theorem o_geI (k : Q (.bool (decide (j ≤ i)))) : WpO (dGe (.int i) (.int j)) Q := wpo rfl k
theorem o_eqI (k : Q (.bool (decide (i = j)))) : WpO (dEq (.int i) (.int j)) Q := wpo rfl k
theorem o_neI (k : Q (.bool (!decide (i = j)))) : WpO (dNe (.int i) (.int j)) Q := wpo rfl k
theorem o_eqS {a b : List Nat} (k : Q (.bool (decide (a = b)))) : WpO (dEq (.str (tx a)) (.str (tx b))) Q := wpo (by rw [dEq_str]) (by simpa using k)
theorem o_neS {a b : List Nat} (k : Q (.bool (!decide (a = b)))) : WpO (dNe (.str (tx a)) (.str (tx b))) Q := wpo (by rw [dNe_str]) (by simpa using k)
theorem o_addS {a b : List Nat} (h : a.length + b.length ≤ 1000000) (k : Q (.str (tx (a ++ b)))) : WpO (dAdd (.str (tx a)) (.str (tx b))) Q := wpo (dAdd_tx h) k
theorem o_addL (h : xs.length + ys.length ≤ 1000000) (k : Q (.list (xs ++ ys))) : WpO (dAdd (.list xs) (.list ys)) Q := wpo (by rw [dAdd_list, if_pos (le_line h)]) k
theorem o_lenL (k : Q (.int (xs.length : Nat))) : WpO (dLen [.list xs]) Q := wpo rfl k
theorem o_lenT (k : Q (.int (xs.length : Nat))) : WpO (dLen [.tuple xs]) Q := wpo rfl k
theorem o_lenS {a : List Nat} (h : a.length ≤ 1000000) (k : Q (.int (a.length : Nat))) : WpO (dLen [.str (tx a)]) Q := wpo (by rw [dLen_str, if_pos (by rw [tx_len]; exact le_line h)]; rfl) k
theorem atN {γ : Type} {l : List γ} {n : Nat} (h : n < l.length) : atI l (n : Int) = some l[n] := by
  unfold atI ixN
  rw [if_pos (by omega), if_pos (by omega)]
  simp [h]
theorem o_ixL {n : Nat} (h : n < xs.length) (k : Q xs[n]) : WpO (dIx (.list xs) (.int (n : Nat))) Q := wpo (by rw [dIx_list]; exact atN h) k
theorem o_ixT {n : Nat} (h : n < xs.length) (k : Q xs[n]) : WpO (dIx (.tuple xs) (.int (n : Nat))) Q := wpo (by rw [dIx_tuple]; exact atN h) k
theorem o_ixS {a : List Nat} {n : Nat} (h : n < a.length) (hl : a.length ≤ 1000000) (k : Q (.str (tx [a[n]]))) : WpO (dIx (.str (tx a)) (.int (n : Nat))) Q :=
  wpo (by rw [dIx_str, if_pos (by rw [tx_len]; exact le_line hl), tx_cps, atN h]; rfl) k
theorem o_tupL (k : Q (.tuple xs)) : WpO (dTuple [.list xs]) Q := wpo rfl k
theorem o_tupT (k : Q (.tuple xs)) : WpO (dTuple [.tuple xs]) Q := wpo rfl k
theorem o_gTup (h : xs.length ≤ 1000000) (k : Q (.tuple xs)) : WpO (gTup xs) Q := wpo (by unfold gTup; rw [if_pos (le_line h)]) k
theorem o_gLst (h : xs.length ≤ 1000000) (k : Q (.list xs)) : WpO (gLst xs) Q := wpo (by unfold gLst; rw [if_pos (le_line h)]) k
theorem o_intI (k : Q (.int i)) : WpO (dInt [.int i]) Q := wpo rfl k
theorem o_intB {b : Bool} (k : Q (.int (if b then 1 else 0))) : WpO (dInt [.bool b]) Q := wpo rfl k
end
section
variable {Q : List D → Prop} {xs : List D}
theorem o_iL (k : Q xs) : WpO (iD (.list xs)) Q := wpo rfl k
theorem o_iT (k : Q xs) : WpO (iD (.tuple xs)) Q := wpo rfl k
theorem o_iS {a : List Nat} (k : Q (a.map fun c => .str (tx [c]))) : WpO (iD (.str (tx a))) Q := wpo rfl k
theorem rg1_map {n : Nat} (h : n ≤ 1000000) : rg1 [.int n] = some ((List.range n).map fun p => .int (p : Nat)) := by rw [rg1_nat h, rgD_nat']
theorem o_lL (k : Q xs) : WpO (lD [.list xs]) Q := wpo rfl k
theorem o_lT (k : Q xs) : WpO (lD [.tuple xs]) Q := wpo rfl k
end
theorem o_gTup0 {Q : D → Prop} (k : Q (.tuple [])) : WpO (gTup []) Q := wpo rfl k
theorem o_gLst0 {Q : D → Prop} (k : Q (.list [])) : WpO (gLst []) Q := wpo rfl k
theorem o_andI {Q : D → Prop} {i j : Int} (k : Q (.int (Builtin.bitAnd i j))) : WpO (dAnd (.int i) (.int j)) Q := wpo rfl k
theorem o_orI {Q : D → Prop} {i j : Int} (k : Q (.int (Builtin.bitOr i j))) : WpO (dOr (.int i) (.int j)) Q := wpo rfl k
theorem o_xorI {Q : D → Prop} {i j : Int} (k : Q (.int (Builtin.bitXor i j))) : WpO (dXor (.int i) (.int j)) Q := wpo rfl k
theorem w_neg {p : XE} {e : En} {X : Xn → En → Prop} {Q : D → En → Prop} (h : Wp (p e) (fun d e1 => ∃ i, d = .int i ∧ Q (.int (-i)) e1) X) : Wp (eNeg p e) Q X := by
  refine wp_bind (wp_mid h fun d e1 ⟨i, hd, k⟩ => ?_)
  subst hd
  exact wp_eq rfl k
theorem o_maxI {Q : D → Prop} {i j : Int} (k : Q (.int (if j > i then j else i))) : WpO (dMax [.int i, .int j]) Q := wpo rfl k
theorem o_minI {Q : D → Prop} {i j : Int} (k : Q (.int (if j < i then j else i))) : WpO (dMin [.int i, .int j]) Q := wpo rfl k
theorem o_absI {Q : D → Prop} {i : Int} (k : Q (.int (if i < 0 then -i else i))) : WpO (dAbs [.int i]) Q := wpo rfl k
/-- both ways of a test -/
theorem ite_d {p : Prop} [Decidable p] {A B : Prop} (h1 : p → A) (h2 : ¬p → B) : (decide p = true → A) ∧ (decide p = false → B) := ⟨fun h => h1 (of_decide_eq_true h), fun h => h2 (of_decide_eq_false h)⟩
theorem ite_nd {p : Prop} [Decidable p] {A B : Prop} (h1 : ¬p → A) (h2 : p → B) : ((!decide p) = true → A) ∧ ((!decide p) = false → B) := ⟨fun h => h1 (by simpa using h), fun h => h2 (by simpa using h)⟩
theorem ite_T {A B : Prop} (h : A) : (true = true → A) ∧ (true = false → B) := ⟨fun _ => h, fun z => Bool.noConfusion z⟩
theorem ite_F {A B : Prop} (h : B) : (false = true → A) ∧ (false = false → B) := ⟨fun z => Bool.noConfusion z, fun _ => h⟩
theorem ite_t {b : Bool} {A B : Prop} (hb : b = true) (h : A) : (b = true → A) ∧ (b = false → B) := ⟨fun _ => h, fun z => (by rw [hb] at z; cases z)⟩
theorem ite_f {b : Bool} {A B : Prop} (hb : b = false) (h : B) : (b = true → A) ∧ (b = false → B) := ⟨fun z => (by rw [hb] at z; cases z), fun _ => h⟩
theorem o_intAI {Q : D → Prop} {i : Int} (k : Q (.int i)) : WpO (dIntA [.int i]) Q := wpo rfl k
theorem o_intAB {Q : D → Prop} {b : Bool} (k : Q (.int (if b then 1 else 0))) : WpO (dIntA [.bool b]) Q := wpo (d := .int (if b then 1 else 0)) (by rfl) k
/-- a cut behind a statement that goes on -/
def nxI (I : En → Prop) : Fl → En → Prop
  | .nx, e => I e
  | _, _ => False
theorem nxI_nx {I : En → Prop} {e : En} (h : I e) : nxI I .nx e := h
theorem s_cut {I : En → Prop} {s1 s2 : XS} {e : En} {Q : Fl → En → Prop} {X : Xn → En → Prop} (h : Wp (s1 e) (nxI I) X) (k : ∀ e1, I e1 → Wp (s2 e1) Q X) : Wp (sSeq s1 s2 e) Q X :=
  s_seq (wp_mid h fun f e1 hI => by
    cases f with
    | nx => exact k e1 hI
    | _ => exact False.elim hI)
theorem o_ixC {Q : D → Prop} {xs : List D} {k : Nat} {d : D} (h : xs[k]? = some d) (q : Q d) : WpO (dIx (.list xs) (.int (@OfNat.ofNat Int k (@instOfNat k)))) Q := by
  have hk : k < xs.length := (List.getElem?_eq_some_iff.mp h).1
  refine wpo (d := d) ?_ q
  show dIx (.list xs) (.int ((k : Nat) : Int)) = _
  rw [dIx_list, atN hk, ← h, List.getElem?_eq_getElem hk]
theorem o_ixLs {Q : D → Prop} {xs : List D} {k : Nat} {d : D} (h : xs[k]? = some d) (q : Q d) : WpO (dIx (.list xs) (.int (k : Nat))) Q := by
  have hk : k < xs.length := (List.getElem?_eq_some_iff.mp h).1
  refine wpo (d := d) ?_ q
  rw [dIx_list, atN hk, ← h, List.getElem?_eq_getElem hk]
theorem o_ixTs {Q : D → Prop} {xs : List D} {k : Nat} {d : D} (h : xs[k]? = some d) (q : Q d) : WpO (dIx (.tuple xs) (.int (k : Nat))) Q := by
  have hk : k < xs.length := (List.getElem?_eq_some_iff.mp h).1
  refine wpo (d := d) ?_ q
  rw [dIx_tuple, atN hk, ← h, List.getElem?_eq_getElem hk]
theorem bitAnd_nat (a b : Nat) : Builtin.bitAnd (a : Int) (b : Int) = ((a &&& b : Nat) : Int) := by
  unfold Builtin.bitAnd
  rw [decide_eq_true (show (0 : Int) ≤ a by omega), decide_eq_true (show (0 : Int) ≤ b by omega)]
  show (((a : Int).toNat &&& (b : Int).toNat : Nat) : Int) = _
  rw [Int.toNat_natCast, Int.toNat_natCast]
theorem bitOr_nat (a b : Nat) : Builtin.bitOr (a : Int) (b : Int) = ((a ||| b : Nat) : Int) := by
  have h : ∀ c : Nat, Builtin.bitNot (c : Int) = -(c : Int) - 1 := fun c => rfl
  have h2 : ∀ c : Nat, Builtin.bitNot (-(c : Int) - 1) = c := fun c => by show -(-(c : Int) - 1) - 1 = c; omega
  unfold Builtin.bitOr
  rw [h, h]
  unfold Builtin.bitAnd
  rw [decide_eq_false (show ¬ (0 : Int) ≤ -(a : Int) - 1 by omega), decide_eq_false (show ¬ (0 : Int) ≤ -(b : Int) - 1 by omega)]
  show Builtin.bitNot (Builtin.bitNot (((Builtin.bitNot (-(a : Int) - 1)).toNat ||| (Builtin.bitNot (-(b : Int) - 1)).toNat : Nat) : Int)) = _
  rw [h2, h2, Int.toNat_natCast, Int.toNat_natCast, h, h2]
theorem bitXor_nat (a b : Nat) : Builtin.bitXor (a : Int) (b : Int) = (((a ||| b) - (a &&& b) : Nat) : Int) := by
  unfold Builtin.bitXor
  rw [bitOr_nat, bitAnd_nat]
  have : a &&& b ≤ a ||| b := Nat.le_trans Nat.and_le_left Nat.left_le_or
  omega
theorem mPop_of {xs : List D} {i : Int} {k : Nat} {y : D} (hb : -(2 ^ 63) ≤ i ∧ i < 2 ^ 63) (hk : ixN xs.length i = some k) (hy : xs[k]? = some y) : mPop xs [.int i] = some (y, xs.eraseIdx k) := by
  show (if -(2 ^ 63) ≤ i ∧ i < 2 ^ 63 then match ixN xs.length i with
    | some k => match xs[k]? with
      | some y => some (y, xs.eraseIdx k)
      | none => none
    | none => none
    else none) = _
  rw [if_pos hb, hk]
  show (match xs[k]? with
      | some y => some (y, xs.eraseIdx k)
      | none => none) = _
  rw [hy]
theorem ixN_nat {n r : Nat} (h : r < n) : ixN n (r : Int) = some r := by
  unfold ixN
  rw [if_pos (by omega), if_pos (by omega)]
  simp
theorem w_lenScr {i : Nat} {xs : List D} {e : En} {X : Xn → En → Prop} {Q : D → En → Prop} (h0 : e[i]? = some (.scr xs)) (k : Q (.int (xs.length : Nat)) e) : Wp (eLenScr i e) Q X := by
  unfold eLenScr; rw [h0]; exact wp_eq rfl k
theorem i_scr {i : Nat} {xs : List D} {e : En} {X : Xn → En → Prop} {Q : List D → En → Prop} (h0 : e[i]? = some (.scr xs)) (k : Q xs e) : Wp (iScr i e) Q X := by
  unfold iScr; rw [h0]; exact wp_eq rfl k
theorem ite_NT {A B : Prop} (h : B) : ((!true) = true → A) ∧ ((!true) = false → B) := ⟨fun z => Bool.noConfusion z, fun _ => h⟩
theorem ite_NF {A B : Prop} (h : A) : ((!false) = true → A) ∧ ((!false) = false → B) := ⟨fun _ => h, fun z => Bool.noConfusion z⟩
end G
set_option Elab.async false
set_option linter.all false
set_option maxRecDepth 100000
namespace G
open PySem PySem.Spec PyProof.Rows L2
def topS (i : Nat) : Stmt := PySem.Challenge.pw_facesparted_k05_whole_faces_and_sets.main.body.getD i (.Pass ⟨0, 0, 0, 0⟩)
abbrev s_corners_of : Stmt := topS 5
abbrev s_how_many : Stmt := topS 6
abbrev s_common_face : Stmt := topS 7
abbrev s_has_all : Stmt := topS 8
abbrev s_joined : Stmt := topS 9
abbrev s_with_sign : Stmt := topS 10
abbrev s_read_set : Stmt := topS 11
abbrev s_set_shown : Stmt := topS 12
abbrev s__law_mix : Stmt := topS 14
abbrev s__law_deck : Stmt := topS 15
abbrev s__law_next : Stmt := topS 16
abbrev s__law_bits : Stmt := topS 17
abbrev s__law_face : Stmt := topS 18
abbrev s__law_otherwise : Stmt := topS 19
abbrev s__law_face_right : Stmt := topS 20
abbrev s__law_two_right : Stmt := topS 21
abbrev s__law_halves_right : Stmt := topS 22
abbrev s_law : Stmt := topS 23
structure Tx (K : Frag) (mg : Str → Option Value) (a : Nat → Addr) (fd : Nat → FuncData) : Prop where
  f_corners_of : Fun K "corners_of" "corners_of" s_corners_of (a 0) (fd 0)
  g_corners_of : mg "corners_of" = some (.ref (a 0))
  f_how_many : Fun K "how_many" "how_many" s_how_many (a 1) (fd 1)
  g_how_many : mg "how_many" = some (.ref (a 1))
  f_common_face : Fun K "common_face" "common_face" s_common_face (a 2) (fd 2)
  g_common_face : mg "common_face" = some (.ref (a 2))
  f_has_all : Fun K "has_all" "has_all" s_has_all (a 3) (fd 3)
  g_has_all : mg "has_all" = some (.ref (a 3))
  f_joined : Fun K "joined" "joined" s_joined (a 4) (fd 4)
  g_joined : mg "joined" = some (.ref (a 4))
  f_with_sign : Fun K "with_sign" "with_sign" s_with_sign (a 5) (fd 5)
  g_with_sign : mg "with_sign" = some (.ref (a 5))
  f_read_set : Fun K "read_set" "read_set" s_read_set (a 6) (fd 6)
  g_read_set : mg "read_set" = some (.ref (a 6))
  f_set_shown : Fun K "set_shown" "set_shown" s_set_shown (a 7) (fd 7)
  g_set_shown : mg "set_shown" = some (.ref (a 7))
  f__law_mix : Fun K "_law_mix" "_law_mix" s__law_mix (a 8) (fd 8)
  g__law_mix : mg "_law_mix" = some (.ref (a 8))
  f__law_deck : Fun K "_law_deck" "_law_deck" s__law_deck (a 9) (fd 9)
  g__law_deck : mg "_law_deck" = some (.ref (a 9))
  f__law_next : Fun K "_law_next" "_law_next" s__law_next (a 10) (fd 10)
  g__law_next : mg "_law_next" = some (.ref (a 10))
  f__law_bits : Fun K "_law_bits" "_law_bits" s__law_bits (a 11) (fd 11)
  g__law_bits : mg "_law_bits" = some (.ref (a 11))
  f__law_face : Fun K "_law_face" "_law_face" s__law_face (a 12) (fd 12)
  g__law_face : mg "_law_face" = some (.ref (a 12))
  f__law_otherwise : Fun K "_law_otherwise" "_law_otherwise" s__law_otherwise (a 13) (fd 13)
  g__law_otherwise : mg "_law_otherwise" = some (.ref (a 13))
  f__law_face_right : Fun K "_law_face_right" "_law_face_right" s__law_face_right (a 14) (fd 14)
  g__law_face_right : mg "_law_face_right" = some (.ref (a 14))
  f__law_two_right : Fun K "_law_two_right" "_law_two_right" s__law_two_right (a 15) (fd 15)
  g__law_two_right : mg "_law_two_right" = some (.ref (a 15))
  f__law_halves_right : Fun K "_law_halves_right" "_law_halves_right" s__law_halves_right (a 16) (fd 16)
  g__law_halves_right : mg "_law_halves_right" = some (.ref (a 16))
  f_law : Fun K "law" "law" s_law (a 17) (fd 17)
  g_law : mg "law" = some (.ref (a 17))
  z_enumerate : mg "enumerate" = none
  z_int : mg "int" = none
  z_len : mg "len" = none
  z_list : mg "list" = none
  z_range : mg "range" = none
  z_set : mg "set" = none
  z_sorted : mg "sorted" = none
  z_sum : mg "sum" = none
  z_tuple : mg "tuple" = none
  z_zip : mg "zip" = none
  k_SET_LENGTHS : ∃ c : Addr, mg "SET_LENGTHS" = some (.ref c) ∧ KT K c [.int 2, .int 4, .int 8, .int 16, .int 32, .int 64]
/-! ### corners_of -/
theorem sc_corners_of : FnScope ["face", "begun", "sign", "choices", "start", "choice"] ["face"] (defScope s_corners_of) := ⟨rfl, rfl, rfl, by decide +kernel, rfl, by decide +kernel, by decide +kernel⟩
def body_corners_of : XS :=
  (sSeq (sSet 1 (eCall gLst (aCons (eC (.str (Str.ofString ""))) aNil)))
  (sSeq (sFor (iOf (eVar 0)) (gN 2) (sSeq (sSet 3 (eIf (tOf (eOp dEq (eVar 2) (eC (.str (Str.ofString "*"))))) (eC (.str (Str.ofString "01"))) (eVar 2)))
  (sSet 1 (eNew (nLc2 (iOf (eVar 1)) (gN 4) (fun e => R.ok true e) (iOf (eVar 3)) (gN 5) (fun e => R.ok true e) (eOp dAdd (eVar 4) (eVar 5)) [4, 5] [5])))))
  (sRet (eCall dTuple (aCons (eVar 1) aNil)))))
theorem b_corners_of {K : Frag} {mg : Str → Option Value} {a : Nat → Addr} {fd : Nat → FuncData} (T : Tx K mg a fd) : Binds K (fd 0) ["face"] [] := T.f_corners_of.binds (ps := ["face"]) fun _ _ _ _ _ _ us hl => match us, hl with | [_], _ => rfl
def run_corners_of : List Sl → RF := runF 6 0 (body_corners_of)
theorem ok_corners_of {P : Program} {w : World} {K : Frag} {mg : Str → Option Value} {base : Heap} {a : Nat → Addr} {fd : Nat → FuncData} (T : Tx K mg a fd) : FnOk P w K mg base CX0 1 (a 0) (fd 0) ["face"] (spF K mg 1 0 fun x => (run_corners_of x).nox) :=
  fn_ok (N := ["face", "begun", "sign", "choices", "start", "choice"]) (b := (body_corners_of)) T.f_corners_of sc_corners_of fun cdv A outer s H E hr =>
  (sb_cons (ss_set (i := 1) sc_corners_of.nd rfl (by first | exact Or.inl rfl | exact Or.inr rfl) (se_lst (sa_cons se_str sa_nil)))
  (sb_cons (ss_for PassesOwn.never rfl (si_dat (se_var (pv 0))) (sg_name (i := 2) sc_corners_of.nd rfl (by first | exact Or.inl rfl | exact Or.inr rfl)) (sb_cons (ss_set (i := 3) sc_corners_of.nd rfl (by first | exact Or.inl rfl | exact Or.inr rfl) (se_if (st_eq hr.units (se_var (pv 2)) se_str) se_str (se_var (pv 2))))
  (sb_one (ss_setLc2 (i := 1) (own := [("start", 4), ("choice", 5)]) rfl sc_corners_of.nd rfl rfl (sw_true rfl rfl rfl (by decide +kernel)) (si_dat (se_var (pv 1))) (blkOk_by (N := ["face", "begun", "sign", "choices", "start", "choice"]) (own := [("start", 4), ("choice", 5)]) (sc := (defScope s_corners_of)) (by decide +kernel)) (vs1 := [5]) (by simp) (by simp) (by simp) (fun _ _ _ _ _ => (sg_name (i := 4) sc_corners_of.nd rfl (by first | exact Or.inl rfl | exact Or.inr rfl))) (fun _ _ _ _ _ => sts_nil) (fun _ _ _ _ _ => (si_dat (se_var (pv 3)))) (fun _ _ _ _ _ => (sg_name (i := 5) sc_corners_of.nd rfl (by first | exact Or.inl rfl | exact Or.inr rfl))) (fun _ _ _ _ _ => sts_nil) (fun _ _ _ _ _ => (se_add (se_var (pv 4)) (se_var (pv 5))))))))
  (sb_one (ss_ret (se_tuple (by rfl) T.z_tuple (sa_cons (se_var (pv 1)) sa_nil))))))
/-! ### how_many -/
theorem sc_how_many : FnScope ["face"] ["face"] (defScope s_how_many) := ⟨rfl, rfl, rfl, by decide +kernel, rfl, by decide +kernel, by decide +kernel⟩
def body_how_many : XS :=
  (sRet (eOp dShl (eC (.int 1)) (eMeth isStr dCount (eVar 0) (aCons (eC (.str (Str.ofString "*"))) aNil))))
theorem b_how_many {K : Frag} {mg : Str → Option Value} {a : Nat → Addr} {fd : Nat → FuncData} (T : Tx K mg a fd) : Binds K (fd 1) ["face"] [] := T.f_how_many.binds (ps := ["face"]) fun _ _ _ _ _ _ us hl => match us, hl with | [_], _ => rfl
def run_how_many : List Sl → RF := runF 1 0 (body_how_many)
theorem ok_how_many {P : Program} {w : World} {K : Frag} {mg : Str → Option Value} {base : Heap} {a : Nat → Addr} {fd : Nat → FuncData} (T : Tx K mg a fd) : FnOk P w K mg base CX0 1 (a 1) (fd 1) ["face"] (spF K mg 1 0 fun x => (run_how_many x).nox) :=
  fn_ok (N := ["face"]) (b := (body_how_many)) T.f_how_many sc_how_many fun cdv A outer s H E hr =>
  (sb_one (ss_ret (se_shl se_int (se_count (se_var (pv 0)) (sa_cons se_str sa_nil)))))
/-! ### common_face -/
theorem sc_common_face : FnScope ["one", "other", "signs", "left", "right"] ["one", "other"] (defScope s_common_face) := ⟨rfl, rfl, rfl, by decide +kernel, rfl, by decide +kernel, by decide +kernel⟩
def body_common_face : XS :=
  (sSeq (sOwn 2 (nLst aNil))
  (sSeq (sFor (iArgs gZip (aCons (eVar 0) (aCons (eVar 1) aNil))) (gT 2 (gsCons (gN 3) (gsCons (gN 4) gsNil))) (sIf (tOr (tOf (eOp dEq (eVar 3) (eVar 4))) (tOf (eOp dEq (eVar 4) (eC (.str (Str.ofString "*")))))) (sExpr (eMut 2 mAppend (aCons (eVar 3) aNil))) (sIf (tOf (eOp dEq (eVar 3) (eC (.str (Str.ofString "*"))))) (sExpr (eMut 2 mAppend (aCons (eVar 4) aNil))) (sRet (eC .none)))))
  (sRet (eMeth isStr dJoin (eC (.str (Str.ofString ""))) (aCons (eVar 2) aNil)))))
theorem b_common_face {K : Frag} {mg : Str → Option Value} {a : Nat → Addr} {fd : Nat → FuncData} (T : Tx K mg a fd) : Binds K (fd 2) ["one", "other"] [] := T.f_common_face.binds (ps := ["one", "other"]) fun _ _ _ _ _ _ us hl => match us, hl with | [_, _], _ => rfl
def run_common_face : List Sl → RF := runF 5 0 (body_common_face)
theorem ok_common_face {P : Program} {w : World} {K : Frag} {mg : Str → Option Value} {base : Heap} {a : Nat → Addr} {fd : Nat → FuncData} (T : Tx K mg a fd) : FnOk P w K mg base CX0 1 (a 2) (fd 2) ["one", "other"] (spF K mg 2 0 fun x => (run_common_face x).nox) :=
  fn_ok (N := ["one", "other", "signs", "left", "right"]) (b := (body_common_face)) T.f_common_face sc_common_face fun cdv A outer s H E hr =>
  (sb_cons (ss_own (i := 2) sc_common_face.nd rfl (by first | exact Or.inl rfl | exact Or.inr rfl) (sn_lst sa_nil))
  (sb_cons (ss_for PassesOwn.never rfl (si_zip (by rfl) T.z_zip (sa_cons (se_var (pv 0)) (sa_cons (se_var (pv 1)) sa_nil))) (sg_tup rfl (sgs_cons (sg_name (i := 3) sc_common_face.nd rfl (by first | exact Or.inl rfl | exact Or.inr rfl)) (sgs_cons (sg_name (i := 4) sc_common_face.nd rfl (by first | exact Or.inl rfl | exact Or.inr rfl)) sgs_nil))) (sb_one (ss_if (st_bool (sw_or (st_eq hr.units (se_var (pv 3)) (se_var (pv 4))) (sw_or1 (st_eq hr.units (se_var (pv 4)) se_str)))) (sb_one (ss_expr (se_append (pv 2) (sa_cons (se_var (pv 3)) sa_nil)))) (sb_one (ss_if (st_eq hr.units (se_var (pv 3)) se_str) (sb_one (ss_expr (se_append (pv 2) (sa_cons (se_var (pv 4)) sa_nil)))) (sb_one (ss_ret se_non)))))))
  (sb_one (ss_ret (se_join se_str (sa_cons (se_var (pv 2)) sa_nil))))))
/-! ### has_all -/
theorem sc_has_all : FnScope ["one", "other", "wide", "narrow"] ["one", "other"] (defScope s_has_all) := ⟨rfl, rfl, rfl, by decide +kernel, rfl, by decide +kernel, by decide +kernel⟩
def body_has_all : XS :=
  (sSeq (sFor (iArgs gZip (aCons (eVar 0) (aCons (eVar 1) aNil))) (gT 2 (gsCons (gN 2) (gsCons (gN 3) gsNil))) (sIf (tAnd (tOf (eOp dNe (eVar 2) (eC (.str (Str.ofString "*"))))) (tOf (eOp dNe (eVar 2) (eVar 3)))) (sRet (eC (.bool false))) sNx))
  (sRet (eC (.bool true))))
theorem b_has_all {K : Frag} {mg : Str → Option Value} {a : Nat → Addr} {fd : Nat → FuncData} (T : Tx K mg a fd) : Binds K (fd 3) ["one", "other"] [] := T.f_has_all.binds (ps := ["one", "other"]) fun _ _ _ _ _ _ us hl => match us, hl with | [_, _], _ => rfl
def run_has_all : List Sl → RF := runF 4 0 (body_has_all)
theorem ok_has_all {P : Program} {w : World} {K : Frag} {mg : Str → Option Value} {base : Heap} {a : Nat → Addr} {fd : Nat → FuncData} (T : Tx K mg a fd) : FnOk P w K mg base CX0 1 (a 3) (fd 3) ["one", "other"] (spF K mg 2 0 fun x => (run_has_all x).nox) :=
  fn_ok (N := ["one", "other", "wide", "narrow"]) (b := (body_has_all)) T.f_has_all sc_has_all fun cdv A outer s H E hr =>
  (sb_cons (ss_for PassesOwn.never rfl (si_zip (by rfl) T.z_zip (sa_cons (se_var (pv 0)) (sa_cons (se_var (pv 1)) sa_nil))) (sg_tup rfl (sgs_cons (sg_name (i := 2) sc_has_all.nd rfl (by first | exact Or.inl rfl | exact Or.inr rfl)) (sgs_cons (sg_name (i := 3) sc_has_all.nd rfl (by first | exact Or.inl rfl | exact Or.inr rfl)) sgs_nil))) (sb_one (ss_if (st_bool (sw_and (st_ne hr.units (se_var (pv 2)) se_str) (sw_and1 (st_ne hr.units (se_var (pv 2)) (se_var (pv 3)))))) (sb_one (ss_ret se_bl)) sb_nil)))
  (sb_one (ss_ret se_bl)))
/-! ### with_sign -/
theorem sc_with_sign : FnScope ["face", "place", "sign"] ["face", "place", "sign"] (defScope s_with_sign) := ⟨rfl, rfl, rfl, by decide +kernel, rfl, by decide +kernel, by decide +kernel⟩
def body_with_sign : XS :=
  (sRet (eOp dAdd (eOp dAdd (eSl dSlA (eVar 0) oNone (oSome (eVar 1))) (eVar 2)) (eSl dSlA (eVar 0) (oSome (eOp dAdd (eVar 1) (eC (.int 1)))) oNone)))
theorem b_with_sign {K : Frag} {mg : Str → Option Value} {a : Nat → Addr} {fd : Nat → FuncData} (T : Tx K mg a fd) : Binds K (fd 5) ["face", "place", "sign"] [] := T.f_with_sign.binds (ps := ["face", "place", "sign"]) fun _ _ _ _ _ _ us hl => match us, hl with | [_, _, _], _ => rfl
def run_with_sign : List Sl → RF := runF 3 0 (body_with_sign)
theorem ok_with_sign {P : Program} {w : World} {K : Frag} {mg : Str → Option Value} {base : Heap} {a : Nat → Addr} {fd : Nat → FuncData} (T : Tx K mg a fd) : FnOk P w K mg base CX0 1 (a 5) (fd 5) ["face", "place", "sign"] (spF K mg 3 0 fun x => (run_with_sign x).nox) :=
  fn_ok (N := ["face", "place", "sign"]) (b := (body_with_sign)) T.f_with_sign sc_with_sign fun cdv A outer s H E hr =>
  (sb_one (ss_ret (se_add (se_add (se_sliceA (se_var (pv 0)) so_none (so_some (se_var (pv 1)))) (se_var (pv 2))) (se_sliceA (se_var (pv 0)) (so_some (se_add (se_var (pv 1)) se_int)) so_none))))
/-! ### joined -/
theorem sc_joined : FnScope ["one", "other", "places", "at", "place", "left", "right"] ["one", "other"] (defScope s_joined) := ⟨rfl, rfl, rfl, by decide +kernel, rfl, by decide +kernel, by decide +kernel⟩
def body_joined (c_with_sign : List Sl → RF) : XS :=
  (sSeq (sSet 2 (eNew (nLc (iArgs gEnumZ (aCons (eVar 0) (aCons (eVar 1) aNil))) (gT 2 (gsCons (gN 4) (gsCons (gT 2 (gsCons (gN 5) (gsCons (gN 6) gsNil))) gsNil))) (tOf (eOp dNe (eVar 5) (eVar 6))) (eVar 4) [4, 5, 6])))
  (sSeq (sIf (tOf (eOp dNe (eCall dLen (aCons (eVar 2) aNil)) (eC (.int 1)))) (sRet (eC .none)) sNx)
  (sSeq (sSet 3 (eOp dIx (eVar 2) (eC (.int 0))))
  (sSeq (sIf (tOr (tOf (eOp dEq (eOp dIx (eVar 0) (eVar 3)) (eC (.str (Str.ofString "*"))))) (tOf (eOp dEq (eOp dIx (eVar 1) (eVar 3)) (eC (.str (Str.ofString "*")))))) (sRet (eC .none)) sNx)
  (sRet (eFn 3 0 c_with_sign (rCons (eVar 0) (rCons (eVar 3) (rCons (eC (.str (Str.ofString "*"))) rNil)))))))))
theorem b_joined {K : Frag} {mg : Str → Option Value} {a : Nat → Addr} {fd : Nat → FuncData} (T : Tx K mg a fd) : Binds K (fd 4) ["one", "other"] [] := T.f_joined.binds (ps := ["one", "other"]) fun _ _ _ _ _ _ us hl => match us, hl with | [_, _], _ => rfl
def run_joined : List Sl → RF := runF 7 0 (body_joined (fun a => (run_with_sign a).nox))
theorem ok_joined {P : Program} {w : World} {K : Frag} {mg : Str → Option Value} {base : Heap} {a : Nat → Addr} {fd : Nat → FuncData} (T : Tx K mg a fd) : FnOk P w K mg base CX0 2 (a 4) (fd 4) ["one", "other"] (spF K mg 2 0 fun x => (run_joined x).nox) :=
  fn_ok (N := ["one", "other", "places", "at", "place", "left", "right"]) (b := (body_joined (fun a => (run_with_sign a).nox))) T.f_joined sc_joined fun cdv A outer s H E hr =>
  (sb_cons (ss_setLc (i := 2) (own := [("place", 4), ("left", 5), ("right", 6)]) rfl sc_joined.nd rfl rfl (sw_true rfl rfl rfl (by decide +kernel)) (si_enumZ (by rfl) T.z_enumerate (by rfl) T.z_zip (sa_cons (se_var (pv 0)) (sa_cons (se_var (pv 1)) sa_nil))) (blkOk_by (N := ["one", "other", "places", "at", "place", "left", "right"]) (own := [("place", 4), ("left", 5), ("right", 6)]) (sc := (defScope s_joined)) (by decide +kernel)) (by simp) (fun _ _ _ _ _ => (sg_tup rfl (sgs_cons (sg_name (i := 4) sc_joined.nd rfl (by first | exact Or.inl rfl | exact Or.inr rfl)) (sgs_cons (sg_tup rfl (sgs_cons (sg_name (i := 5) sc_joined.nd rfl (by first | exact Or.inl rfl | exact Or.inr rfl)) (sgs_cons (sg_name (i := 6) sc_joined.nd rfl (by first | exact Or.inl rfl | exact Or.inr rfl)) sgs_nil))) sgs_nil)))) (fun _ _ _ _ _ => (sts_one (st_ne hr.units (se_var (pv 5)) (se_var (pv 6))))) (fun _ _ _ _ _ => (se_var (pv 4))))
  (sb_cons (ss_if (st_ne hr.units (se_len (by rfl) T.z_len (sa_cons (se_var (pv 2)) sa_nil)) se_int) (sb_one (ss_ret se_non)) sb_nil)
  (sb_cons (ss_set (i := 3) sc_joined.nd rfl (by first | exact Or.inl rfl | exact Or.inr rfl) (se_ixA (se_var (pv 2)) se_int (fun _ _ => rfl)))
  (sb_cons (ss_if (st_bool (sw_or (st_eq hr.units (se_ixA (se_var (pv 0)) (se_var (pv 3)) (fun _ _ => rfl)) se_str) (sw_or1 (st_eq hr.units (se_ixA (se_var (pv 1)) (se_var (pv 3)) (fun _ _ => rfl)) se_str)))) (sb_one (ss_ret se_non)) sb_nil)
  (sb_one (ss_ret (se_fn (ok_with_sign T) (hr.mono (by decide)) (by rfl) T.g_with_sign T.f_with_sign.kp (b_with_sign T) (sr_cons (se_var (pv 0)) (sr_cons (se_var (pv 3)) (sr_cons se_str sr_nil))))))))))
/-! ### read_set -/
theorem sc_read_set : FnScope ["text", "place", "sign", "length", "bits", "whole", "corner", "mark"] ["text"] (defScope s_read_set) := ⟨rfl, rfl, rfl, by decide +kernel, rfl, by decide +kernel, by decide +kernel⟩
def body_read_set (c_corners_of : List Sl → RF) : XS :=
  (sSeq (sFor (iArgs gEnum (aCons (eVar 0) aNil)) (gT 2 (gsCons (gN 1) (gsCons (gN 2) gsNil))) (sIf (tAnd (tOf (eOp dNe (eVar 2) (eC (.str (Str.ofString "0"))))) (tOf (eOp dNe (eVar 2) (eC (.str (Str.ofString "1")))))) sBad sNx))
  (sSeq (sSet 3 (eCall dLen (aCons (eVar 0) aNil)))
  (sSeq (sIf (tOf (eOp dNin (eVar 3) (eC (.tuple [.int 2, .int 4, .int 8, .int 16, .int 32, .int 64])))) sBad sNx)
  (sSeq (sSet 4 (eOp dSub (eBits (eVar 3)) (eC (.int 1))))
  (sSeq (sSet 5 (eFn 1 0 c_corners_of (rCons (eOp dMulS (eC (.str (Str.ofString "*"))) (eVar 4)) rNil)))
  (sRet (eCall gTup (aCons (eVar 4) (aCons (eCall dTuple (aCons (eNew (nLc (iArgs gZip (aCons (eVar 5) (aCons (eVar 0) aNil))) (gT 2 (gsCons (gN 6) (gsCons (gN 7) gsNil))) (tOf (eOp dEq (eVar 7) (eC (.str (Str.ofString "1"))))) (eVar 6) [6, 7])) aNil)) aNil)))))))))
theorem b_read_set {K : Frag} {mg : Str → Option Value} {a : Nat → Addr} {fd : Nat → FuncData} (T : Tx K mg a fd) : Binds K (fd 6) ["text"] [] := T.f_read_set.binds (ps := ["text"]) fun _ _ _ _ _ _ us hl => match us, hl with | [_], _ => rfl
def run_read_set : List Sl → RF := runF 8 0 (body_read_set (fun a => (run_corners_of a).nox))
theorem ok_read_set {P : Program} {w : World} {K : Frag} {mg : Str → Option Value} {base : Heap} {a : Nat → Addr} {fd : Nat → FuncData} (T : Tx K mg a fd) : FnOk P w K mg base CX0 2 (a 6) (fd 6) ["text"] (spF K mg 1 0 fun x => (run_read_set x).nox) :=
  fn_ok (N := ["text", "place", "sign", "length", "bits", "whole", "corner", "mark"]) (b := (body_read_set (fun a => (run_corners_of a).nox))) T.f_read_set sc_read_set fun cdv A outer s H E hr =>
  (sb_cons (ss_for PassesOwn.never rfl (si_enum (by rfl) T.z_enumerate (sa_cons (se_var (pv 0)) sa_nil)) (sg_tup rfl (sgs_cons (sg_name (i := 1) sc_read_set.nd rfl (by first | exact Or.inl rfl | exact Or.inr rfl)) (sgs_cons (sg_name (i := 2) sc_read_set.nd rfl (by first | exact Or.inl rfl | exact Or.inr rfl)) sgs_nil))) (sb_one (ss_if (st_bool (sw_and (st_ne hr.units (se_var (pv 2)) se_str) (sw_and1 (st_ne hr.units (se_var (pv 2)) se_str)))) (sb_one ss_bad) sb_nil)))
  (sb_cons (ss_set (i := 3) sc_read_set.nd rfl (by first | exact Or.inl rfl | exact Or.inr rfl) (se_len (by rfl) T.z_len (sa_cons (se_var (pv 0)) sa_nil)))
  (sb_cons (ss_if (st_nin (se_var (pv 3)) (se_kt (by rfl) T.k_SET_LENGTHS.choose_spec.1 T.k_SET_LENGTHS.choose_spec.2)) (sb_one ss_bad) sb_nil)
  (sb_cons (ss_set (i := 4) sc_read_set.nd rfl (by first | exact Or.inl rfl | exact Or.inr rfl) (se_sub (se_bits (se_var (pv 3))) se_int))
  (sb_cons (ss_set (i := 5) sc_read_set.nd rfl (by first | exact Or.inl rfl | exact Or.inr rfl) (se_fn (ok_corners_of T) (hr.mono (by decide)) (by rfl) T.g_corners_of T.f_corners_of.kp (b_corners_of T) (sr_cons (se_mulS se_str (se_var (pv 4))) sr_nil)))
  (sb_one (ss_ret (se_tup (sa_cons (se_var (pv 4)) (sa_cons (se_tuple (by rfl) T.z_tuple (sa_cons (se_new (sn_lc (own := [("corner", 6), ("mark", 7)]) rfl sc_read_set.nd (si_zip (by rfl) T.z_zip (sa_cons (se_var (pv 5)) (sa_cons (se_var (pv 0)) sa_nil))) (blkOk_by (N := ["text", "place", "sign", "length", "bits", "whole", "corner", "mark"]) (own := [("corner", 6), ("mark", 7)]) (sc := (defScope s_read_set)) (by decide +kernel)) (by simp) (fun _ _ _ _ _ => (sg_tup rfl (sgs_cons (sg_name (i := 6) sc_read_set.nd rfl (by first | exact Or.inl rfl | exact Or.inr rfl)) (sgs_cons (sg_name (i := 7) sc_read_set.nd rfl (by first | exact Or.inl rfl | exact Or.inr rfl)) sgs_nil)))) (fun _ _ _ _ _ => (sts_one (st_eq hr.units (se_var (pv 7)) se_str))) (fun _ _ _ _ _ => (se_var (pv 6))))) sa_nil)) sa_nil))))))))))
/-! ### set_shown -/
theorem sc_set_shown : FnScope ["some", "bits", "corners", "corner"] ["some"] (defScope s_set_shown) := ⟨rfl, rfl, rfl, by decide +kernel, rfl, by decide +kernel, by decide +kernel⟩
def body_set_shown (c_corners_of : List Sl → RF) : XS :=
  (sSeq (sAsg (gT 2 (gsCons (gN 1) (gsCons (gN 2) gsNil))) (eVar 0))
  (sRet (eMeth isStr dJoin (eC (.str (Str.ofString ""))) (aCons (eNew (nLc (iOf (eFn 1 0 c_corners_of (rCons (eOp dMulS (eC (.str (Str.ofString "*"))) (eVar 1)) rNil))) (gN 3) (fun e => R.ok true e) (eIf (tOf (eOp dIn (eVar 3) (eVar 2))) (eC (.str (Str.ofString "1"))) (eC (.str (Str.ofString "0")))) [3])) aNil))))
theorem b_set_shown {K : Frag} {mg : Str → Option Value} {a : Nat → Addr} {fd : Nat → FuncData} (T : Tx K mg a fd) : Binds K (fd 7) ["some"] [] := T.f_set_shown.binds (ps := ["some"]) fun _ _ _ _ _ _ us hl => match us, hl with | [_], _ => rfl
def run_set_shown : List Sl → RF := runF 4 0 (body_set_shown (fun a => (run_corners_of a).nox))
theorem ok_set_shown {P : Program} {w : World} {K : Frag} {mg : Str → Option Value} {base : Heap} {a : Nat → Addr} {fd : Nat → FuncData} (T : Tx K mg a fd) : FnOk P w K mg base CX0 2 (a 7) (fd 7) ["some"] (spF K mg 1 0 fun x => (run_set_shown x).nox) :=
  fn_ok (N := ["some", "bits", "corners", "corner"]) (b := (body_set_shown (fun a => (run_corners_of a).nox))) T.f_set_shown sc_set_shown fun cdv A outer s H E hr =>
  (sb_cons (ss_asg (se_var (pv 0)) (sg_tup rfl (sgs_cons (sg_name (i := 1) sc_set_shown.nd rfl (by first | exact Or.inl rfl | exact Or.inr rfl)) (sgs_cons (sg_name (i := 2) sc_set_shown.nd rfl (by first | exact Or.inl rfl | exact Or.inr rfl)) sgs_nil))))
  (sb_one (ss_ret (se_join se_str (sa_cons (se_new (sn_lc (own := [("corner", 3)]) rfl sc_set_shown.nd (si_dat (se_fn (ok_corners_of T) (hr.mono (by decide)) (by rfl) T.g_corners_of T.f_corners_of.kp (b_corners_of T) (sr_cons (se_mulS se_str (se_var (pv 1))) sr_nil))) (blkOk_by (N := ["some", "bits", "corners", "corner"]) (own := [("corner", 3)]) (sc := (defScope s_set_shown)) (by decide +kernel)) (by simp) (fun _ _ _ _ _ => (sg_name (i := 3) sc_set_shown.nd rfl (by first | exact Or.inl rfl | exact Or.inr rfl))) (fun _ _ _ _ _ => sts_nil) (fun _ _ _ _ _ => (se_if (st_in (se_var (pv 3)) (se_var (pv 2))) se_str se_str)))) sa_nil)))))
/-! ### _law_mix -/
theorem sc__law_mix : FnScope ["cell", "k", "number"] ["cell", "k"] (defScope s__law_mix) := ⟨rfl, rfl, rfl, by decide +kernel, rfl, by decide +kernel, by decide +kernel⟩
def body__law_mix : XS :=
  (sSeq (sSet 2 (eOp dAdd (eOp dMod (eVar 0) (eC (.int 2147483629))) (eOp dMul (eOp dMul (eC (.int 1000003)) (eVar 1)) (eVar 1))))
  (sSeq (sSet 2 (eOp dMod (eOp dAdd (eVar 2) (eOp dMul (eC (.int 7919)) (eVar 1))) (eC (.int 2147483629))))
  (sSeq (sSet 2 (eOp dMod (eOp dMul (eVar 2) (eVar 2)) (eC (.int 2147483587))))
  (sRet (eOp dDiv (eOp dMod (eOp dMul (eVar 2) (eOp dAdd (eVar 2) (eC (.int 40961)))) (eC (.int 2147483563))) (eC (.int 4)))))))
theorem b__law_mix {K : Frag} {mg : Str → Option Value} {a : Nat → Addr} {fd : Nat → FuncData} (T : Tx K mg a fd) : Binds K (fd 8) ["cell", "k"] [] := T.f__law_mix.binds (ps := ["cell", "k"]) fun _ _ _ _ _ _ us hl => match us, hl with | [_, _], _ => rfl
def run__law_mix : List Sl → RF := runF 3 0 (body__law_mix)
theorem ok__law_mix {P : Program} {w : World} {K : Frag} {mg : Str → Option Value} {base : Heap} {a : Nat → Addr} {fd : Nat → FuncData} (T : Tx K mg a fd) : FnOk P w K mg base CX0 1 (a 8) (fd 8) ["cell", "k"] (spF K mg 2 0 fun x => (run__law_mix x).nox) :=
  fn_ok (N := ["cell", "k", "number"]) (b := (body__law_mix)) T.f__law_mix sc__law_mix fun cdv A outer s H E hr =>
  (sb_cons (ss_set (i := 2) sc__law_mix.nd rfl (by first | exact Or.inl rfl | exact Or.inr rfl) (se_add (se_mod (se_var (pv 0)) se_int) (se_mul (se_mul se_int (se_var (pv 1))) (se_var (pv 1)))))
  (sb_cons (ss_set (i := 2) sc__law_mix.nd rfl (by first | exact Or.inl rfl | exact Or.inr rfl) (se_mod (se_add (se_var (pv 2)) (se_mul se_int (se_var (pv 1)))) se_int))
  (sb_cons (ss_set (i := 2) sc__law_mix.nd rfl (by first | exact Or.inl rfl | exact Or.inr rfl) (se_mod (se_mul (se_var (pv 2)) (se_var (pv 2))) se_int))
  (sb_one (ss_ret (se_div (se_mod (se_mul (se_var (pv 2)) (se_add (se_var (pv 2)) se_int)) se_int) se_int))))))
/-! ### _law_deck -/
theorem sc__law_deck : FnScope ["script"] ["script"] (defScope s__law_deck) := ⟨rfl, rfl, rfl, by decide +kernel, rfl, by decide +kernel, by decide +kernel⟩
def body__law_deck : XS :=
  (sRetN (nLst (aCons (eNew (nSlScr 0 oNone (oSome (eC (.int 63))))) (aCons (eC (.int 0)) (aCons (eC (.int 0)) (aCons (eC (.int 0)) (aCons (eCall dSum (aCons (eNew (nSlScr 0 oNone (oSome (eC (.int 63))))) aNil)) aNil)))))))
theorem b__law_deck {K : Frag} {mg : Str → Option Value} {a : Nat → Addr} {fd : Nat → FuncData} (T : Tx K mg a fd) : Binds K (fd 9) ["script"] [] := T.f__law_deck.binds (ps := ["script"]) fun _ _ _ _ _ _ us hl => match us, hl with | [_], _ => rfl
def run__law_deck : List Sl → RF := runF 1 0 (body__law_deck)
theorem ok__law_deck {P : Program} {w : World} {K : Frag} {mg : Str → Option Value} {base : Heap} {a : Nat → Addr} {fd : Nat → FuncData} (T : Tx K mg a fd) : FnOk P w K mg base CX0 1 (a 9) (fd 9) ["script"] (spF K mg 1 0 fun x => (run__law_deck x).nox) :=
  fn_ok (N := ["script"]) (b := (body__law_deck)) T.f__law_deck sc__law_deck fun cdv A outer s H E hr =>
  (sb_one (ss_retNew (sn_lst (sa_cons (se_new (sn_slScr (pv 0) so_none (so_some se_int))) (sa_cons se_int (sa_cons se_int (sa_cons se_int (sa_cons (se_sum rfl (by rfl) T.z_sum (sa_cons (se_new (sn_slScr (pv 0) so_none (so_some se_int))) sa_nil)) sa_nil))))))))
/-! ### _law_next -/
theorem sc__law_next : FnScope ["deck", "many", "cell", "found"] ["deck", "many"] (defScope s__law_next) := ⟨rfl, rfl, rfl, by decide +kernel, rfl, by decide +kernel, by decide +kernel⟩
def body__law_next (c__law_mix : List Sl → RF) : XS :=
  (sSeq (sIf (tAnd (tOf (eOp dEq (eIxOwn 0 (eC (.int 2))) (eC (.int 0)))) (tOf (eOp dLt (eIxOwn 0 (eC (.int 1))) (eCall dLen (aCons (eIxOwn 0 (eC (.int 0))) aNil))))) (sSeq (sSet 2 (eOp dIx (eIxOwn 0 (eC (.int 0))) (eIxOwn 0 (eC (.int 1)))))
  (sSeq (sSetIx 0 (eC (.int 1)) (eOp dAdd (eIxOwn 0 (eC (.int 1))) (eC (.int 1))))
  (sSeq (sIf (tOf (eOp dLt (eVar 2) (eOp dPow (eC (.int 10)) (eC (.int 18))))) (sRet (eOp dMod (eFn 2 0 c__law_mix (rCons (eVar 2) (rCons (eIxOwn 0 (eC (.int 1))) rNil))) (eVar 1))) sNx)
  (sSetIx 0 (eC (.int 2)) (eVar 2))))) sNx)
  (sSeq (sIf (tOf (eOp dGt (eIxOwn 0 (eC (.int 2))) (eC (.int 0)))) (sSeq (sSet 3 (eOp dMod (eIxOwn 0 (eC (.int 2))) (eVar 1)))
  (sSeq (sSetIx 0 (eC (.int 2)) (eOp dDiv (eIxOwn 0 (eC (.int 2))) (eVar 1)))
  (sRet (eVar 3)))) sNx)
  (sSeq (sSetIx 0 (eC (.int 3)) (eOp dAdd (eIxOwn 0 (eC (.int 3))) (eC (.int 1))))
  (sRet (eOp dMod (eFn 2 0 c__law_mix (rCons (eIxOwn 0 (eC (.int 4))) (rCons (eOp dAdd (eIxOwn 0 (eC (.int 3))) (eC (.int 1061))) rNil))) (eVar 1))))))
theorem b__law_next {K : Frag} {mg : Str → Option Value} {a : Nat → Addr} {fd : Nat → FuncData} (T : Tx K mg a fd) : Binds K (fd 10) ["deck", "many"] [] := T.f__law_next.binds (ps := ["deck", "many"]) fun _ _ _ _ _ _ us hl => match us, hl with | [_, _], _ => rfl
def run__law_next : List Sl → RF := runF 4 1 (body__law_next (fun a => (run__law_mix a).nox))
theorem ok__law_next {P : Program} {w : World} {K : Frag} {mg : Str → Option Value} {base : Heap} {a : Nat → Addr} {fd : Nat → FuncData} (T : Tx K mg a fd) : FnOk P w K mg base CX0 2 (a 10) (fd 10) ["deck", "many"] (spF K mg 2 1 fun x => (run__law_next x).nox) :=
  fn_ok (N := ["deck", "many", "cell", "found"]) (b := (body__law_next (fun a => (run__law_mix a).nox))) T.f__law_next sc__law_next fun cdv A outer s H E hr =>
  (sb_cons (ss_if (st_bool (sw_and (st_eq hr.units (se_ixOwn (pv 0) se_int (fun _ _ => rfl)) se_int) (sw_and1 (st_lt (se_ixOwn (pv 0) se_int (fun _ _ => rfl)) (se_len (by rfl) T.z_len (sa_cons (se_ixOwn (pv 0) se_int (fun _ _ => rfl)) sa_nil)))))) (sb_cons (ss_set (i := 2) sc__law_next.nd rfl (by first | exact Or.inl rfl | exact Or.inr rfl) (se_ixA (se_ixOwn (pv 0) se_int (fun _ _ => rfl)) (se_ixOwn (pv 0) se_int (fun _ _ => rfl)) (fun _ _ => rfl)))
  (sb_cons (ss_setIx (pv 0) se_int (se_add (se_ixOwn (pv 0) se_int (fun _ _ => rfl)) se_int))
  (sb_cons (ss_if (st_lt (se_var (pv 2)) (se_pow se_int se_int)) (sb_one (ss_ret (se_mod (se_fn (ok__law_mix T) (hr.mono (by decide)) (by rfl) T.g__law_mix T.f__law_mix.kp (b__law_mix T) (sr_cons (se_var (pv 2)) (sr_cons (se_ixOwn (pv 0) se_int (fun _ _ => rfl)) sr_nil))) (se_var (pv 1))))) sb_nil)
  (sb_one (ss_setIx (pv 0) se_int (se_var (pv 2))))))) sb_nil)
  (sb_cons (ss_if (st_gt (se_ixOwn (pv 0) se_int (fun _ _ => rfl)) se_int) (sb_cons (ss_set (i := 3) sc__law_next.nd rfl (by first | exact Or.inl rfl | exact Or.inr rfl) (se_mod (se_ixOwn (pv 0) se_int (fun _ _ => rfl)) (se_var (pv 1))))
  (sb_cons (ss_setIx (pv 0) se_int (se_div (se_ixOwn (pv 0) se_int (fun _ _ => rfl)) (se_var (pv 1))))
  (sb_one (ss_ret (se_var (pv 3)))))) sb_nil)
  (sb_cons (ss_setIx (pv 0) se_int (se_add (se_ixOwn (pv 0) se_int (fun _ _ => rfl)) se_int))
  (sb_one (ss_ret (se_mod (se_fn (ok__law_mix T) (hr.mono (by decide)) (by rfl) T.g__law_mix T.f__law_mix.kp (b__law_mix T) (sr_cons (se_ixOwn (pv 0) se_int (fun _ _ => rfl)) (sr_cons (se_add (se_ixOwn (pv 0) se_int (fun _ _ => rfl)) se_int) sr_nil))) (se_var (pv 1))))))))
/-! ### _law_bits -/
theorem sc__law_bits : FnScope ["deck"] ["deck"] (defScope s__law_bits) := ⟨rfl, rfl, rfl, by decide +kernel, rfl, by decide +kernel, by decide +kernel⟩
def body__law_bits (c__law_next : List Sl → RF) : XS :=
  (sRet (eOp dIx (eCall gLst (aCons (eOp dAdd (eC (.int 1)) (eFn 2 1 c__law_next (rIo 0 (rCons (eC (.int 6)) rNil)))) (aCons (eC (.int 6)) (aCons (eOp dAdd (eC (.int 1)) (eFn 2 1 c__law_next (rIo 0 (rCons (eC (.int 3)) rNil)))) aNil)))) (eFn 2 1 c__law_next (rIo 0 (rCons (eC (.int 3)) rNil)))))
theorem b__law_bits {K : Frag} {mg : Str → Option Value} {a : Nat → Addr} {fd : Nat → FuncData} (T : Tx K mg a fd) : Binds K (fd 11) ["deck"] [] := T.f__law_bits.binds (ps := ["deck"]) fun _ _ _ _ _ _ us hl => match us, hl with | [_], _ => rfl
def run__law_bits : List Sl → RF := runF 1 1 (body__law_bits (fun a => (run__law_next a).nox))
theorem ok__law_bits {P : Program} {w : World} {K : Frag} {mg : Str → Option Value} {base : Heap} {a : Nat → Addr} {fd : Nat → FuncData} (T : Tx K mg a fd) : FnOk P w K mg base CX0 3 (a 11) (fd 11) ["deck"] (spF K mg 1 1 fun x => (run__law_bits x).nox) :=
  fn_ok (N := ["deck"]) (b := (body__law_bits (fun a => (run__law_next a).nox))) T.f__law_bits sc__law_bits fun cdv A outer s H E hr =>
  (sb_one (ss_ret (se_ixA (se_lst (sa_cons (se_add se_int (se_fn (ok__law_next T) (hr.mono (by decide)) (by rfl) T.g__law_next T.f__law_next.kp (b__law_next T) (sr_io (pv 0) (sr_cons se_int sr_nil)))) (sa_cons se_int (sa_cons (se_add se_int (se_fn (ok__law_next T) (hr.mono (by decide)) (by rfl) T.g__law_next T.f__law_next.kp (b__law_next T) (sr_io (pv 0) (sr_cons se_int sr_nil)))) sa_nil)))) (se_fn (ok__law_next T) (hr.mono (by decide)) (by rfl) T.g__law_next T.f__law_next.kp (b__law_next T) (sr_io (pv 0) (sr_cons se_int sr_nil))) (fun _ _ => rfl))))
/-! ### _law_face -/
theorem sc__law_face : FnScope ["deck", "bits", "way", "signs", "k"] ["deck", "bits"] (defScope s__law_face) := ⟨rfl, rfl, rfl, by decide +kernel, rfl, by decide +kernel, by decide +kernel⟩
def body__law_face (c__law_next : List Sl → RF) : XS :=
  (sSeq (sSet 2 (eFn 2 1 c__law_next (rIo 0 (rCons (eC (.int 5)) rNil))))
  (sSeq (sSet 3 (eOp dIx (eCall gLst (aCons (eC (.str (Str.ofString "01*"))) (aCons (eC (.str (Str.ofString "01"))) (aCons (eC (.str (Str.ofString "*"))) (aCons (eC (.str (Str.ofString "01010101*"))) (aCons (eC (.str (Str.ofString "01****"))) aNil)))))) (eVar 2)))
  (sRet (eMeth isStr dJoin (eC (.str (Str.ofString ""))) (aCons (eNew (nLc (iArgs rg1 (aCons (eVar 1) aNil)) (gN 4) (fun e => R.ok true e) (eOp dIx (eVar 3) (eFn 2 1 c__law_next (rIo 0 (rCons (eCall dLen (aCons (eVar 3) aNil)) rNil)))) [4])) aNil)))))
theorem b__law_face {K : Frag} {mg : Str → Option Value} {a : Nat → Addr} {fd : Nat → FuncData} (T : Tx K mg a fd) : Binds K (fd 12) ["deck", "bits"] [] := T.f__law_face.binds (ps := ["deck", "bits"]) fun _ _ _ _ _ _ us hl => match us, hl with | [_, _], _ => rfl
def run__law_face : List Sl → RF := runF 5 1 (body__law_face (fun a => (run__law_next a).nox))
theorem ok__law_face {P : Program} {w : World} {K : Frag} {mg : Str → Option Value} {base : Heap} {a : Nat → Addr} {fd : Nat → FuncData} (T : Tx K mg a fd) : FnOk P w K mg base CX0 3 (a 12) (fd 12) ["deck", "bits"] (spF K mg 2 1 fun x => (run__law_face x).nox) :=
  fn_ok (N := ["deck", "bits", "way", "signs", "k"]) (b := (body__law_face (fun a => (run__law_next a).nox))) T.f__law_face sc__law_face fun cdv A outer s H E hr =>
  (sb_cons (ss_set (i := 2) sc__law_face.nd rfl (by first | exact Or.inl rfl | exact Or.inr rfl) (se_fn (ok__law_next T) (hr.mono (by decide)) (by rfl) T.g__law_next T.f__law_next.kp (b__law_next T) (sr_io (pv 0) (sr_cons se_int sr_nil))))
  (sb_cons (ss_set (i := 3) sc__law_face.nd rfl (by first | exact Or.inl rfl | exact Or.inr rfl) (se_ixA (se_lst (sa_cons se_str (sa_cons se_str (sa_cons se_str (sa_cons se_str (sa_cons se_str sa_nil)))))) (se_var (pv 2)) (fun _ _ => rfl)))
  (sb_one (ss_ret (se_join se_str (sa_cons (se_new (sn_lc (own := [("k", 4)]) rfl sc__law_face.nd (si_range1 (by rfl) T.z_range (sa_cons (se_var (pv 1)) sa_nil)) (blkOk_by (N := ["deck", "bits", "way", "signs", "k"]) (own := [("k", 4)]) (sc := (defScope s__law_face)) (by decide +kernel)) (by simp) (fun _ _ _ _ _ => (sg_name (i := 4) sc__law_face.nd rfl (by first | exact Or.inl rfl | exact Or.inr rfl))) (fun _ _ _ _ _ => sts_nil) (fun _ _ _ _ _ => (se_ixA (se_var (pv 3)) (se_fn (ok__law_next T) (hr.mono (by decide)) (by rfl) T.g__law_next T.f__law_next.kp (b__law_next T) (sr_io (pv 0) (sr_cons (se_len (by rfl) T.z_len (sa_cons (se_var (pv 3)) sa_nil)) sr_nil))) (fun _ _ => rfl))))) sa_nil))))))
/-! ### _law_otherwise -/
theorem sc__law_otherwise : FnScope ["face", "order", "turned", "found", "place", "turn"] ["face", "order", "turned"] (defScope s__law_otherwise) := ⟨rfl, rfl, rfl, by decide +kernel, rfl, by decide +kernel, by decide +kernel⟩
def body__law_otherwise : XS :=
  (sSeq (sSet 3 (eC (.str (Str.ofString ""))))
  (sSeq (sFor (iArgs gZip (aCons (eVar 1) (aCons (eVar 2) aNil))) (gT 2 (gsCons (gN 4) (gsCons (gN 5) gsNil))) (sSet 3 (eOp dAdd (eVar 3) (eOp dIx (eCall gLst (aCons (eOp dIx (eVar 0) (eVar 4)) (aCons (eDictC [(.inr (Str.ofString "0"), .inr (Str.ofString "1")), (.inr (Str.ofString "1"), .inr (Str.ofString "0")), (.inr (Str.ofString "*"), .inr (Str.ofString "*"))] (eOp dIx (eVar 0) (eVar 4))) aNil))) (eVar 5)))))
  (sRet (eVar 3))))
theorem b__law_otherwise {K : Frag} {mg : Str → Option Value} {a : Nat → Addr} {fd : Nat → FuncData} (T : Tx K mg a fd) : Binds K (fd 13) ["face", "order", "turned"] [] := T.f__law_otherwise.binds (ps := ["face", "order", "turned"]) fun _ _ _ _ _ _ us hl => match us, hl with | [_, _, _], _ => rfl
def run__law_otherwise : List Sl → RF := runF 6 0 (body__law_otherwise)
theorem ok__law_otherwise {P : Program} {w : World} {K : Frag} {mg : Str → Option Value} {base : Heap} {a : Nat → Addr} {fd : Nat → FuncData} (T : Tx K mg a fd) : FnOk P w K mg base CX0 1 (a 13) (fd 13) ["face", "order", "turned"] (spF K mg 3 0 fun x => (run__law_otherwise x).nox) :=
  fn_ok (N := ["face", "order", "turned", "found", "place", "turn"]) (b := (body__law_otherwise)) T.f__law_otherwise sc__law_otherwise fun cdv A outer s H E hr =>
  (sb_cons (ss_set (i := 3) sc__law_otherwise.nd rfl (by first | exact Or.inl rfl | exact Or.inr rfl) se_str)
  (sb_cons (ss_for PassesOwn.never rfl (si_zip (by rfl) T.z_zip (sa_cons (se_var (pv 1)) (sa_cons (se_var (pv 2)) sa_nil))) (sg_tup rfl (sgs_cons (sg_name (i := 4) sc__law_otherwise.nd rfl (by first | exact Or.inl rfl | exact Or.inr rfl)) (sgs_cons (sg_name (i := 5) sc__law_otherwise.nd rfl (by first | exact Or.inl rfl | exact Or.inr rfl)) sgs_nil))) (sb_one (ss_set (i := 3) sc__law_otherwise.nd rfl (by first | exact Or.inl rfl | exact Or.inr rfl) (se_add (se_var (pv 3)) (se_ixA (se_lst (sa_cons (se_ixA (se_var (pv 0)) (se_var (pv 4)) (fun _ _ => rfl)) (sa_cons (se_dictC (kvs := [(.inr (Str.ofString "0"), .inr (Str.ofString "1")), (.inr (Str.ofString "1"), .inr (Str.ofString "0")), (.inr (Str.ofString "*"), .inr (Str.ofString "*"))]) hr.units (pps_cons pe_str pe_str (pps_cons pe_str pe_str (pps_cons pe_str pe_str pps_nil))) (by decide) (by decide) (se_ixA (se_var (pv 0)) (se_var (pv 4)) (fun _ _ => rfl)) (fun _ _ => rfl)) sa_nil))) (se_var (pv 5)) (fun _ _ => rfl))))))
  (sb_one (ss_ret (se_var (pv 3))))))
/-! ### _law_face_right -/
theorem sc__law_face_right : FnScope ["face", "corners", "bits", "corner"] ["face"] (defScope s__law_face_right) := ⟨rfl, rfl, rfl, by decide +kernel, rfl, by decide +kernel, by decide +kernel⟩
def body__law_face_right (c_corners_of : List Sl → RF) (c_how_many : List Sl → RF) (c_has_all : List Sl → RF) (c_read_set : List Sl → RF) (c_set_shown : List Sl → RF) : XS :=
  (sSeq (sSet 1 (eFn 1 0 c_corners_of (rCons (eVar 0) rNil)))
  (sSeq (sSet 2 (eCall dLen (aCons (eVar 0) aNil)))
  (sSeq (sIf (tOr (tOf (eOp dNe (eCall dLen (aCons (eVar 1) aNil)) (eFn 1 0 c_how_many (rCons (eVar 0) rNil)))) (tOr (tOf (eOp dNe (eCall dLenSet (aCons (eVar 1) aNil)) (eCall dLen (aCons (eVar 1) aNil)))) (tOf (eOp dNe (eNew (nCall lDA (aCons (eVar 1) aNil))) (eNew (nCall sortDA (aCons (eVar 1) aNil))))))) (sRet (eC (.bool false))) sNx)
  (sSeq (sIf (tOr (tOf (eOp dNe (eFn 1 0 c_read_set (rCons (eFn 1 0 c_set_shown (rCons (eCall gTup (aCons (eVar 2) (aCons (eVar 1) aNil))) rNil)) rNil)) (eCall gTup (aCons (eVar 2) (aCons (eVar 1) aNil))))) (tOf (eOp dNe (eFn 1 0 c_corners_of (rCons (eOp dIx (eVar 1) (eC (.int 0))) rNil)) (eSl dSlA (eVar 1) oNone (oSome (eC (.int 1))))))) (sRet (eC (.bool false))) sNx)
  (sRet (eOp dEq (eNew (nLc (iOf (eFn 1 0 c_corners_of (rCons (eOp dMulS (eC (.str (Str.ofString "*"))) (eVar 2)) rNil))) (gN 3) (tOf (eFn 2 0 c_has_all (rCons (eVar 0) (rCons (eVar 3) rNil)))) (eVar 3) [3])) (eNew (nCall lDA (aCons (eVar 1) aNil)))))))))
theorem b__law_face_right {K : Frag} {mg : Str → Option Value} {a : Nat → Addr} {fd : Nat → FuncData} (T : Tx K mg a fd) : Binds K (fd 14) ["face"] [] := T.f__law_face_right.binds (ps := ["face"]) fun _ _ _ _ _ _ us hl => match us, hl with | [_], _ => rfl
def run__law_face_right : List Sl → RF := runF 4 0 (body__law_face_right (fun a => (run_corners_of a).nox) (fun a => (run_how_many a).nox) (fun a => (run_has_all a).nox) (fun a => (run_read_set a).nox) (fun a => (run_set_shown a).nox))
theorem ok__law_face_right {P : Program} {w : World} {K : Frag} {mg : Str → Option Value} {base : Heap} {a : Nat → Addr} {fd : Nat → FuncData} (T : Tx K mg a fd) : FnOk P w K mg base CX0 3 (a 14) (fd 14) ["face"] (spF K mg 1 0 fun x => (run__law_face_right x).nox) :=
  fn_ok (N := ["face", "corners", "bits", "corner"]) (b := (body__law_face_right (fun a => (run_corners_of a).nox) (fun a => (run_how_many a).nox) (fun a => (run_has_all a).nox) (fun a => (run_read_set a).nox) (fun a => (run_set_shown a).nox))) T.f__law_face_right sc__law_face_right fun cdv A outer s H E hr =>
  (sb_cons (ss_set (i := 1) sc__law_face_right.nd rfl (by first | exact Or.inl rfl | exact Or.inr rfl) (se_fn (ok_corners_of T) (hr.mono (by decide)) (by rfl) T.g_corners_of T.f_corners_of.kp (b_corners_of T) (sr_cons (se_var (pv 0)) sr_nil)))
  (sb_cons (ss_set (i := 2) sc__law_face_right.nd rfl (by first | exact Or.inl rfl | exact Or.inr rfl) (se_len (by rfl) T.z_len (sa_cons (se_var (pv 0)) sa_nil)))
  (sb_cons (ss_if (st_bool (sw_or (st_ne hr.units (se_len (by rfl) T.z_len (sa_cons (se_var (pv 1)) sa_nil)) (se_fn (ok_how_many T) (hr.mono (by decide)) (by rfl) T.g_how_many T.f_how_many.kp (b_how_many T) (sr_cons (se_var (pv 0)) sr_nil))) (sw_or (st_ne hr.units (se_lenSet rfl (by rfl) T.z_len (by rfl) T.z_set (sa_cons (se_var (pv 1)) sa_nil)) (se_len (by rfl) T.z_len (sa_cons (se_var (pv 1)) sa_nil))) (sw_or1 (st_ne hr.units (se_new (sn_listA rfl (by rfl) T.z_list (sa_cons (se_var (pv 1)) sa_nil))) (se_new (sn_sortedA hr.units (by rfl) T.z_sorted (sa_cons (se_var (pv 1)) sa_nil)))))))) (sb_one (ss_ret se_bl)) sb_nil)
  (sb_cons (ss_if (st_bool (sw_or (st_ne hr.units (se_fn (ok_read_set T) (hr.mono (by decide)) (by rfl) T.g_read_set T.f_read_set.kp (b_read_set T) (sr_cons (se_fn (ok_set_shown T) (hr.mono (by decide)) (by rfl) T.g_set_shown T.f_set_shown.kp (b_set_shown T) (sr_cons (se_tup (sa_cons (se_var (pv 2)) (sa_cons (se_var (pv 1)) sa_nil))) sr_nil)) sr_nil)) (se_tup (sa_cons (se_var (pv 2)) (sa_cons (se_var (pv 1)) sa_nil)))) (sw_or1 (st_ne hr.units (se_fn (ok_corners_of T) (hr.mono (by decide)) (by rfl) T.g_corners_of T.f_corners_of.kp (b_corners_of T) (sr_cons (se_ixA (se_var (pv 1)) se_int (fun _ _ => rfl)) sr_nil)) (se_sliceA (se_var (pv 1)) so_none (so_some se_int)))))) (sb_one (ss_ret se_bl)) sb_nil)
  (sb_one (ss_ret (se_eq hr.units (se_new (sn_lc (own := [("corner", 3)]) rfl sc__law_face_right.nd (si_dat (se_fn (ok_corners_of T) (hr.mono (by decide)) (by rfl) T.g_corners_of T.f_corners_of.kp (b_corners_of T) (sr_cons (se_mulS se_str (se_var (pv 2))) sr_nil))) (blkOk_by (N := ["face", "corners", "bits", "corner"]) (own := [("corner", 3)]) (sc := (defScope s__law_face_right)) (by decide +kernel)) (by simp) (fun _ _ _ _ _ => (sg_name (i := 3) sc__law_face_right.nd rfl (by first | exact Or.inl rfl | exact Or.inr rfl))) (fun _ _ _ _ _ => (sts_one (st_val (se_fn (ok_has_all T) (hr.mono (by decide)) (by rfl) T.g_has_all T.f_has_all.kp (b_has_all T) (sr_cons (se_var (pv 0)) (sr_cons (se_var (pv 3)) sr_nil)))))) (fun _ _ _ _ _ => (se_var (pv 3))))) (se_new (sn_listA rfl (by rfl) T.z_list (sa_cons (se_var (pv 1)) sa_nil))))))))))
/-! ### _law_two_right -/
theorem sc__law_two_right : FnScope ["one", "other", "first", "second", "both", "common", "great", "corner"] ["one", "other"] (defScope s__law_two_right) := ⟨rfl, rfl, rfl, by decide +kernel, rfl, by decide +kernel, by decide +kernel⟩
def body__law_two_right (c_corners_of : List Sl → RF) (c_common_face : List Sl → RF) (c_has_all : List Sl → RF) (c_joined : List Sl → RF) : XS :=
  (sSeq (sSet 2 (eFn 1 0 c_corners_of (rCons (eVar 0) rNil)))
  (sSeq (sSet 3 (eFn 1 0 c_corners_of (rCons (eVar 1) rNil)))
  (sSeq (sSet 4 (eFn 2 0 c_common_face (rCons (eVar 0) (rCons (eVar 1) rNil))))
  (sSeq (sSet 5 (eNew (nLc (iOf (eVar 2)) (gN 7) (tOf (eOp dIn (eVar 7) (eVar 3))) (eVar 7) [7])))
  (sSeq (sIf (tOr (tAnd (tOf (eIsN (eVar 4))) (tOf (eOp dNe (eVar 5) (eCall gLst aNil)))) (tAnd (tOf (eNotN (eVar 4))) (tOf (eOp dNe (eNew (nCall lDA (aCons (eFn 1 0 c_corners_of (rCons (eVar 4) rNil)) aNil))) (eVar 5))))) (sRet (eC (.bool false))) sNx)
  (sSeq (sIf (tAnd (tOf (eNotN (eVar 4))) (tNot (tAnd (tOf (eFn 2 0 c_has_all (rCons (eVar 0) (rCons (eVar 4) rNil)))) (tOf (eFn 2 0 c_has_all (rCons (eVar 1) (rCons (eVar 4) rNil))))))) (sRet (eC (.bool false))) sNx)
  (sSeq (sIf (tOf (eOp dNe (eFn 2 0 c_has_all (rCons (eVar 0) (rCons (eVar 1) rNil))) (eOp dEq (eVar 4) (eVar 1)))) (sRet (eC (.bool false))) sNx)
  (sSeq (sSet 6 (eFn 2 0 c_joined (rCons (eVar 0) (rCons (eVar 1) rNil))))
  (sSeq (sIf (tOf (eOp dNe (eVar 6) (eFn 2 0 c_joined (rCons (eVar 1) (rCons (eVar 0) rNil))))) (sRet (eC (.bool false))) sNx)
  (sRet (eOr (eIsN (eVar 6)) (eAnd (eIsN (eVar 4)) (eOp dEq (eNew (nCall sortDA (aCons (eOp dAdd (eVar 2) (eVar 3)) aNil))) (eNew (nCall lDA (aCons (eFn 1 0 c_corners_of (rCons (eVar 6) rNil)) aNil))))))))))))))))
theorem b__law_two_right {K : Frag} {mg : Str → Option Value} {a : Nat → Addr} {fd : Nat → FuncData} (T : Tx K mg a fd) : Binds K (fd 15) ["one", "other"] [] := T.f__law_two_right.binds (ps := ["one", "other"]) fun _ _ _ _ _ _ us hl => match us, hl with | [_, _], _ => rfl
def run__law_two_right : List Sl → RF := runF 8 0 (body__law_two_right (fun a => (run_corners_of a).nox) (fun a => (run_common_face a).nox) (fun a => (run_has_all a).nox) (fun a => (run_joined a).nox))
theorem ok__law_two_right {P : Program} {w : World} {K : Frag} {mg : Str → Option Value} {base : Heap} {a : Nat → Addr} {fd : Nat → FuncData} (T : Tx K mg a fd) : FnOk P w K mg base CX0 3 (a 15) (fd 15) ["one", "other"] (spF K mg 2 0 fun x => (run__law_two_right x).nox) :=
  fn_ok (N := ["one", "other", "first", "second", "both", "common", "great", "corner"]) (b := (body__law_two_right (fun a => (run_corners_of a).nox) (fun a => (run_common_face a).nox) (fun a => (run_has_all a).nox) (fun a => (run_joined a).nox))) T.f__law_two_right sc__law_two_right fun cdv A outer s H E hr =>
  (sb_cons (ss_set (i := 2) sc__law_two_right.nd rfl (by first | exact Or.inl rfl | exact Or.inr rfl) (se_fn (ok_corners_of T) (hr.mono (by decide)) (by rfl) T.g_corners_of T.f_corners_of.kp (b_corners_of T) (sr_cons (se_var (pv 0)) sr_nil)))
  (sb_cons (ss_set (i := 3) sc__law_two_right.nd rfl (by first | exact Or.inl rfl | exact Or.inr rfl) (se_fn (ok_corners_of T) (hr.mono (by decide)) (by rfl) T.g_corners_of T.f_corners_of.kp (b_corners_of T) (sr_cons (se_var (pv 1)) sr_nil)))
  (sb_cons (ss_set (i := 4) sc__law_two_right.nd rfl (by first | exact Or.inl rfl | exact Or.inr rfl) (se_fn (ok_common_face T) (hr.mono (by decide)) (by rfl) T.g_common_face T.f_common_face.kp (b_common_face T) (sr_cons (se_var (pv 0)) (sr_cons (se_var (pv 1)) sr_nil))))
  (sb_cons (ss_setLc (i := 5) (own := [("corner", 7)]) rfl sc__law_two_right.nd rfl rfl (sw_true rfl rfl rfl (by decide +kernel)) (si_dat (se_var (pv 2))) (blkOk_by (N := ["one", "other", "first", "second", "both", "common", "great", "corner"]) (own := [("corner", 7)]) (sc := (defScope s__law_two_right)) (by decide +kernel)) (by simp) (fun _ _ _ _ _ => (sg_name (i := 7) sc__law_two_right.nd rfl (by first | exact Or.inl rfl | exact Or.inr rfl))) (fun _ _ _ _ _ => (sts_one (st_in (se_var (pv 7)) (se_var (pv 3))))) (fun _ _ _ _ _ => (se_var (pv 7))))
  (sb_cons (ss_if (st_bool (sw_or (st_bool (sw_and (st_isN (se_var (pv 4))) (sw_and1 (st_ne hr.units (se_var (pv 5)) (se_lst sa_nil))))) (sw_or1 (st_bool (sw_and (st_notN (se_var (pv 4))) (sw_and1 (st_ne hr.units (se_new (sn_listA rfl (by rfl) T.z_list (sa_cons (se_fn (ok_corners_of T) (hr.mono (by decide)) (by rfl) T.g_corners_of T.f_corners_of.kp (b_corners_of T) (sr_cons (se_var (pv 4)) sr_nil)) sa_nil))) (se_var (pv 5))))))))) (sb_one (ss_ret se_bl)) sb_nil)
  (sb_cons (ss_if (st_bool (sw_and (st_notN (se_var (pv 4))) (sw_and1 (pt_not' (st_bool (sw_and (st_val (se_fn (ok_has_all T) (hr.mono (by decide)) (by rfl) T.g_has_all T.f_has_all.kp (b_has_all T) (sr_cons (se_var (pv 0)) (sr_cons (se_var (pv 4)) sr_nil)))) (sw_and1 (st_val (se_fn (ok_has_all T) (hr.mono (by decide)) (by rfl) T.g_has_all T.f_has_all.kp (b_has_all T) (sr_cons (se_var (pv 1)) (sr_cons (se_var (pv 4)) sr_nil))))))))))) (sb_one (ss_ret se_bl)) sb_nil)
  (sb_cons (ss_if (st_ne hr.units (se_fn (ok_has_all T) (hr.mono (by decide)) (by rfl) T.g_has_all T.f_has_all.kp (b_has_all T) (sr_cons (se_var (pv 0)) (sr_cons (se_var (pv 1)) sr_nil))) (se_eq hr.units (se_var (pv 4)) (se_var (pv 1)))) (sb_one (ss_ret se_bl)) sb_nil)
  (sb_cons (ss_set (i := 6) sc__law_two_right.nd rfl (by first | exact Or.inl rfl | exact Or.inr rfl) (se_fn (ok_joined T) (hr.mono (by decide)) (by rfl) T.g_joined T.f_joined.kp (b_joined T) (sr_cons (se_var (pv 0)) (sr_cons (se_var (pv 1)) sr_nil))))
  (sb_cons (ss_if (st_ne hr.units (se_var (pv 6)) (se_fn (ok_joined T) (hr.mono (by decide)) (by rfl) T.g_joined T.f_joined.kp (b_joined T) (sr_cons (se_var (pv 1)) (sr_cons (se_var (pv 0)) sr_nil)))) (sb_one (ss_ret se_bl)) sb_nil)
  (sb_one (ss_ret (se_or (se_isN (se_var (pv 6))) (se_one (se_and (se_isN (se_var (pv 4))) (se_one (se_eq hr.units (se_new (sn_sortedA hr.units (by rfl) T.z_sorted (sa_cons (se_add (se_var (pv 2)) (se_var (pv 3))) sa_nil))) (se_new (sn_listA rfl (by rfl) T.z_list (sa_cons (se_fn (ok_corners_of T) (hr.mono (by decide)) (by rfl) T.g_corners_of T.f_corners_of.kp (b_corners_of T) (sr_cons (se_var (pv 6)) sr_nil)) sa_nil)))))))))))))))))))
/-! ### _law_halves_right -/
theorem sc__law_halves_right : FnScope ["face", "place", "halves", "bit"] ["face", "place"] (defScope s__law_halves_right) := ⟨rfl, rfl, rfl, by decide +kernel, rfl, by decide +kernel, by decide +kernel⟩
def body__law_halves_right (c_has_all : List Sl → RF) (c_joined : List Sl → RF) : XS :=
  (sSeq (sSet 2 (eNew (nLc (iOf (eC (.str (Str.ofString "01")))) (gN 3) (fun e => R.ok true e) (eOp dAdd (eOp dAdd (eSl dSlA (eVar 0) oNone (oSome (eVar 1))) (eVar 3)) (eSl dSlA (eVar 0) (oSome (eOp dAdd (eVar 1) (eC (.int 1)))) oNone)) [3])))
  (sSeq (sIf (tOf (eOp dEq (eOp dIx (eVar 0) (eVar 1)) (eC (.str (Str.ofString "*"))))) (sRet (eAnd (eOp dEq (eFn 2 0 c_joined (rCons (eOp dIx (eVar 2) (eC (.int 0))) (rCons (eOp dIx (eVar 2) (eC (.int 1))) rNil))) (eVar 0)) (eAnd (eFn 2 0 c_has_all (rCons (eVar 0) (rCons (eOp dIx (eVar 2) (eC (.int 1))) rNil))) (eNot (eFn 2 0 c_has_all (rCons (eOp dIx (eVar 2) (eC (.int 0))) (rCons (eVar 0) rNil))))))) sNx)
  (sRet (eAnd (eFn 2 0 c_has_all (rCons (eOp dAdd (eOp dAdd (eSl dSlA (eVar 0) oNone (oSome (eVar 1))) (eC (.str (Str.ofString "*")))) (eSl dSlA (eVar 0) (oSome (eOp dAdd (eVar 1) (eC (.int 1)))) oNone)) (rCons (eVar 0) rNil))) (eIsN (eFn 2 0 c_joined (rCons (eVar 0) (rCons (eVar 0) rNil))))))))
theorem b__law_halves_right {K : Frag} {mg : Str → Option Value} {a : Nat → Addr} {fd : Nat → FuncData} (T : Tx K mg a fd) : Binds K (fd 16) ["face", "place"] [] := T.f__law_halves_right.binds (ps := ["face", "place"]) fun _ _ _ _ _ _ us hl => match us, hl with | [_, _], _ => rfl
def run__law_halves_right : List Sl → RF := runF 4 0 (body__law_halves_right (fun a => (run_has_all a).nox) (fun a => (run_joined a).nox))
theorem ok__law_halves_right {P : Program} {w : World} {K : Frag} {mg : Str → Option Value} {base : Heap} {a : Nat → Addr} {fd : Nat → FuncData} (T : Tx K mg a fd) : FnOk P w K mg base CX0 3 (a 16) (fd 16) ["face", "place"] (spF K mg 2 0 fun x => (run__law_halves_right x).nox) :=
  fn_ok (N := ["face", "place", "halves", "bit"]) (b := (body__law_halves_right (fun a => (run_has_all a).nox) (fun a => (run_joined a).nox))) T.f__law_halves_right sc__law_halves_right fun cdv A outer s H E hr =>
  (sb_cons (ss_setLc (i := 2) (own := [("bit", 3)]) rfl sc__law_halves_right.nd rfl rfl (sw_true rfl rfl rfl (by decide +kernel)) (si_dat se_str) (blkOk_by (N := ["face", "place", "halves", "bit"]) (own := [("bit", 3)]) (sc := (defScope s__law_halves_right)) (by decide +kernel)) (by simp) (fun _ _ _ _ _ => (sg_name (i := 3) sc__law_halves_right.nd rfl (by first | exact Or.inl rfl | exact Or.inr rfl))) (fun _ _ _ _ _ => sts_nil) (fun _ _ _ _ _ => (se_add (se_add (se_sliceA (se_var (pv 0)) so_none (so_some (se_var (pv 1)))) (se_var (pv 3))) (se_sliceA (se_var (pv 0)) (so_some (se_add (se_var (pv 1)) se_int)) so_none))))
  (sb_cons (ss_if (st_eq hr.units (se_ixA (se_var (pv 0)) (se_var (pv 1)) (fun _ _ => rfl)) se_str) (sb_one (ss_ret (se_and (se_eq hr.units (se_fn (ok_joined T) (hr.mono (by decide)) (by rfl) T.g_joined T.f_joined.kp (b_joined T) (sr_cons (se_ixA (se_var (pv 2)) se_int (fun _ _ => rfl)) (sr_cons (se_ixA (se_var (pv 2)) se_int (fun _ _ => rfl)) sr_nil))) (se_var (pv 0))) (se_and (se_fn (ok_has_all T) (hr.mono (by decide)) (by rfl) T.g_has_all T.f_has_all.kp (b_has_all T) (sr_cons (se_var (pv 0)) (sr_cons (se_ixA (se_var (pv 2)) se_int (fun _ _ => rfl)) sr_nil))) (se_one (se_not (se_fn (ok_has_all T) (hr.mono (by decide)) (by rfl) T.g_has_all T.f_has_all.kp (b_has_all T) (sr_cons (se_ixA (se_var (pv 2)) se_int (fun _ _ => rfl)) (sr_cons (se_var (pv 0)) sr_nil))))))))) sb_nil)
  (sb_one (ss_ret (se_and (se_fn (ok_has_all T) (hr.mono (by decide)) (by rfl) T.g_has_all T.f_has_all.kp (b_has_all T) (sr_cons (se_add (se_add (se_sliceA (se_var (pv 0)) so_none (so_some (se_var (pv 1)))) se_str) (se_sliceA (se_var (pv 0)) (so_some (se_add (se_var (pv 1)) se_int)) so_none)) (sr_cons (se_var (pv 0)) sr_nil))) (se_one (se_isN (se_fn (ok_joined T) (hr.mono (by decide)) (by rfl) T.g_joined T.f_joined.kp (b_joined T) (sr_cons (se_var (pv 0)) (sr_cons (se_var (pv 0)) sr_nil))))))))))
/-! ### law -/
theorem sc_law : FnScope ["script", "deck", "turn", "bits", "one", "other", "left", "order", "turned", "at", "near", "more", "due", "first", "second", "k", "face"] ["script"] (defScope s_law) := ⟨rfl, rfl, rfl, by decide +kernel, rfl, by decide +kernel, by decide +kernel⟩
def body_law (c_how_many : List Sl → RF) (c_common_face : List Sl → RF) (c_has_all : List Sl → RF) (c_joined : List Sl → RF) (c__law_deck : List Sl → RF) (c__law_next : List Sl → RF) (c__law_bits : List Sl → RF) (c__law_face : List Sl → RF) (c__law_otherwise : List Sl → RF) (c__law_face_right : List Sl → RF) (c__law_two_right : List Sl → RF) (c__law_halves_right : List Sl → RF) : XS :=
  (sSeq (sOwn 1 (nFn 1 0 c__law_deck (rScr 0 rNil)))
  (sSeq (sFor (iArgs rg1 (aCons (eC (.int 6)) aNil)) (gN 2) (sSeq (sSet 3 (eFn 1 1 c__law_bits (rIo 1 rNil)))
  (sSeq (sSet 4 (eFn 2 1 c__law_face (rIo 1 (rCons (eVar 3) rNil))))
  (sSeq (sSet 5 (eFn 2 1 c__law_face (rIo 1 (rCons (eVar 3) rNil))))
  (sSeq (sOwn 6 (nRange1 (eVar 3)))
  (sSeq (sSet 7 (eNew (nLc (iArgs rg1 (aCons (eVar 3) aNil)) (gN 15) (fun e => R.ok true e) (eMut 6 mPop (aCons (eFn 2 1 c__law_next (rIo 1 (rCons (eLenOwn 6) rNil))) aNil)) [15])))
  (sSeq (sSet 8 (eNew (nLc (iArgs rg1 (aCons (eVar 3) aNil)) (gN 15) (fun e => R.ok true e) (eFn 2 1 c__law_next (rIo 1 (rCons (eC (.int 2)) rNil))) [15])))
  (sSeq (sIf (tOr (tNot (tOf (eFn 1 0 c__law_face_right (rCons (eVar 4) rNil)))) (tNot (tOf (eFn 2 0 c__law_halves_right (rCons (eVar 4) (rCons (eFn 2 1 c__law_next (rIo 1 (rCons (eVar 3) rNil))) rNil)))))) (sRet (eC (.bool false))) sNx)
  (sSeq (sSet 9 (eFn 2 1 c__law_next (rIo 1 (rCons (eVar 3) rNil))))
  (sSeq (sSet 10 (eOp dAdd (eOp dAdd (eSl dSlA (eVar 4) oNone (oSome (eVar 9))) (eOp dIx (eC (.str (Str.ofString "01*"))) (eFn 2 1 c__law_next (rIo 1 (rCons (eC (.int 3)) rNil))))) (eSl dSlA (eVar 4) (oSome (eOp dAdd (eVar 9) (eC (.int 1)))) oNone)))
  (sFor (iOf (eCall gLst (aCons (eVar 5) (aCons (eVar 10) aNil)))) (gN 11) (sSeq (sIf (tNot (tOf (eFn 2 0 c__law_two_right (rCons (eVar 4) (rCons (eVar 11) rNil))))) (sRet (eC (.bool false))) sNx)
  (sSeq (sSet 12 (eCall gLst (aCons (eFn 2 0 c_common_face (rCons (eVar 4) (rCons (eVar 11) rNil))) (aCons (eFn 2 0 c_joined (rCons (eVar 4) (rCons (eVar 11) rNil))) aNil))))
  (sSeq (sSet 12 (eNew (nLc (iOf (eVar 12)) (gN 16) (fun e => R.ok true e) (eOp dIx (eCall gLst (aCons (eC .none) (aCons (eFn 3 0 c__law_otherwise (rCons (eOrT (eVar 16) (eVar 4)) (rCons (eVar 7) (rCons (eVar 8) rNil)))) aNil))) (eCall dIntA (aCons (eNotN (eVar 16)) aNil))) [16])))
  (sSeq (sSet 13 (eFn 3 0 c__law_otherwise (rCons (eVar 4) (rCons (eVar 7) (rCons (eVar 8) rNil)))))
  (sSeq (sSet 14 (eFn 3 0 c__law_otherwise (rCons (eVar 11) (rCons (eVar 7) (rCons (eVar 8) rNil)))))
  (sSeq (sIf (tOf (eOp dNe (eCall gLst (aCons (eFn 2 0 c_common_face (rCons (eVar 13) (rCons (eVar 14) rNil))) (aCons (eFn 2 0 c_joined (rCons (eVar 13) (rCons (eVar 14) rNil))) aNil))) (eVar 12))) (sRet (eC (.bool false))) sNx)
  (sIf (tOr (tOf (eOp dNe (eFn 2 0 c_has_all (rCons (eVar 13) (rCons (eVar 14) rNil))) (eFn 2 0 c_has_all (rCons (eVar 4) (rCons (eVar 11) rNil))))) (tOf (eOp dNe (eFn 1 0 c_how_many (rCons (eVar 13) rNil)) (eFn 1 0 c_how_many (rCons (eVar 4) rNil))))) (sRet (eC (.bool false))) sNx))))))))))))))))))
  (sRet (eC (.bool true)))))
theorem b_law {K : Frag} {mg : Str → Option Value} {a : Nat → Addr} {fd : Nat → FuncData} (T : Tx K mg a fd) : Binds K (fd 17) ["script"] [] := T.f_law.binds (ps := ["script"]) fun _ _ _ _ _ _ us hl => match us, hl with | [_], _ => rfl
def run_law : List Sl → RF := runF 17 0 (body_law (fun a => (run_how_many a).nox) (fun a => (run_common_face a).nox) (fun a => (run_has_all a).nox) (fun a => (run_joined a).nox) (fun a => (run__law_deck a).nox) (fun a => (run__law_next a).nox) (fun a => (run__law_bits a).nox) (fun a => (run__law_face a).nox) (fun a => (run__law_otherwise a).nox) (fun a => (run__law_face_right a).nox) (fun a => (run__law_two_right a).nox) (fun a => (run__law_halves_right a).nox))
theorem ok_law {P : Program} {w : World} {K : Frag} {mg : Str → Option Value} {base : Heap} {a : Nat → Addr} {fd : Nat → FuncData} (T : Tx K mg a fd) : FnOk P w K mg base CX0 4 (a 17) (fd 17) ["script"] (spF K mg 1 0 fun x => (run_law x).nox) :=
  fn_ok (N := ["script", "deck", "turn", "bits", "one", "other", "left", "order", "turned", "at", "near", "more", "due", "first", "second", "k", "face"]) (b := (body_law (fun a => (run_how_many a).nox) (fun a => (run_common_face a).nox) (fun a => (run_has_all a).nox) (fun a => (run_joined a).nox) (fun a => (run__law_deck a).nox) (fun a => (run__law_next a).nox) (fun a => (run__law_bits a).nox) (fun a => (run__law_face a).nox) (fun a => (run__law_otherwise a).nox) (fun a => (run__law_face_right a).nox) (fun a => (run__law_two_right a).nox) (fun a => (run__law_halves_right a).nox))) T.f_law sc_law fun cdv A outer s H E hr =>
  (sb_cons (ss_own (i := 1) sc_law.nd rfl (by first | exact Or.inl rfl | exact Or.inr rfl) (sn_fn (ok__law_deck T) (hr.mono (by decide)) (by rfl) T.g__law_deck T.f__law_deck.kp (b__law_deck T) (sr_scr (pv 0) sr_nil)))
  (sb_cons (ss_for PassesOwn.never rfl (si_range1 (by rfl) T.z_range (sa_cons se_int sa_nil)) (sg_name (i := 2) sc_law.nd rfl (by first | exact Or.inl rfl | exact Or.inr rfl)) (sb_cons (ss_set (i := 3) sc_law.nd rfl (by first | exact Or.inl rfl | exact Or.inr rfl) (se_fn (ok__law_bits T) (hr.mono (by decide)) (by rfl) T.g__law_bits T.f__law_bits.kp (b__law_bits T) (sr_io (pv 1) sr_nil)))
  (sb_cons (ss_set (i := 4) sc_law.nd rfl (by first | exact Or.inl rfl | exact Or.inr rfl) (se_fn (ok__law_face T) (hr.mono (by decide)) (by rfl) T.g__law_face T.f__law_face.kp (b__law_face T) (sr_io (pv 1) (sr_cons (se_var (pv 3)) sr_nil))))
  (sb_cons (ss_set (i := 5) sc_law.nd rfl (by first | exact Or.inl rfl | exact Or.inr rfl) (se_fn (ok__law_face T) (hr.mono (by decide)) (by rfl) T.g__law_face T.f__law_face.kp (b__law_face T) (sr_io (pv 1) (sr_cons (se_var (pv 3)) sr_nil))))
  (sb_cons (ss_own (i := 6) sc_law.nd rfl (by first | exact Or.inl rfl | exact Or.inr rfl) (sn_listRange rfl (by rfl) T.z_list (by rfl) T.z_range (se_var (pv 3))))
  (sb_cons (ss_set (i := 7) sc_law.nd rfl (by first | exact Or.inl rfl | exact Or.inr rfl) (se_new (sn_lc (own := [("k", 15)]) rfl sc_law.nd (si_range1 (by rfl) T.z_range (sa_cons (se_var (pv 3)) sa_nil)) (blkOk_by (N := ["script", "deck", "turn", "bits", "one", "other", "left", "order", "turned", "at", "near", "more", "due", "first", "second", "k", "face"]) (own := [("k", 15)]) (sc := (defScope s_law)) (by decide +kernel)) (by simp) (fun _ _ _ _ _ => (sg_name (i := 15) sc_law.nd rfl (by first | exact Or.inl rfl | exact Or.inr rfl))) (fun _ _ _ _ _ => sts_nil) (fun _ _ _ _ _ => (se_pop (pv 6) (sa_cons (se_fn (ok__law_next T) (hr.mono (by decide)) (by rfl) T.g__law_next T.f__law_next.kp (b__law_next T) (sr_io (pv 1) (sr_cons (se_lenOwn (by rfl) T.z_len (pv 6)) sr_nil))) sa_nil))))))
  (sb_cons (ss_set (i := 8) sc_law.nd rfl (by first | exact Or.inl rfl | exact Or.inr rfl) (se_new (sn_lc (own := [("k", 15)]) rfl sc_law.nd (si_range1 (by rfl) T.z_range (sa_cons (se_var (pv 3)) sa_nil)) (blkOk_by (N := ["script", "deck", "turn", "bits", "one", "other", "left", "order", "turned", "at", "near", "more", "due", "first", "second", "k", "face"]) (own := [("k", 15)]) (sc := (defScope s_law)) (by decide +kernel)) (by simp) (fun _ _ _ _ _ => (sg_name (i := 15) sc_law.nd rfl (by first | exact Or.inl rfl | exact Or.inr rfl))) (fun _ _ _ _ _ => sts_nil) (fun _ _ _ _ _ => (se_fn (ok__law_next T) (hr.mono (by decide)) (by rfl) T.g__law_next T.f__law_next.kp (b__law_next T) (sr_io (pv 1) (sr_cons se_int sr_nil)))))))
  (sb_cons (ss_if (st_bool (sw_or (pt_not' (st_val (se_fn (ok__law_face_right T) (hr.mono (by decide)) (by rfl) T.g__law_face_right T.f__law_face_right.kp (b__law_face_right T) (sr_cons (se_var (pv 4)) sr_nil)))) (sw_or1 (pt_not' (st_val (se_fn (ok__law_halves_right T) (hr.mono (by decide)) (by rfl) T.g__law_halves_right T.f__law_halves_right.kp (b__law_halves_right T) (sr_cons (se_var (pv 4)) (sr_cons (se_fn (ok__law_next T) (hr.mono (by decide)) (by rfl) T.g__law_next T.f__law_next.kp (b__law_next T) (sr_io (pv 1) (sr_cons (se_var (pv 3)) sr_nil))) sr_nil)))))))) (sb_one (ss_ret se_bl)) sb_nil)
  (sb_cons (ss_set (i := 9) sc_law.nd rfl (by first | exact Or.inl rfl | exact Or.inr rfl) (se_fn (ok__law_next T) (hr.mono (by decide)) (by rfl) T.g__law_next T.f__law_next.kp (b__law_next T) (sr_io (pv 1) (sr_cons (se_var (pv 3)) sr_nil))))
  (sb_cons (ss_set (i := 10) sc_law.nd rfl (by first | exact Or.inl rfl | exact Or.inr rfl) (se_add (se_add (se_sliceA (se_var (pv 4)) so_none (so_some (se_var (pv 9)))) (se_ixA se_str (se_fn (ok__law_next T) (hr.mono (by decide)) (by rfl) T.g__law_next T.f__law_next.kp (b__law_next T) (sr_io (pv 1) (sr_cons se_int sr_nil))) (fun _ _ => rfl))) (se_sliceA (se_var (pv 4)) (so_some (se_add (se_var (pv 9)) se_int)) so_none)))
  (sb_one (ss_for PassesOwn.never rfl (si_dat (se_lst (sa_cons (se_var (pv 5)) (sa_cons (se_var (pv 10)) sa_nil)))) (sg_name (i := 11) sc_law.nd rfl (by first | exact Or.inl rfl | exact Or.inr rfl)) (sb_cons (ss_if (pt_not' (st_val (se_fn (ok__law_two_right T) (hr.mono (by decide)) (by rfl) T.g__law_two_right T.f__law_two_right.kp (b__law_two_right T) (sr_cons (se_var (pv 4)) (sr_cons (se_var (pv 11)) sr_nil))))) (sb_one (ss_ret se_bl)) sb_nil)
  (sb_cons (ss_set (i := 12) sc_law.nd rfl (by first | exact Or.inl rfl | exact Or.inr rfl) (se_lst (sa_cons (se_fn (ok_common_face T) (hr.mono (by decide)) (by rfl) T.g_common_face T.f_common_face.kp (b_common_face T) (sr_cons (se_var (pv 4)) (sr_cons (se_var (pv 11)) sr_nil))) (sa_cons (se_fn (ok_joined T) (hr.mono (by decide)) (by rfl) T.g_joined T.f_joined.kp (b_joined T) (sr_cons (se_var (pv 4)) (sr_cons (se_var (pv 11)) sr_nil))) sa_nil))))
  (sb_cons (ss_setLc (i := 12) (own := [("face", 16)]) rfl sc_law.nd rfl rfl (sw_true rfl rfl rfl (by decide +kernel)) (si_dat (se_var (pv 12))) (blkOk_by (N := ["script", "deck", "turn", "bits", "one", "other", "left", "order", "turned", "at", "near", "more", "due", "first", "second", "k", "face"]) (own := [("face", 16)]) (sc := (defScope s_law)) (by decide +kernel)) (by simp) (fun _ _ _ _ _ => (sg_name (i := 16) sc_law.nd rfl (by first | exact Or.inl rfl | exact Or.inr rfl))) (fun _ _ _ _ _ => sts_nil) (fun _ _ _ _ _ => (se_ixA (se_lst (sa_cons se_non (sa_cons (se_fn (ok__law_otherwise T) (hr.mono (by decide)) (by rfl) T.g__law_otherwise T.f__law_otherwise.kp (b__law_otherwise T) (sr_cons (se_orT (se_var (pv 16)) (se_one (se_var (pv 4)))) (sr_cons (se_var (pv 7)) (sr_cons (se_var (pv 8)) sr_nil)))) sa_nil))) (se_intA (by rfl) T.z_int (sa_cons (se_notN (se_var (pv 16))) sa_nil)) (fun _ _ => rfl))))
  (sb_cons (ss_set (i := 13) sc_law.nd rfl (by first | exact Or.inl rfl | exact Or.inr rfl) (se_fn (ok__law_otherwise T) (hr.mono (by decide)) (by rfl) T.g__law_otherwise T.f__law_otherwise.kp (b__law_otherwise T) (sr_cons (se_var (pv 4)) (sr_cons (se_var (pv 7)) (sr_cons (se_var (pv 8)) sr_nil)))))
  (sb_cons (ss_set (i := 14) sc_law.nd rfl (by first | exact Or.inl rfl | exact Or.inr rfl) (se_fn (ok__law_otherwise T) (hr.mono (by decide)) (by rfl) T.g__law_otherwise T.f__law_otherwise.kp (b__law_otherwise T) (sr_cons (se_var (pv 11)) (sr_cons (se_var (pv 7)) (sr_cons (se_var (pv 8)) sr_nil)))))
  (sb_cons (ss_if (st_ne hr.units (se_lst (sa_cons (se_fn (ok_common_face T) (hr.mono (by decide)) (by rfl) T.g_common_face T.f_common_face.kp (b_common_face T) (sr_cons (se_var (pv 13)) (sr_cons (se_var (pv 14)) sr_nil))) (sa_cons (se_fn (ok_joined T) (hr.mono (by decide)) (by rfl) T.g_joined T.f_joined.kp (b_joined T) (sr_cons (se_var (pv 13)) (sr_cons (se_var (pv 14)) sr_nil))) sa_nil))) (se_var (pv 12))) (sb_one (ss_ret se_bl)) sb_nil)
  (sb_one (ss_if (st_bool (sw_or (st_ne hr.units (se_fn (ok_has_all T) (hr.mono (by decide)) (by rfl) T.g_has_all T.f_has_all.kp (b_has_all T) (sr_cons (se_var (pv 13)) (sr_cons (se_var (pv 14)) sr_nil))) (se_fn (ok_has_all T) (hr.mono (by decide)) (by rfl) T.g_has_all T.f_has_all.kp (b_has_all T) (sr_cons (se_var (pv 4)) (sr_cons (se_var (pv 11)) sr_nil)))) (sw_or1 (st_ne hr.units (se_fn (ok_how_many T) (hr.mono (by decide)) (by rfl) T.g_how_many T.f_how_many.kp (b_how_many T) (sr_cons (se_var (pv 13)) sr_nil)) (se_fn (ok_how_many T) (hr.mono (by decide)) (by rfl) T.g_how_many T.f_how_many.kp (b_how_many T) (sr_cons (se_var (pv 4)) sr_nil)))))) (sb_one (ss_ret se_bl)) sb_nil))))))))))))))))))))
  (sb_one (ss_ret se_bl))))
end G
set_option linter.all false
set_option maxRecDepth 100000
namespace G
open PySem PySem.Spec PyProof.Rows L2
theorem x5_1 : ixN 5 1 = some 1 := rfl
theorem x5_2 : ixN 5 2 = some 2 := rfl
theorem x5_3 : ixN 5 3 = some 3 := rfl
def X5 (L : List D) (i v c t : Int) : List D := [.list L, .int i, .int v, .int c, .int t]
@[simp] theorem X5_0 (L : List D) (i v c t : Int) : atI (X5 L i v c t) 0 = some (.list L) := rfl
@[simp] theorem X5_1 (L : List D) (i v c t : Int) : atI (X5 L i v c t) 1 = some (.int i) := rfl
@[simp] theorem X5_2 (L : List D) (i v c t : Int) : atI (X5 L i v c t) 2 = some (.int v) := rfl
@[simp] theorem X5_3 (L : List D) (i v c t : Int) : atI (X5 L i v c t) 3 = some (.int c) := rfl
@[simp] theorem X5_4 (L : List D) (i v c t : Int) : atI (X5 L i v c t) 4 = some (.int t) := rfl
@[simp] theorem X5_len (L : List D) (i v c t : Int) : (X5 L i v c t).length = 5 := rfl
@[simp] theorem X5_s1 (L : List D) (i v c t j : Int) : (X5 L i v c t).set 1 (.int j) = X5 L j v c t := rfl
@[simp] theorem X5_s2 (L : List D) (i v c t j : Int) : (X5 L i v c t).set 2 (.int j) = X5 L i j c t := rfl
@[simp] theorem X5_s3 (L : List D) (i v c t j : Int) : (X5 L i v c t).set 3 (.int j) = X5 L i v j t := rfl
theorem mod_lt {a m : Int} (h : 0 < m) : 0 ≤ a % m ∧ a % m < m := ⟨Int.emod_nonneg a (by omega), Int.emod_lt_of_pos a h⟩
def MixOk (F : List Sl → RF) : Prop := ∀ cell k : Int, 0 ≤ k → k < 2 ^ 60 → ∃ r, F [.dat (.int cell), .dat (.int k)] = .ok (.int r) []
theorem run_mix (cell k : Int) (h0 : 0 ≤ k) (h1 : k < 2 ^ 60) : ∃ r, run__law_mix [.dat (.int cell), .dat (.int k)] = .ok (.int r) [] := by
  have e1 : CMul 1000003 k := .inl ⟨by decide, by decide⟩
  have e2 : CMul (1000003 * k) k := .inr ⟨by omega, by omega⟩
  have e3 : CMul 7919 k := .inl ⟨by decide, by decide⟩
  have e4 : ∀ x y : Int, CMul (x % 2147483629) y := fun x y => .inl ⟨by have := mod_lt (a := x) (m := 2147483629) (by decide); omega, by have := mod_lt (a := x) (m := 2147483629) (by decide); omega⟩
  have e5 : ∀ x y : Int, CMul (x % 2147483587) y := fun x y => .inl ⟨by have := mod_lt (a := x) (m := 2147483587) (by decide); omega, by have := mod_lt (a := x) (m := 2147483587) (by decide); omega⟩
  have e6 : ∀ x : Int, CDiv x 4 := fun x => ⟨by decide, by decide⟩
  simp [run__law_mix, runF, body__law_mix, sSeq, sSet, sRet, eOp, eVar, eC, e1, e2, e3, e4, e5, e6, outsOf]
theorem mixOk : MixOk (fun a => (run__law_mix a).nox) := fun cell k h0 h1 => by
  obtain ⟨r, h⟩ := run_mix cell k h0 h1
  exact ⟨r, by simp only [h]; rfl⟩
theorem at_map {L : List Int} {i : Nat} (h : i < L.length) : atI (L.map PyData.int) (i : Int) = some (.int L[i]) := by
  unfold atI ixN
  simp [h]
abbrev nE (L : List D) (i v c t m : Int) : En := [.own (some 0) (.lst (X5 L i v c t)), .dat (.int m), .un, .un]
theorem nx_c (L : List D) (i v c t m : Int) : (tAnd (tOf (eOp dEq (eIxOwn 0 (eC (.int 2))) (eC (.int 0)))) (tOf (eOp dLt (eIxOwn 0 (eC (.int 1))) (eCall dLen (aCons (eIxOwn 0 (eC (.int 0))) aNil))))) (nE L i v c t m) = .ok (decide (v = 0) && decide (i < L.length)) (nE L i v c t m) := by
  by_cases h : v = 0
  · simp [tAnd, tOf, eOp, eIxOwn, eC, eCall, aCons, aNil, h]
  · simp [tAnd, tOf, eOp, eIxOwn, eC, eCall, aCons, aNil, h]
theorem nx1 {c_mix : List Sl → RF} (L : List D) (i v c t m : Int) (hv : 0 < v) (hm : 0 < m) (hc : CDiv v m) : runF 4 1 (body__law_next c_mix) [.own (some 0) (.lst (X5 L i v c t)), .dat (.int m)] = .ok (.int (v % m)) [.lst (X5 L i (v / m) c t)] := by
  have hv0 : ¬ v = 0 := by omega
  simp only [runF, body__law_next]
  simp [sSeq, sIf, nx_c, sNx, hv0]
  simp [tOf, sSet, sRet, eOp, eVar, eC, eIxOwn, hv, sSetIx, x5_2, hm, hc, outsOf, ownK]
theorem nx4 {c_mix : List Sl → RF} (L : List D) (i v c t m r : Int) (hv : ¬ 0 < v) (hz : v = 0 → ¬ i < L.length) (hm : 0 < m) (hr : c_mix [.dat (.int t), .dat (.int (c + 1 + 1061))] = .ok (.int r) []) :
    runF 4 1 (body__law_next c_mix) [.own (some 0) (.lst (X5 L i v c t)), .dat (.int m)] = .ok (.int (r % m)) [.lst (X5 L i v (c + 1) t)] := by
  have h1 : (decide (v = 0) && decide (i < (L.length : Int))) = false := by
    by_cases h : v = 0
    · simp [h, hz h]
    · simp [h]
  simp only [runF, body__law_next]
  simp [sSeq, sIf, nx_c, h1, sNx]
  simp [tOf, sSet, sRet, eOp, eVar, eC, eIxOwn, eCall, aCons, aNil, hv, sSetIx, x5_1, x5_2, x5_3, hm, outsOf, ownK, eFn, rCons, rNil, ios, resolve, hr, behind]
theorem cp18 : CPow 10 18 := ⟨by decide, by decide, by decide⟩
theorem nx2 {c_mix : List Sl → RF} (L : List D) (i c t m r cell : Int) (hi : i < L.length) (ha : atI L i = some (.int cell)) (hs : cell < 1000000000000000000) (hm : 0 < m) (hr : c_mix [.dat (.int cell), .dat (.int (i + 1))] = .ok (.int r) []) :
    runF 4 1 (body__law_next c_mix) [.own (some 0) (.lst (X5 L i 0 c t)), .dat (.int m)] = .ok (.int (r % m)) [.lst (X5 L (i + 1) 0 c t)] := by
  simp only [runF, body__law_next]
  simp [sSeq, sIf, nx_c, hi]
  simp [tOf, sSet, sRet, eOp, eVar, eC, eIxOwn, ha, sSetIx, x5_1, hm, outsOf, ownK, eFn, rCons, rNil, ios, resolve, hr, behind, cp18, hs]
theorem nx3 {c_mix : List Sl → RF} (L : List D) (i c t m cell : Int) (hi : i < L.length) (ha : atI L i = some (.int cell)) (hs : ¬ cell < 1000000000000000000) (hm : 0 < m) (hc : CDiv cell m) :
    runF 4 1 (body__law_next c_mix) [.own (some 0) (.lst (X5 L i 0 c t)), .dat (.int m)] = .ok (.int (cell % m)) [.lst (X5 L (i + 1) (cell / m) c t)] := by
  have hp : 0 < cell := by omega
  simp only [runF, body__law_next]
  simp [sSeq, sIf, nx_c, hi]
  simp [tOf, sSet, sRet, eOp, eVar, eC, eIxOwn, ha, sSetIx, x5_1, x5_2, hm, outsOf, ownK, cp18, hs, hp, hc, sNx]
structure DeckOk (b : Nat) (ds : List D) : Prop where
  ex : ∃ (L : List Int) (i : Nat) (v c t : Int), ds = X5 (L.map .int) i v c t ∧ L.length ≤ 63 ∧ i ≤ 63 ∧ 0 ≤ c ∧ c ≤ b
def NextOk (F : List Sl → RF) : Prop := ∀ (b : Nat) (ds : List D) (m : Int), DeckOk b ds → b < 2 ^ 40 → 1 ≤ m → m < 2 ^ 29 →
  ∃ r ds', F [.own (some 0) (.lst ds), .dat (.int m)] = .ok (.int r) [.lst ds'] ∧ 0 ≤ r ∧ r < m ∧ DeckOk (b + 1) ds'
theorem run_next {c_mix : List Sl → RF} (hm : MixOk c_mix) {b : Nat} {ds : List D} {m : Int} (hd : DeckOk b ds) (hb : b < 2 ^ 40) (h1 : 1 ≤ m) (h2 : m < 2 ^ 29) :
    ∃ r ds', runF 4 1 (body__law_next c_mix) [.own (some 0) (.lst ds), .dat (.int m)] = .ok (.int r) [.lst ds'] ∧ 0 ≤ r ∧ r < m ∧ DeckOk (b + 1) ds' := by
  obtain ⟨L, i, v, c, t, rfl, hl, hi, hc, hcb⟩ := hd
  have cd : ∀ x : Int, CDiv x m := fun x => ⟨by omega, by omega⟩
  have m0 : 0 < m := by omega
  by_cases hv : 0 < v
  · exact ⟨v % m, _, nx1 _ _ _ _ _ _ hv m0 (cd _), (mod_lt m0).1, (mod_lt m0).2, L, i, v / m, c, t, rfl, hl, hi, hc, by omega⟩
  · by_cases hv0 : v = 0 ∧ i < L.length
    · obtain ⟨rfl, hil⟩ := hv0
      obtain ⟨r, hr⟩ := hm L[i] ((i : Int) + 1) (by omega) (by omega)
      by_cases hbig : L[i] < 1000000000000000000
      · exact ⟨r % m, _, nx2 _ _ _ _ _ _ _ (by simpa using hil) (at_map hil) hbig m0 hr, (mod_lt m0).1, (mod_lt m0).2, L, i + 1, 0, c, t, rfl, hl, by omega, hc, by omega⟩
      · exact ⟨_, _, nx3 _ _ _ _ _ _ (by simpa using hil) (at_map hil) hbig m0 (cd _), (mod_lt m0).1, (mod_lt m0).2, L, i + 1, _, c, t, rfl, hl, by omega, hc, by omega⟩
    · obtain ⟨r, hr⟩ := hm t (c + 1 + 1061) (by omega) (by omega)
      exact ⟨r % m, _, nx4 _ _ _ _ _ _ _ hv (fun a b => hv0 ⟨a, by simpa using b⟩) m0 hr, (mod_lt m0).1, (mod_lt m0).2, L, i, v, c + 1, t, rfl, hl, hi, by omega, by omega⟩
theorem nextOk : NextOk (fun a => (run__law_next a).nox) := fun b ds m hd hb h1 h2 => by
  obtain ⟨r, ds', h, h3⟩ := run_next mixOk hd hb h1 h2
  exact ⟨r, ds', by simp only [run__law_next, h]; rfl, h3⟩
/-- a draw, wherever it stands -/
theorem draw {N : List Sl → RF} (hN : NextOk N) {b : Nat} {ds : List D} {m : Int} {p : XE} {e : En} {j : Nat} {t : Option Nat} (he : e[j]? = some (.own t (.lst ds))) (hp : p e = .ok (.int m) e) (hd : DeckOk b ds) (hb : b < 2 ^ 40) (h1 : 1 ≤ m) (h2 : m < 2 ^ 29) :
    ∃ r ds', eFn 2 1 N (rIo j (rCons p rNil)) e = .ok (.int r) (e.set j (.own t (.lst ds'))) ∧ 0 ≤ r ∧ r < m ∧ DeckOk (b + 1) ds' := by
  obtain ⟨r, ds', h, h3, h4, h5⟩ := hN _ _ _ hd hb h1 h2
  refine ⟨r, ds', ?_, h3, h4, h5⟩
  simp [eFn, rIo, he, rCons, hp, rNil, ios, resolve, h, behind, putO]
theorem run_deck (ns : List Int) (h : ns.length ≤ 63) : ∃ ds, run__law_deck [.scr (ns.map .int)] = .new ds [] ∧ DeckOk 0 ds := by
  have hc : cutD (ns.map PyData.int) none (some 63) = ns.map .int := by
    unfold cutD
    simp only [HT.sIx, List.drop_zero]
    rw [List.take_of_length_le]
    simp
    omega
  refine ⟨X5 (ns.map .int) 0 0 0 ns.sum, ?_, ns, 0, 0, 0, ns.sum, rfl, h, by omega, by omega, by omega⟩
  simp [run__law_deck, runF, body__law_deck, sRetN, nLst, aCons, eNew, nSlScr, oNone, oSome, eC, aNil, hc, eCall, outsOf, X5, show 5 ≤ sizeLine by decide]

/-! ### bits and faces -/
def BitsOk (F : List Sl → RF) : Prop := ∀ (b : Nat) (ds : List D), DeckOk b ds → b < 2 ^ 39 → ∃ (n : Nat) (ds' : List D), F [.own (some 0) (.lst ds)] = .ok (.int n) [.lst ds'] ∧ 1 ≤ n ∧ n ≤ 6 ∧ DeckOk (b + 3) ds'
theorem run_bits {N : List Sl → RF} (hN : NextOk N) {b : Nat} {ds : List D} (hd : DeckOk b ds) (hb : b < 2 ^ 39) : ∃ (n : Nat) (ds' : List D), runF 1 1 (body__law_bits N) [.own (some 0) (.lst ds)] = .ok (.int n) [.lst ds'] ∧ 1 ≤ n ∧ n ≤ 6 ∧ DeckOk (b + 3) ds' := by
  obtain ⟨r1, d1, q1, l1, u1, h1⟩ := draw hN (e := [.own (some 0) (.lst ds)]) (j := 0) (m := 6) (p := eC (.int 6)) rfl rfl hd (by omega) (by omega) (by omega)
  obtain ⟨r2, d2, q2, l2, u2, h2⟩ := draw hN (e := [.own (some 0) (.lst d1)]) (j := 0) (m := 3) (p := eC (.int 3)) rfl rfl h1 (by omega) (by omega) (by omega)
  obtain ⟨r3, d3, q3, l3, u3, h3⟩ := draw hN (e := [.own (some 0) (.lst d2)]) (j := 0) (m := 3) (p := eC (.int 3)) rfl rfl h2 (by omega) (by omega) (by omega)
  have z : ∀ x : Int, atI [PyData.int (1 + r1), .int 6, .int (1 + r2)] r3 = some (.int x) → 1 ≤ x ∧ x ≤ 6 → ∃ (n : Nat) (ds' : List D), runF 1 1 (body__law_bits N) [.own (some 0) (.lst ds)] = .ok (.int n) [.lst ds'] ∧ 1 ≤ n ∧ n ≤ 6 ∧ DeckOk (b + 3) ds' := fun x hx hr => by
    refine ⟨x.toNat, d3, ?_, by omega, by omega, h3⟩
    have ex : ((x.toNat : Nat) : Int) = x := by omega
    simp only [List.set_cons_zero] at q1 q2 q3
    simp [runF, body__law_bits, sRet, eOp, eCall, aCons, aNil, q1, q2, q3, eC, gLst, show 3 ≤ sizeLine by decide, hx, outsOf, ownK, ex]
  have : r3 = 0 ∨ r3 = 1 ∨ r3 = 2 := by omega
  rcases this with rfl | rfl | rfl
  · exact z (1 + r1) rfl (by omega)
  · exact z 6 rfl (by omega)
  · exact z (1 + r2) rfl (by omega)
theorem bitsOk : BitsOk (fun a => (run__law_bits a).nox) := fun b ds hd hb => by
  obtain ⟨n, ds', h, h3⟩ := run_bits nextOk hd hb
  exact ⟨n, ds', by simp only [run__law_bits, h]; rfl, h3⟩
theorem at_nat {α : Type} {l : List α} {r : Int} (h0 : 0 ≤ r) (h1 : r < l.length) : ∃ x, l[r.toNat]? = some x ∧ atI l r = some x := by
  have : r.toNat < l.length := by omega
  exact ⟨l[r.toNat], List.getElem?_eq_getElem this, by unfold atI ixN; rw [if_pos h0, if_pos h1]; exact List.getElem?_eq_getElem this⟩
theorem face_go {N : List Sl → RF} (hN : NextOk N) {s : List Nat} (hs : Signs s) (h1 : 1 ≤ s.length) (h2 : s.length ≤ 9) (x1 x2 : Sl) : ∀ (items : List D) (b : Nat) (ds acc : List D), DeckOk b ds → b + items.length < 2 ^ 39 →
    ∃ l ds', lcGo (gN 4) (fun e => R.ok true e) (eOp dIx (eVar 3) (eFn 2 1 N (rIo 0 (rCons (eCall dLen (aCons (eVar 3) aNil)) rNil)))) [4] items [.own (some 0) (.lst ds), x1, x2, .dat (.str (tx s)), .un] acc =
      .ok (acc ++ l.map fun c => .str (tx [c])) [.own (some 0) (.lst ds'), x1, x2, .dat (.str (tx s)), .un] ∧ l.length = items.length ∧ Signs l ∧ DeckOk (b + items.length) ds'
  | [], b, ds, acc, hd, _ => ⟨[], ds, by simp [lcGo], rfl, fun _ h => by simp at h, hd⟩
  | d :: items, b, ds, acc, hd, hb => by
    have hb' : b + (items.length + 1) < 2 ^ 39 := hb
    have sz : s.length ≤ sizeLine := Nat.le_trans h2 (by decide)
    obtain ⟨r, d1, q1, l1, u1, g1⟩ := draw hN (e := [.own (some 0) (.lst ds), x1, x2, .dat (.str (tx s)), .dat d]) (j := 0) (m := s.length) (p := eCall dLen (aCons (eVar 3) aNil)) rfl (by simp [eCall, aCons, aNil, eVar, sz]) hd (by omega) (by omega) (by omega)
    obtain ⟨c, hc, hr⟩ := at_nat (l := s) l1 (by omega)
    obtain ⟨l, ds', h, hl, hsl, hd'⟩ := face_go hN hs h1 h2 x1 x2 items (b + 1) d1 (acc ++ [.str (tx [c])]) g1 (by omega)
    refine ⟨c :: l, ds', ?_, by simp [hl], fun x hx => ?_, ?_⟩
    · simp only [List.set_cons_zero] at q1
      simp [lcGo, gN, eOp, eVar, q1, sz, hr, R.noex, wipeE, tx_one, h]
    · rcases List.mem_cons.mp hx with rfl | hx
      · exact hs x (List.mem_of_getElem? hc)
      · exact hsl x hx
    · have e : b + 1 + items.length = b + (items.length + 1) := by omega
      rw [e] at hd'
      exact hd'
def FaceOk (F : List Sl → RF) : Prop := ∀ (b : Nat) (ds : List D) (n : Nat), DeckOk b ds → b < 2 ^ 38 → 1 ≤ n → n ≤ 6 →
  ∃ (f : List Nat) (ds' : List D), F [.own (some 0) (.lst ds), .dat (.int n)] = .ok (.str (tx f)) [.lst ds'] ∧ f.length = n ∧ Signs f ∧ DeckOk (b + 7) ds'
theorem run_face {N : List Sl → RF} (hN : NextOk N) {b : Nat} {ds : List D} {n : Nat} (hd : DeckOk b ds) (hb : b < 2 ^ 38) (h1 : 1 ≤ n) (h6 : n ≤ 6) : ∃ (f : List Nat) (ds' : List D), runF 5 1 (body__law_face N) [.own (some 0) (.lst ds), .dat (.int n)] = .ok (.str (tx f)) [.lst ds'] ∧ f.length = n ∧ Signs f ∧ DeckOk (b + 7) ds' := by
  obtain ⟨r1, d1, q1, l1, u1, g1⟩ := draw hN (e := [.own (some 0) (.lst ds), .dat (.int n), .un, .un, .un]) (j := 0) (m := 5) (p := eC (.int 5)) rfl rfl hd (by omega) (by omega) (by omega)
  simp only [List.set_cons_zero] at q1
  have z : ∀ s : List Nat, Signs s → 1 ≤ s.length → s.length ≤ 9 → dIx (.list [.str (Str.ofString "01*"), .str (Str.ofString "01"), .str (Str.ofString "*"), .str (Str.ofString "01010101*"), .str (Str.ofString "01****")]) (.int r1) = some (.str (tx s)) →
      ∃ (f : List Nat) (ds' : List D), runF 5 1 (body__law_face N) [.own (some 0) (.lst ds), .dat (.int n)] = .ok (.str (tx f)) [.lst ds'] ∧ f.length = n ∧ Signs f ∧ DeckOk (b + 7) ds' := fun s hs s1 s2 ha => by
    obtain ⟨l, ds', h, hl, hsl, hd'⟩ := face_go hN hs s1 s2 (.dat (.int n)) (.dat (.int r1)) (rgD 0 n) (b + 1) d1 [] g1 (by simp [rgD]; omega)
    have hlen : (rgD 0 n).length = n := by simp
    have hj2 : dJoin (.str (Str.ofString "")) [.list (l.map fun c => .str (tx [c]))] = some (.str (tx l)) := by
      rw [show Str.ofString "" = tx [] by decide +kernel]; exact join_signs (l := l) (by omega)
    refine ⟨l, ds', ?_, by omega, hsl, ?_⟩
    · have hr1 : rg1 [.int n] = some (rgD 0 n) := rg1_nat (by omega)
      have sz : (rgD 0 n).length < sizeLine := lt_line (by omega)
      refine run_rt (e := [.own (some 0) (.lst ds'), .dat (.int n), .dat (.int r1), .dat (.str (tx s)), .un]) ?_ rfl
      refine ss_seq (ss_setD q1) ?_
      refine ss_seq (ss_setD (st_op (st_call (st_ac st_c (st_ac st_c (st_ac st_c (st_ac st_c (st_ac st_c st_an))))) (if_pos (by decide))) (st_var rfl) ha)) ?_
      exact ss_rt (st_meth st_c rfl (st_ac (st_new (nl_lc (it_args (st_ac (st_var rfl) st_an) hr1) sz h)) st_an) hj2)
    · have e : b + 1 + (rgD 0 n).length ≤ b + 7 := by omega
      obtain ⟨L, i, v, c, t, k1, k2, k3, k4, k5⟩ := hd'
      exact ⟨L, i, v, c, t, k1, k2, k3, k4, by omega⟩
  have : r1 = 0 ∨ r1 = 1 ∨ r1 = 2 ∨ r1 = 3 ∨ r1 = 4 := by omega
  rw [s_01s, s_01, s_s, s_w3, s_w4] at z
  rcases this with rfl | rfl | rfl | rfl | rfl
  · exact z [48, 49, 42] (by unfold Signs; decide) (by decide) (by decide) rfl
  · exact z [48, 49] (by unfold Signs; decide) (by decide) (by decide) rfl
  · exact z [42] (by unfold Signs; decide) (by decide) (by decide) rfl
  · exact z [48, 49, 48, 49, 48, 49, 48, 49, 42] (by unfold Signs; decide) (by decide) (by decide) rfl
  · exact z [48, 49, 42, 42, 42, 42] (by unfold Signs; decide) (by decide) (by decide) rfl
theorem faceOk : FaceOk (fun a => (run__law_face a).nox) := fun b ds n hd hb h1 h6 => by
  obtain ⟨f, ds', h, h3⟩ := run_face nextOk hd hb h1 h6
  exact ⟨f, ds', by simp only [run__law_face, h]; rfl, h3⟩
end G
set_option linter.all false
set_option maxRecDepth 100000
namespace G
open PySem PySem.Spec PyProof.Rows L2
def txs (b : List (List Nat)) : List D := b.map fun l => .str (tx l)
@[simp] theorem txs_len (b : List (List Nat)) : (txs b).length = b.length := by simp [txs]
theorem co_in1 (a0 a1 a2 a3 : Sl) (s : List Nat) (hs : s.length ≤ 1000) : ∀ (cs : List Nat) (acc : List D), lcGo (gN 5) (fun e => R.ok true e) (eOp dAdd (eVar 4) (eVar 5)) [5] (cs.map fun x => .str (tx [x])) [a0, a1, a2, a3, .dat (.str (tx s)), .un] acc =
    .ok (acc ++ txs (cs.map fun x => s ++ [x])) [a0, a1, a2, a3, .dat (.str (tx s)), .un]
  | [], acc => by simp [lcGo, txs]
  | c :: cs, acc => by
    refine lc_yes (y := .str (tx (s ++ [c]))) (e1 := [a0, a1, a2, a3, .dat (.str (tx s)), .dat (.str (tx [c]))]) rfl rfl (st_op (st_var rfl) (st_var rfl) (dAdd_tx (by simp; omega))) ?_
    refine (co_in1 a0 a1 a2 a3 s hs cs _).trans ?_
    simp [txs]
theorem co_in2 (a0 a1 a2 : Sl) (cs : List Nat) (m : Nat) (hm : m ≤ 1000) : ∀ (b : List (List Nat)) (acc : List D), (∀ l ∈ b, l.length = m) → acc.length + b.length * cs.length + cs.length ≤ 1000000 →
    lc2Go (gN 4) (fun e => R.ok true e) (iOf (eVar 3)) (gN 5) (fun e => R.ok true e) (eOp dAdd (eVar 4) (eVar 5)) [4, 5] [5] (txs b) [a0, a1, a2, .dat (.str (tx cs)), .un, .un] acc =
      .ok (acc ++ txs (b.flatMap fun s => cs.map fun x => s ++ [x])) [a0, a1, a2, .dat (.str (tx cs)), .un, .un]
  | [], acc, _, _ => by simp [lc2Go, txs]
  | l :: b, acc, hl, hb => by
    have hb' : acc.length + (b.length * cs.length + cs.length) + cs.length ≤ 1000000 := by
      have : (b.length + 1) * cs.length = b.length * cs.length + cs.length := Nat.succ_mul _ _
      simp only [List.length_cons] at hb
      omega
    refine lc2_yes (e1 := [a0, a1, a2, .dat (.str (tx cs)), .dat (.str (tx l)), .un]) rfl rfl (it_of (st_var rfl) (iD_tx cs)) (by rw [List.length_map]; exact lt_line (by omega)) (co_in1 a0 a1 a2 _ l (by rw [hl l (by simp)]; exact hm) cs acc) ?_
    refine (co_in2 a0 a1 a2 cs m hm b _ (fun x hx => hl x (by simp [hx])) ?_).trans ?_
    · simp [txs]; omega
    · simp [txs, List.flatMap_cons]
def CorOk (F : List Sl → RF) : Prop := ∀ f : List Nat, Signs f → f.length ≤ 6 → F [.dat (.str (tx f))] = .ok (.tuple (txs (cor f))) []
theorem fs_len {b : List (List Nat)} {m c : Nat} (h : ∀ l ∈ b, l.length = m) : ∀ l ∈ fstep b c, l.length = m + 1 := by
  intro l hl
  simp only [fstep, List.mem_flatMap, List.mem_map] at hl
  obtain ⟨s, hs, x, _, rfl⟩ := hl
  simp [h s hs]
theorem fs_cnt (b : List (List Nat)) (c : Nat) : (fstep b c).length ≤ 2 * b.length := by
  unfold fstep
  induction b with
  | nil => simp
  | cons a r ih =>
    simp only [List.flatMap_cons, List.length_append, List.length_map, List.length_cons]
    have : (ch c).length ≤ 2 := by unfold ch; split <;> simp
    omega
theorem co_go (F : Sl) : ∀ (f : List Nat) (b : List (List Nat)) (m : Nat) (x2 x3 : Sl), Signs f → (∀ l ∈ b, l.length = m) → m + f.length ≤ 900 → f.length ≤ 6 → b.length * 2 ^ f.length ≤ 1000 → ∃ x2' x3',
    forD (gN 2) (sSeq (sSet 3 (eIf (tOf (eOp dEq (eVar 2) (eC (.str (Str.ofString "*"))))) (eC (.str (Str.ofString "01"))) (eVar 2)))
      (sSet 1 (eNew (nLc2 (iOf (eVar 1)) (gN 4) (fun e => R.ok true e) (iOf (eVar 3)) (gN 5) (fun e => R.ok true e) (eOp dAdd (eVar 4) (eVar 5)) [4, 5] [5])))) (f.map fun c => .str (tx [c]))
      [F, .dat (.list (txs b)), x2, x3, .un, .un] = .ok .nx [F, .dat (.list (txs (f.foldl fstep b))), x2', x3', .un, .un]
  | [], b, m, x2, x3, _, _, _, _, _ => ⟨x2, x3, rfl⟩
  | c :: f, b, m, x2, x3, hs, hl, hm, h6, hb => by
    have hp : b.length * 2 ^ (f.length + 1) ≤ 1000 := hb
    have hp' : (fstep b c).length * 2 ^ f.length ≤ 1000 := by
      have h := Nat.mul_le_mul_right (2 ^ f.length) (fs_cnt b c)
      have e : b.length * 2 ^ (f.length + 1) = 2 * b.length * 2 ^ f.length := by rw [Nat.pow_succ]; simp only [Nat.mul_comm, Nat.mul_left_comm, Nat.mul_assoc]
      omega
    have hb1 : b.length ≤ 1000 := by
      have h := Nat.mul_le_mul_left b.length (Nat.one_le_two_pow (n := f.length + 1))
      omega
    have h6' : f.length + 1 ≤ 6 := h6
    obtain ⟨y2, y3, ih⟩ := co_go F f (fstep b c) (m + 1) (.dat (.str (tx [c]))) (.dat (.str (tx (ch c)))) (fun x hx => hs x (by simp [hx])) (fs_len hl) (by simp only [List.length_cons] at hm; omega) (by omega) hp'
    refine ⟨y2, y3, ?_⟩
    have hc : (ch c).length ≤ 2 := by unfold ch; split <;> simp
    have hif : eIf (tOf (eOp dEq (eVar 2) (eC (.str (Str.ofString "*"))))) (eC (.str (Str.ofString "01"))) (eVar 2) [F, .dat (.list (txs b)), .dat (.str (tx [c])), x3, .un, .un] = .ok (.str (tx (ch c))) [F, .dat (.list (txs b)), .dat (.str (tx [c])), x3, .un, .un] := by
      have ht : tOf (eOp dEq (eVar 2) (eC (.str (Str.ofString "*")))) [F, .dat (.list (txs b)), .dat (.str (tx [c])), x3, .un, .un] = .ok (decide (c = 42)) [F, .dat (.list (txs b)), .dat (.str (tx [c])), x3, .un, .un] :=
        tt_of (st_op (st_var rfl) st_c (by rw [s_s, dEq_str]; simp))
      unfold eIf
      rw [ht]
      by_cases h : c = 42
      · subst h
        rw [s_01]; rfl
      · have e : decide (c = 42) = false := decide_eq_false h
        rw [e]
        have e2 : ch c = [c] := by unfold ch; rw [if_neg h]
        rw [e2]; rfl
    refine fd_nx (e1 := [F, .dat (.list (txs b)), .dat (.str (tx [c])), x3, .un, .un]) rfl (ss_seq (ss_setD hif) (ss_setD (st_new (nl_lc2 (it_of (st_var rfl) (iD_list _)) (co_in2 F _ _ (ch c) m (by omega) b [] hl ?_))))) ih
    have : b.length * (ch c).length ≤ 1000 * 2 := Nat.mul_le_mul hb1 hc
    simp only [List.length_nil]
    omega
theorem corOk : CorOk (fun a => (run_corners_of a).nox) := fun f hs h6 => by
  obtain ⟨x2, x3, h⟩ := co_go (.dat (.str (tx f))) f [[]] 0 .un .un hs (by simp) (by omega) h6 (by
    have : 2 ^ f.length ≤ 2 ^ 6 := Nat.pow_le_pow_right (by decide) h6
    simp only [List.length_cons, List.length_nil]
    omega)
  rw [fold_cor0] at h
  have hr : run_corners_of [.dat (.str (tx f))] = .ok (.tuple (txs (cor f))) [] := by
    refine run_rt (e := [.dat (.str (tx f)), .dat (.list (txs (cor f))), x2, x3, .un, .un]) ?_ rfl
    refine ss_seq (ss_setD (st_call (st_ac st_c st_an) (if_pos (by decide)))) ?_
    refine ss_seq (ss_forD (it_of (st_var rfl) (iD_tx f)) h) ?_
    exact ss_rt (st_call (st_ac (st_var rfl) st_an) rfl)
  simp only [hr]; rfl
end G
set_option linter.all false
set_option maxRecDepth 100000
namespace G
open PySem PySem.Spec PyProof.Rows L2
theorem ss_asgD {t : XG} {p : XE} {e e1 e2 : En} {d : D} (h : p e = .ok d e1) (h2 : t d e1 = some e2) : sAsg t p e = .ok .nx e2 := by unfold sAsg; rw [h]; show (match t d e1 with | some e' => R.ok Fl.nx e' | none => .bad) = _; rw [h2]
theorem st_bits {p : XE} {e e1 : En} {i : Int} (h : p e = .ok (.int i) e1) : eBits p e = .ok (.int (Builtin.Int.intBits i : Nat)) e1 := by unfold eBits; rw [h]; rfl
theorem eif_t {t : XT} {p q : XE} {e e1 : En} {r : R D} (h : t e = .ok true e1) (h2 : p e1 = r) : eIf t p q e = r := by unfold eIf; rw [h]; exact h2
theorem eif_f {t : XT} {p q : XE} {e e1 : En} {r : R D} (h : t e = .ok false e1) (h2 : q e1 = r) : eIf t p q e = r := by unfold eIf; rw [h]; exact h2
theorem fl_txs (cs : List (List Nat)) : (txs cs).all flD = true := by induction cs <;> simp_all [txs, flD]
theorem any_txs (l : List Nat) : ∀ cs : List (List Nat), ((txs cs).any fun y => eqS y (.str (tx l))) = decide (l ∈ cs)
  | [] => rfl
  | a :: r => by
    have e : eqS (.str (tx a)) (.str (tx l)) = decide (a = l) := by
      show (tx a == tx l) = _
      rw [Bool.eq_iff_iff, beq_iff_eq, decide_eq_true_iff, tx_inj]
    have h : (eqS (.str (tx a)) (.str (tx l)) || ((txs r).any fun y => eqS y (.str (tx l)))) = decide (l ∈ a :: r) := by
      rw [e, any_txs l r]
      by_cases h : a = l
      · subst h; simp
      · have h' : ¬ l = a := fun q => h q.symm
        simp [h, h']
    exact h
theorem dIn_txs (l : List Nat) (cs : List (List Nat)) : dIn (.str (tx l)) (.tuple (txs cs)) = some (.bool (decide (l ∈ cs))) := by
  show dInQ false _ _ = _
  unfold dInQ
  rw [if_pos ⟨rfl, fl_txs cs⟩, any_txs]
  rfl
theorem stars {n : Nat} (h1 : 1 ≤ n) (h6 : n ≤ 6) : dMulS (.str (Str.ofString "*")) (.int n) = some (.str (tx (List.replicate n 42))) := by
  rw [s_s]
  have : n = 1 ∨ n = 2 ∨ n = 3 ∨ n = 4 ∨ n = 5 ∨ n = 6 := by omega
  rcases this with rfl | rfl | rfl | rfl | rfl | rfl <;> rfl
theorem sg_rep (n : Nat) : Signs (List.replicate n 42) := fun c h => .inr (.inr (List.eq_of_mem_replicate h))
def markOf (cs b : List (List Nat)) : List Nat := b.map fun l => if l ∈ cs then 49 else 48
theorem shown_go (a0 a1 : Sl) (cs : List (List Nat)) : ∀ (b : List (List Nat)) (acc : List D),
    lcGo (gN 3) (fun e => R.ok true e) (eIf (tOf (eOp dIn (eVar 3) (eVar 2))) (eC (.str (Str.ofString "1"))) (eC (.str (Str.ofString "0")))) [3] (txs b) [a0, a1, .dat (.tuple (txs cs)), .un] acc =
      .ok (acc ++ (markOf cs b).map fun c => .str (tx [c])) [a0, a1, .dat (.tuple (txs cs)), .un]
  | [], acc => by simp [lcGo, txs, markOf]
  | l :: b, acc => by
    have tt : tOf (eOp dIn (eVar 3) (eVar 2)) [a0, a1, .dat (.tuple (txs cs)), .dat (.str (tx l))] = .ok (decide (l ∈ cs)) [a0, a1, .dat (.tuple (txs cs)), .dat (.str (tx l))] := tt_of (st_op (st_var rfl) (st_var rfl) (dIn_txs l cs))
    have ih := shown_go a0 a1 cs b
    have x : eIf (tOf (eOp dIn (eVar 3) (eVar 2))) (eC (.str (Str.ofString "1"))) (eC (.str (Str.ofString "0"))) [a0, a1, .dat (.tuple (txs cs)), .dat (.str (tx l))] = .ok (.str (tx [if l ∈ cs then 49 else 48])) [a0, a1, .dat (.tuple (txs cs)), .dat (.str (tx l))] := by
      by_cases h : l ∈ cs
      · rw [show decide (l ∈ cs) = true by simp [h]] at tt
        rw [if_pos h, s_1, s_0]
        exact eif_t tt rfl
      · rw [show decide (l ∈ cs) = false by simp [h]] at tt
        rw [if_neg h, s_1, s_0]
        exact eif_f tt rfl
    refine lc_yes (e1 := [a0, a1, .dat (.tuple (txs cs)), .dat (.str (tx l))]) rfl rfl x (Eq.trans (ih _) ?_)
    simp [markOf]
def ShownOk (F : List Sl → RF) : Prop := ∀ (n : Nat) (cs : List (List Nat)), 1 ≤ n → n ≤ 6 → F [.dat (.tuple [.int n, .tuple (txs cs)])] = .ok (.str (tx (markOf cs (cor (List.replicate n 42))))) []
theorem run_shown {Fc : List Sl → RF} (hC : CorOk Fc) {n : Nat} {cs : List (List Nat)} (h1 : 1 ≤ n) (h6 : n ≤ 6) : runF 4 0 (body_set_shown Fc) [.dat (.tuple [.int n, .tuple (txs cs)])] = .ok (.str (tx (markOf cs (cor (List.replicate n 42))))) [] := by
  have hl : (List.replicate n 42).length ≤ 6 := by simpa using h6
  have hc := hC (List.replicate n 42) (sg_rep n) hl
  have h64 := cor_le hl
  have hj : dJoin (.str (Str.ofString "")) [.list ((markOf cs (cor (List.replicate n 42))).map fun c => .str (tx [c]))] = some (.str (tx (markOf cs (cor (List.replicate n 42))))) := by
    rw [s_e]; exact join_signs (by simp only [markOf, List.length_map]; omega)
  refine run_rt (e := [.dat (.tuple [.int n, .tuple (txs cs)]), .dat (.int n), .dat (.tuple (txs cs)), .un]) (os := []) ?_ rfl
  refine ss_seq (ss_asgD (st_var rfl) (e2 := [.dat (.tuple [.int n, .tuple (txs cs)]), .dat (.int n), .dat (.tuple (txs cs)), .un]) rfl) ?_
  exact ss_rt (st_meth st_c rfl (st_ac (st_new (nl_lc (it_of (cl_ok (sr_consD (st_op st_c (st_var rfl) (stars h1 h6)) sr_nilD) rfl rfl rfl hc) (iD_tuple _)) (lt_line (by rw [txs_len]; omega)) (shown_go _ _ cs (cor (List.replicate n 42)) []))) st_an) hj)
theorem shownOk : ShownOk (fun a => (run_set_shown a).nox) := fun n cs h1 h6 => by
  simp only [run_set_shown, run_shown corOk h1 h6]; rfl
def Bin (m : List Nat) : Prop := ∀ c ∈ m, c = 48 ∨ c = 49
theorem read_go (a0 a3 a4 a5 a6 a7 : Sl) : ∀ (m : List Nat) (i : Nat) (x1 x2 : Sl), Bin m → ∃ y1 y2,
    forD (gT 2 (gsCons (gN 1) (gsCons (gN 2) gsNil))) (sIf (tAnd (tOf (eOp dNe (eVar 2) (eC (.str (Str.ofString "0"))))) (tOf (eOp dNe (eVar 2) (eC (.str (Str.ofString "1")))))) sBad sNx) (enumD i (m.map fun c => .str (tx [c]))) [a0, x1, x2, a3, a4, a5, a6, a7] =
      .ok .nx [a0, y1, y2, a3, a4, a5, a6, a7]
  | [], i, x1, x2, _ => ⟨x1, x2, rfl⟩
  | c :: m, i, x1, x2, h => by
    obtain ⟨y1, y2, ih⟩ := read_go a0 a3 a4 a5 a6 a7 m (i + 1) (.dat (.int i)) (.dat (.str (tx [c]))) fun x hx => h x (by simp [hx])
    refine ⟨y1, y2, fd_nx (e1 := [a0, .dat (.int i), .dat (.str (tx [c])), a3, a4, a5, a6, a7]) rfl (ss_iff (e1 := [a0, .dat (.int i), .dat (.str (tx [c])), a3, a4, a5, a6, a7]) ?_ rfl) ih⟩
    have t1 : tOf (eOp dNe (eVar 2) (eC (.str (Str.ofString "0")))) [a0, .dat (.int i), .dat (.str (tx [c])), a3, a4, a5, a6, a7] = .ok (!decide (c = 48)) [a0, .dat (.int i), .dat (.str (tx [c])), a3, a4, a5, a6, a7] :=
      tt_of (st_op (st_var rfl) st_c (by rw [s_0, dNe_str]; simp))
    have t2 : tOf (eOp dNe (eVar 2) (eC (.str (Str.ofString "1")))) [a0, .dat (.int i), .dat (.str (tx [c])), a3, a4, a5, a6, a7] = .ok (!decide (c = 49)) [a0, .dat (.int i), .dat (.str (tx [c])), a3, a4, a5, a6, a7] :=
      tt_of (st_op (st_var rfl) st_c (by rw [s_1, dNe_str]; simp))
    rcases h c (by simp) with rfl | rfl
    · exact tt_and_f t1
    · exact tt_and_t t1 t2
def pick (b : List (List Nat)) (m : List Nat) : List (List Nat) := ((b.zip m).filter fun (_, c) => decide (c = 49)).map (·.1)
theorem pick_go (a0 a1 a2 a3 a4 a5 : Sl) : ∀ (b : List (List Nat)) (m : List Nat) (acc : List D),
    lcGo (gT 2 (gsCons (gN 6) (gsCons (gN 7) gsNil))) (tOf (eOp dEq (eVar 7) (eC (.str (Str.ofString "1"))))) (eVar 6) [6, 7] (zipD (txs b) (m.map fun c => .str (tx [c]))) [a0, a1, a2, a3, a4, a5, .un, .un] acc =
      .ok (acc ++ txs (pick b m)) [a0, a1, a2, a3, a4, a5, .un, .un]
  | [], m, acc => by simp [zipD, lcGo, txs, pick]
  | l :: b, [], acc => by simp [zipD, lcGo, txs, pick]
  | l :: b, c :: m, acc => by
    have ih := pick_go a0 a1 a2 a3 a4 a5 b m
    have t1 : tOf (eOp dEq (eVar 7) (eC (.str (Str.ofString "1")))) [a0, a1, a2, a3, a4, a5, .dat (.str (tx l)), .dat (.str (tx [c]))] = .ok (decide (c = 49)) [a0, a1, a2, a3, a4, a5, .dat (.str (tx l)), .dat (.str (tx [c]))] :=
      tt_of (st_op (st_var rfl) st_c (by rw [s_1, dEq_str]; simp))
    by_cases h : c = 49
    · rw [show decide (c = 49) = true by simp [h]] at t1
      refine lc_yes (e1 := [a0, a1, a2, a3, a4, a5, .dat (.str (tx l)), .dat (.str (tx [c]))]) rfl t1 (st_var rfl) (Eq.trans (ih _) ?_)
      simp [txs, pick, h]
    · rw [show decide (c = 49) = false by simp [h]] at t1
      refine lc_no (e1 := [a0, a1, a2, a3, a4, a5, .dat (.str (tx l)), .dat (.str (tx [c]))]) rfl t1 (Eq.trans (ih _) ?_)
      simp [txs, pick, h]
def ReadOk (F : List Sl → RF) : Prop := ∀ (n : Nat) (m : List Nat), 1 ≤ n → n ≤ 6 → m.length = 2 ^ n → Bin m → F [.dat (.str (tx m))] = .ok (.tuple [.int n, .tuple (txs (pick (cor (List.replicate n 42)) m))]) []
theorem six {P : Nat → Prop} (h1 : P 1) (h2 : P 2) (h3 : P 3) (h4 : P 4) (h5 : P 5) (h6 : P 6) : ∀ n, 1 ≤ n → n ≤ 6 → P n := fun n a b => by
  have : n = 1 ∨ n = 2 ∨ n = 3 ∨ n = 4 ∨ n = 5 ∨ n = 6 := by omega
  rcases this with rfl | rfl | rfl | rfl | rfl | rfl <;> assumption
theorem run_read {Fc : List Sl → RF} (hC : CorOk Fc) {n : Nat} {m : List Nat} (h1 : 1 ≤ n) (h6 : n ≤ 6) (hm : m.length = 2 ^ n) (hb : Bin m) : runF 8 0 (body_read_set Fc) [.dat (.str (tx m))] = .ok (.tuple [.int n, .tuple (txs (pick (cor (List.replicate n 42)) m))]) [] := by
  have hl : (List.replicate n 42).length ≤ 6 := by simpa using h6
  have hc := hC (List.replicate n 42) (sg_rep n) hl
  have h64 := cor_le hl
  have hp : 2 ^ n ≤ 2 ^ 6 := Nat.pow_le_pow_right (by decide) h6
  have hnin : dNin (.int (2 ^ n : Nat)) (.tuple [.int 2, .int 4, .int 8, .int 16, .int 32, .int 64]) = some (.bool false) := six (P := fun n => dNin (.int (2 ^ n : Nat)) (.tuple [.int 2, .int 4, .int 8, .int 16, .int 32, .int 64]) = some (.bool false)) rfl rfl rfl rfl rfl rfl n h1 h6
  have hbits : ((Builtin.Int.intBits ((2 ^ n : Nat) : Int) : Nat) : Int) - 1 = n := six (P := fun n => ((Builtin.Int.intBits ((2 ^ n : Nat) : Int) : Nat) : Int) - 1 = n) (by decide) (by decide) (by decide) (by decide) (by decide) (by decide) n h1 h6
  obtain ⟨y1, y2, hf⟩ := read_go (.dat (.str (tx m))) .un .un .un .un .un m 0 .un .un hb
  have hz : (zipD (txs (cor (List.replicate n 42))) (m.map fun c => .str (tx [c]))).length < sizeLine := by
    rw [zipD_len]; exact lt_line (by rw [txs_len]; omega)
  have hq : dSub (.int (Builtin.Int.intBits ((2 ^ n : Nat) : Int) : Nat)) (.int 1) = some (.int n) := by rw [dSub_int, hbits]
  refine run_rt (e := [.dat (.str (tx m)), y1, y2, .dat (.int (2 ^ n : Nat)), .dat (.int n), .dat (.tuple (txs (cor (List.replicate n 42)))), .un, .un]) (os := []) ?_ rfl
  refine ss_seq (ss_forD (it_args (st_ac (st_var rfl) st_an) rfl) hf) ?_
  refine ss_seq (ss_setD (st_call (st_ac (st_var rfl) st_an) (d := .int (2 ^ n : Nat)) ?_)) ?_
  · rw [dLen_str, if_pos (le_line (by rw [tx_len]; omega)), tx_len, hm]
  refine ss_seq (ss_iff (tt_of (st_op (st_var rfl) st_c hnin)) ss_nx) ?_
  refine ss_seq (ss_setD (st_op (st_bits (st_var rfl)) st_c hq)) ?_
  refine ss_seq (ss_setD (cl_ok (sr_consD (st_op st_c (st_var rfl) (stars h1 h6)) sr_nilD) rfl rfl rfl hc)) ?_
  exact ss_rt (st_call (st_ac (st_var rfl) (st_ac (st_call (st_ac (st_new (nl_lc (it_args (st_ac (st_var rfl) (st_ac (st_var rfl) st_an)) rfl) hz (pick_go _ _ _ _ _ _ (cor (List.replicate n 42)) m []))) st_an) rfl) st_an)) (if_pos (by show 2 ≤ sizeLine; decide)))
theorem readOk : ReadOk (fun a => (run_read_set a).nox) := fun n m h1 h6 hm hb => by
  simp only [run_read_set, run_read corOk h1 h6 hm hb]; rfl
end G
set_option Elab.async false
set_option linter.all false
set_option maxRecDepth 100000
namespace G
open PySem PySem.Spec PyProof.Rows L2
/-! corners as numbers -/
theorem snoc_ind {α : Type} {P : List α → Prop} (h0 : P []) (hs : ∀ l a, P l → P (l ++ [a])) (l : List α) : P l := by
  have h : ∀ r : List α, P r.reverse := fun r => by
    induction r with
    | nil => exact h0
    | cons a r ih => rw [List.reverse_cons]; exact hs _ _ ih
  simpa using h l.reverse
def vl (l : List Nat) : Nat := l.foldl (fun a c => 2 * a + (c - 48)) 0
theorem vl_snoc (l : List Nat) (c : Nat) : vl (l ++ [c]) = 2 * vl l + (c - 48) := by simp [vl]
def Bn (l : List Nat) : Prop := ∀ c ∈ l, c = 48 ∨ c = 49
theorem vl_bit (l : List Nat) : Bn l → ∀ p (h : p < l.length), vl l / 2 ^ (l.length - 1 - p) % 2 = l[p] - 48 := by
  refine snoc_ind (P := fun l => Bn l → ∀ p (h : p < l.length), vl l / 2 ^ (l.length - 1 - p) % 2 = l[p] - 48) (fun _ p h => by simp at h) (fun l a ih hb p h => ?_) l
  have hb' : Bn l := fun c hc => hb c (by simp [hc])
  have ha : a = 48 ∨ a = 49 := hb a (by simp)
  rw [vl_snoc]
  by_cases hp : p < l.length
  · rw [List.getElem_append_left hp, ← ih hb' p hp]
    have e : (l ++ [a]).length - 1 - p = (l.length - 1 - p) + 1 := by simp; omega
    rw [e, Nat.pow_succ, Nat.mul_comm (2 ^ _) 2, ← Nat.div_div_eq_div_mul]
    have e2 : (2 * vl l + (a - 48)) / 2 = vl l := by omega
    rw [e2]
  · have e : p = l.length := by simp at h; omega
    subst e
    simp
    omega
theorem vl_inj {l m : List Nat} (hl : Bn l) (hm : Bn m) (h : l.length = m.length) (e : vl l = vl m) : l = m := by
  refine List.ext_getElem h fun p h1 h2 => ?_
  have a := vl_bit l hl p h1
  have b := vl_bit m hm p h2
  rw [e, h, b] at a
  have c1 := hl _ (List.getElem_mem h1)
  have c2 := hm _ (List.getElem_mem h2)
  omega
/-! membership -/
def Mt : List Nat → List Nat → Prop
  | [], [] => True
  | s :: f, x :: c => x ∈ ch s ∧ Mt f c
  | _, _ => False
theorem mem_cor : ∀ {f c : List Nat}, c ∈ cor f ↔ Mt f c
  | [], [] => by simp [cor, Mt]
  | [], _ :: _ => by simp [cor, Mt]
  | s :: f, [] => by simp [cor, Mt]
  | s :: f, x :: c => by
    have ih := mem_cor (f := f) (c := c)
    simp only [cor, List.mem_flatMap, List.mem_map, Mt, ← ih]
    constructor
    · rintro ⟨y, hy, m, hm, e⟩
      cases e
      exact ⟨hy, hm⟩
    · rintro ⟨h1, h2⟩
      exact ⟨x, h1, c, h2, rfl⟩
theorem map_cons_nodup (x : Nat) {L : List (List Nat)} (h : L.Nodup) : (L.map (x :: ·)).Nodup := List.Pairwise.map _ (fun a b q e => q (by simpa using e)) h
theorem cor_nodup : ∀ (f : List Nat), (cor f).Nodup
  | [] => by simp [cor]
  | c :: f => by
    have ih := cor_nodup f
    unfold cor ch
    split
    · simp only [List.flatMap_cons, List.flatMap_nil, List.append_nil]
      refine List.nodup_append.mpr ⟨map_cons_nodup _ ih, map_cons_nodup _ ih, fun a ha b hb e => ?_⟩
      simp only [List.mem_map] at ha hb
      obtain ⟨m, _, rfl⟩ := ha
      obtain ⟨k, _, rfl⟩ := hb
      simp at e
    · simp only [List.flatMap_cons, List.flatMap_nil, List.append_nil]
      exact map_cons_nodup _ ih
theorem same_len {α : Type} {a b : List α} (h1 : a.Nodup) (h2 : b.Nodup) (h : ∀ j, j ∈ a ↔ j ∈ b) : a.length = b.length := ((List.perm_ext_iff_of_nodup h1 h2).mpr h).length_eq
theorem Mt_len : ∀ {f c : List Nat}, Mt f c → c.length = f.length
  | [], [], _ => rfl
  | _ :: f, _ :: c, h => by simp [Mt_len h.2]
  | [], _ :: _, h => h.elim
  | _ :: _, [], h => h.elim
theorem Mt_get : ∀ {f c : List Nat} {p s : Nat}, Mt f c → f[p]? = some s → ∃ x, c[p]? = some x ∧ x ∈ ch s
  | s :: f, x :: c, 0, _, h, e => by cases e; exact ⟨x, rfl, h.1⟩
  | _ :: f, _ :: c, p + 1, s, h, e => by simpa using Mt_get (p := p) h.2 (by simpa using e)
  | [], [], p, s, h, e => by simp at e
  | [], _ :: _, _, _, h, _ => h.elim
  | _ :: _, [], _, _, h, _ => h.elim
def pk (b : Nat) (f : List Nat) : List Nat := f.map fun s => if s = 42 then b else s
theorem Mt_pk {b : Nat} (hb : b = 48 ∨ b = 49) : ∀ (f : List Nat), Mt f (pk b f)
  | [] => trivial
  | s :: f => by
    refine ⟨?_, Mt_pk hb f⟩
    unfold ch
    by_cases h : s = 42
    · simp only [if_pos h]; rcases hb with rfl | rfl <;> simp
    · simp only [if_neg h]; simp
theorem pk_get {b : Nat} {f : List Nat} {p s : Nat} (h : f[p]? = some s) : (pk b f)[p]? = some (if s = 42 then b else s) := by simp [pk, h]
theorem cor_ne (f : List Nat) : cor f ≠ [] := fun h => by
  have := cor_count f
  rw [h] at this
  have := Nat.one_le_two_pow (n := f.count 42)
  simp at *
  omega
/-! the common face -/
def okp (z : Nat × Nat) : Bool := z.1 == z.2 || z.2 == 42 || z.1 == 42
def pkp (z : Nat × Nat) : Nat := if z.1 = z.2 ∨ z.2 = 42 then z.1 else z.2
def cmo (f g : List Nat) : Option (List Nat) := if (f.zip g).all okp then some ((f.zip g).map pkp) else none
theorem cm_mem : ∀ {f g : List Nat}, f.length = g.length → Signs f → Signs g → (f.zip g).all okp = true → ∀ c, (Mt f c ∧ Mt g c) ↔ Mt ((f.zip g).map pkp) c
  | [], [], _, _, _, _, c => by cases c <;> simp [Mt]
  | a :: f, b :: g, hl, hf, hg, h, c => by
    simp only [List.zip_cons_cons, List.all_cons, Bool.and_eq_true] at h
    cases c with
    | nil => simp [Mt]
    | cons x c =>
      have ih := cm_mem (f := f) (g := g) (by simpa using hl) (fun y hy => hf y (by simp [hy])) (fun y hy => hg y (by simp [hy])) h.2 c
      have hd : (x ∈ ch a ∧ x ∈ ch b) ↔ x ∈ ch (pkp (a, b)) := by
        have h1 := h.1
        unfold okp at h1
        simp only [Bool.or_eq_true, beq_iff_eq] at h1
        have ha := hf a (by simp)
        have hb := hg b (by simp)
        unfold pkp
        rcases ha with rfl | rfl | rfl <;> rcases hb with rfl | rfl | rfl <;> simp [ch] at h1 ⊢ <;> omega
      simp only [List.zip_cons_cons, List.map_cons, Mt]
      rw [← hd, ← ih]
      constructor
      · rintro ⟨⟨h1, h2⟩, h3, h4⟩; exact ⟨⟨h1, h3⟩, h2, h4⟩
      · rintro ⟨⟨h1, h3⟩, h2, h4⟩; exact ⟨⟨h1, h2⟩, h3, h4⟩
theorem cm_non : ∀ {f g : List Nat}, Signs f → Signs g → (f.zip g).all okp = false → ∀ c, ¬ (Mt f c ∧ Mt g c)
  | [], _, _, _, h, _ => by simp at h
  | _ :: _, [], _, _, h, _ => by simp at h
  | a :: f, b :: g, hf, hg, h, c => by
    rintro ⟨h1, h2⟩
    cases c with
    | nil => exact h1
    | cons x c =>
      simp only [List.zip_cons_cons, List.all_cons, Bool.and_eq_false_iff] at h
      rcases h with h | h
      · have ha := hf a (by simp)
        have hb := hg b (by simp)
        have q1 := h1.1
        have q2 := h2.1
        unfold okp at h
        simp only [Bool.or_eq_false_iff, beq_eq_false_iff_ne] at h
        unfold ch at q1 q2
        rw [if_neg h.2] at q1
        rw [if_neg h.1.2] at q2
        simp at q1 q2
        omega
      · exact cm_non (f := f) (g := g) (fun y hy => hf y (by simp [hy])) (fun y hy => hg y (by simp [hy])) h c ⟨h1.2, h2.2⟩
theorem signs_cm {f g : List Nat} (hf : Signs f) (hg : Signs g) : Signs ((f.zip g).map pkp) := fun c hc => by
  simp only [List.mem_map] at hc
  obtain ⟨⟨a, b⟩, hz, rfl⟩ := hc
  have := List.of_mem_zip hz
  unfold pkp
  split
  · exact hf _ this.1
  · exact hg _ this.2
/-! hulls -/
structure Hull (L : List (List Nat)) (h : List Nat) : Prop where
  at_ : ∀ p s : Nat, h[p]? = some s → (s = 48 ∧ ∀ c ∈ L, c[p]? = some 48) ∨ (s = 49 ∧ ∀ c ∈ L, c[p]? = some 49) ∨ (s = 42 ∧ (∀ c ∈ L, c[p]? = some 48 ∨ c[p]? = some 49) ∧ (∃ c ∈ L, c[p]? = some 48) ∧ ∃ c ∈ L, c[p]? = some 49)
theorem Hull.congr {L M : List (List Nat)} {h : List Nat} (H : Hull L h) (e : ∀ c, c ∈ L ↔ c ∈ M) : Hull M h := ⟨fun p s q => by
  rcases H.at_ p s q with ⟨a, b⟩ | ⟨a, b⟩ | ⟨a, b, ⟨c, hc, k⟩, d, hd, m⟩
  · exact .inl ⟨a, fun c hc => b c ((e c).mpr hc)⟩
  · exact .inr (.inl ⟨a, fun c hc => b c ((e c).mpr hc)⟩)
  · exact .inr (.inr ⟨a, fun c hc => b c ((e c).mpr hc), ⟨c, (e c).mp hc, k⟩, d, (e d).mp hd, m⟩)⟩
theorem ch42 {x : Nat} : x ∈ ch 42 ↔ x = 48 ∨ x = 49 := by simp [ch]
theorem hull_cor {f : List Nat} (hf : Signs f) : Hull (cor f) f := ⟨fun p s q => by
  have hs := hf s (List.mem_of_getElem? q)
  have all : ∀ c ∈ cor f, ∃ x, c[p]? = some x ∧ x ∈ ch s := fun c hc => Mt_get (mem_cor.mp hc) q
  rcases hs with rfl | rfl | rfl
  · exact .inl ⟨rfl, fun c hc => by obtain ⟨x, h1, h2⟩ := all c hc; simp [ch] at h2; rw [h1, h2]⟩
  · exact .inr (.inl ⟨rfl, fun c hc => by obtain ⟨x, h1, h2⟩ := all c hc; simp [ch] at h2; rw [h1, h2]⟩)
  · refine .inr (.inr ⟨rfl, fun c hc => ?_, ⟨pk 48 f, mem_cor.mpr (Mt_pk (.inl rfl) f), ?_⟩, pk 49 f, mem_cor.mpr (Mt_pk (.inr rfl) f), ?_⟩)
    · obtain ⟨x, h1, h2⟩ := all c hc
      rcases ch42.mp h2 with rfl | rfl
      · exact .inl h1
      · exact .inr h1
    · rw [pk_get q]; simp
    · rw [pk_get q]; simp⟩
def hup (z : Nat × Nat) : Nat := if z.1 = z.2 then z.1 else 42
def hulU (f g : List Nat) : List Nat := (f.zip g).map hup
theorem hull_two {f g : List Nat} (hf : Signs f) (hg : Signs g) : Hull (cor f ++ cor g) (hulU f g) := ⟨fun p s q => by
  unfold hulU at q
  rw [List.getElem?_map] at q
  cases e : (f.zip g)[p]? with
  | none => rw [e] at q; cases q
  | some z =>
    obtain ⟨a, b⟩ := z
    rw [e] at q
    simp only [Option.map_some, Option.some.injEq] at q
    obtain ⟨ea, eb⟩ := List.getElem?_zip_eq_some.mp e
    have ea : f[p]? = some a := ea
    have eb : g[p]? = some b := eb
    have H1 := (hull_cor hf).at_ p a ea
    have H2 := (hull_cor hg).at_ p b eb
    have L : ∀ {P : List Nat → Prop}, (∀ c ∈ cor f, P c) → (∀ c ∈ cor g, P c) → ∀ c ∈ cor f ++ cor g, P c := fun h1 h2 c hc => (List.mem_append.mp hc).elim (h1 c) (h2 c)
    have f0 : ∃ c, c ∈ cor f := ⟨_, mem_cor.mpr (Mt_pk (.inl rfl) f)⟩
    have g0 : ∃ c, c ∈ cor g := ⟨_, mem_cor.mpr (Mt_pk (.inl rfl) g)⟩
    have M1 : ∀ {P : List Nat → Prop}, (∃ c ∈ cor f, P c) → ∃ c ∈ cor f ++ cor g, P c := fun ⟨c, h, k⟩ => ⟨c, List.mem_append.mpr (.inl h), k⟩
    have M2 : ∀ {P : List Nat → Prop}, (∃ c ∈ cor g, P c) → ∃ c ∈ cor f ++ cor g, P c := fun ⟨c, h, k⟩ => ⟨c, List.mem_append.mpr (.inr h), k⟩
    obtain ⟨cf, hcf⟩ := f0
    obtain ⟨cg, hcg⟩ := g0
    unfold hup at q
    rcases H1 with ⟨rfl, h1⟩ | ⟨rfl, h1⟩ | ⟨rfl, h1, h3, h4⟩ <;> rcases H2 with ⟨rfl, h2⟩ | ⟨rfl, h2⟩ | ⟨rfl, h2, h5, h6⟩ <;> simp at q <;> subst q
    · exact .inl ⟨rfl, L h1 h2⟩
    · exact .inr (.inr ⟨rfl, L (fun c hc => .inl (h1 c hc)) (fun c hc => .inr (h2 c hc)), M1 ⟨cf, hcf, h1 _ hcf⟩, M2 ⟨cg, hcg, h2 _ hcg⟩⟩)
    · exact .inr (.inr ⟨rfl, L (fun c hc => .inl (h1 c hc)) h2, M2 h5, M2 h6⟩)
    · exact .inr (.inr ⟨rfl, L (fun c hc => .inr (h1 c hc)) (fun c hc => .inl (h2 c hc)), M2 ⟨cg, hcg, h2 _ hcg⟩, M1 ⟨cf, hcf, h1 _ hcf⟩⟩)
    · exact .inr (.inl ⟨rfl, L h1 h2⟩)
    · exact .inr (.inr ⟨rfl, L (fun c hc => .inr (h1 c hc)) h2, M2 h5, M2 h6⟩)
    · exact .inr (.inr ⟨rfl, L h1 (fun c hc => .inl (h2 c hc)), M1 h3, M1 h4⟩)
    · exact .inr (.inr ⟨rfl, L h1 (fun c hc => .inr (h2 c hc)), M1 h3, M1 h4⟩)
    · exact .inr (.inr ⟨rfl, L h1 h2, M1 h3, M1 h4⟩)⟩
/-! has all -/
def hap (z : Nat × Nat) : Bool := z.1 == 42 || z.1 == z.2
theorem has_iff : ∀ {f g : List Nat}, f.length = g.length → Signs f → Signs g → ((f.zip g).all hap = true ↔ ∀ c, Mt g c → Mt f c)
  | [], [], _, _, _ => by simp
  | a :: f, b :: g, hl, hf, hg => by
    have ih := has_iff (f := f) (g := g) (by simpa using hl) (fun y hy => hf y (by simp [hy])) (fun y hy => hg y (by simp [hy]))
    simp only [List.zip_cons_cons, List.all_cons, Bool.and_eq_true, ih]
    have ha := hf a (by simp)
    have hb := hg b (by simp)
    constructor
    · rintro ⟨h1, h2⟩ c hc
      cases c with
      | nil => exact hc
      | cons x c =>
        refine ⟨?_, h2 c hc.2⟩
        have q := hc.1
        unfold hap at h1
        rcases ha with rfl | rfl | rfl <;> rcases hb with rfl | rfl | rfl <;> simp [ch] at h1 q ⊢ <;> first | exact q | omega
    · intro h
      refine ⟨?_, fun c hc => ?_⟩
      · have q1 := (h (_ :: pk 48 g) ⟨(show (if b = 42 then 48 else b) ∈ ch b from (Mt_pk (.inl rfl) [b]).1), Mt_pk (.inl rfl) g⟩).1
        have q2 := (h (_ :: pk 48 g) ⟨(show (if b = 42 then 49 else b) ∈ ch b from (Mt_pk (.inr rfl) [b]).1), Mt_pk (.inl rfl) g⟩).1
        unfold hap
        rcases ha with rfl | rfl | rfl <;> rcases hb with rfl | rfl | rfl <;> simp [ch] at q1 q2 ⊢
      · exact (h (_ :: c) ⟨(show (if b = 42 then 48 else b) ∈ ch b from (Mt_pk (.inl rfl) [b]).1), hc⟩).2
end G
set_option Elab.async false
set_option linter.all false
set_option maxRecDepth 100000
namespace G
open PySem PySem.Spec PyProof.Rows L2
def dfp (z : Nat × Nat) : Bool := !decide (z.1 = z.2)
def nd (zs : List (Nat × Nat)) : Nat := (zs.filter dfp).length
theorem counts : ∀ {f g : List Nat}, f.length = g.length → Signs f → Signs g →
    ∃ s a b e : Nat, f.count 42 = s + a ∧ g.count 42 = s + b ∧ (hulU f g).count 42 = s + (a + b + e) ∧ nd (f.zip g) = a + b + e ∧ ((f.zip g).all okp = true ↔ e = 0)
  | [], [], _, _, _ => ⟨0, 0, 0, 0, rfl, rfl, rfl, rfl, by simp⟩
  | x :: f, y :: g, hl, hf, hg => by
    obtain ⟨s, a, b, e, h1, h2, h3, h4, h5⟩ := counts (f := f) (g := g) (by simpa using hl) (fun y hy => hf y (by simp [hy])) (fun y hy => hg y (by simp [hy]))
    have hx := hf x (by simp)
    have hy := hg y (by simp)
    unfold hulU at h3 ⊢
    unfold nd at h4 ⊢
    simp only [List.zip_cons_cons, List.map_cons, List.count_cons, List.filter_cons, List.all_cons, Bool.and_eq_true, h1, h2, h3]
    unfold hup dfp okp
    unfold dfp at h4
    unfold okp at h5
    rcases hx with rfl | rfl | rfl <;> rcases hy with rfl | rfl | rfl
    · exact ⟨s, a, b, e, by simp <;> omega, by simp <;> omega, by simp <;> omega, by simp [h4] <;> omega, by simpa using h5⟩
    · exact ⟨s, a, b, e + 1, by simp <;> omega, by simp <;> omega, by simp <;> omega, by simp [h4] <;> omega, by simpa using h5⟩
    · exact ⟨s, a, b + 1, e, by simp <;> omega, by simp <;> omega, by simp <;> omega, by simp [h4] <;> omega, by simpa using h5⟩
    · exact ⟨s, a, b, e + 1, by simp <;> omega, by simp <;> omega, by simp <;> omega, by simp [h4] <;> omega, by simpa using h5⟩
    · exact ⟨s, a, b, e, by simp <;> omega, by simp <;> omega, by simp <;> omega, by simp [h4] <;> omega, by simpa using h5⟩
    · exact ⟨s, a, b + 1, e, by simp <;> omega, by simp <;> omega, by simp <;> omega, by simp [h4] <;> omega, by simpa using h5⟩
    · exact ⟨s, a + 1, b, e, by simp <;> omega, by simp <;> omega, by simp <;> omega, by simp [h4] <;> omega, by simpa using h5⟩
    · exact ⟨s, a + 1, b, e, by simp <;> omega, by simp <;> omega, by simp <;> omega, by simp [h4] <;> omega, by simpa using h5⟩
    · exact ⟨s + 1, a, b, e, by simp <;> omega, by simp <;> omega, by simp <;> omega, by simp [h4] <;> omega, by simpa using h5⟩
theorem pows {s a b e : Nat} (he : 1 ≤ e) : 2 ^ (s + a) + 2 ^ (s + b) = 2 ^ (s + (a + b + e)) ↔ a + b + e = 1 := by
  have hs : 0 < 2 ^ s := Nat.two_pow_pos s
  rw [Nat.pow_add, Nat.pow_add, Nat.pow_add, ← Nat.mul_add]
  rw [Nat.mul_left_cancel_iff hs]
  constructor
  · intro h
    have ha := Nat.one_le_two_pow (n := a)
    have hb := Nat.one_le_two_pow (n := b)
    have hab : 2 ^ a + 2 ^ b ≤ 2 ^ a * 2 ^ b + 1 := by
      obtain ⟨p, hp⟩ := Nat.exists_eq_add_of_le ha
      obtain ⟨q, hq⟩ := Nat.exists_eq_add_of_le hb
      have e1 : (1 + p) * (1 + q) = 1 + q + (p + p * q) := by rw [Nat.add_mul, Nat.one_mul, Nat.mul_add, Nat.mul_one]
      rw [hp, hq, e1]
      omega
    rw [← Nat.pow_add] at hab
    by_cases h1 : a + b = 0
    · by_cases h2 : e = 1
      · omega
      · exfalso
        have : 2 ^ 2 ≤ 2 ^ (a + b + e) := Nat.pow_le_pow_right (by decide) (by omega)
        have e1 : a = 0 := by omega
        have e2 : b = 0 := by omega
        subst e1 e2
        simp at *
        omega
    · exfalso
      have h2 : 2 ^ (a + b) * 2 ≤ 2 ^ (a + b + e) := by
        rw [← Nat.pow_succ]
        exact Nat.pow_le_pow_right (by decide) (by omega)
      have h3 : 2 ^ 1 ≤ 2 ^ (a + b) := Nat.pow_le_pow_right (by decide) (by omega)
      omega
  · intro h
    have e1 : a = 0 := by omega
    have e2 : b = 0 := by omega
    have e3 : e = 1 := by omega
    subst e1 e2 e3
    rfl
/-- what joined tells -/
def jo (f g : List Nat) : Option (List Nat) := if (f.zip g).all okp = false ∧ nd (f.zip g) = 1 then some (hulU f g) else none
theorem len_two {f g : List Nat} (hl : f.length = g.length) (hf : Signs f) (hg : Signs g) (h : (f.zip g).all okp = false) : (cor f ++ cor g).length = 2 ^ (hulU f g).count 42 ↔ nd (f.zip g) = 1 := by
  obtain ⟨s, a, b, e, h1, h2, h3, h4, h5⟩ := counts hl hf hg
  have he : 1 ≤ e := by
    rcases Nat.eq_zero_or_pos e with q | q
    · rw [h5.mpr q] at h; cases h
    · exact q
  rw [List.length_append, cor_count, cor_count, h1, h2, h3, h4]
  exact pows he
theorem one_diff : ∀ {zs : List (Nat × Nat)}, nd zs = 1 → ∃ pre x y suf, zs = pre ++ (x, y) :: suf ∧ x ≠ y ∧ (∀ z ∈ pre, z.1 = z.2) ∧ ∀ z ∈ suf, z.1 = z.2
  | [], h => by simp [nd] at h
  | (x, y) :: zs, h => by
    unfold nd at h
    rw [List.filter_cons] at h
    by_cases q : x = y
    · rw [if_neg (by simp [dfp, q])] at h
      obtain ⟨pre, u, v, suf, rfl, k1, k2, k3⟩ := one_diff (zs := zs) h
      exact ⟨(x, y) :: pre, u, v, suf, rfl, k1, fun z hz => by
        rcases List.mem_cons.mp hz with rfl | hz
        · exact q
        · exact k2 z hz, k3⟩
    · rw [if_pos (by simp [dfp, q])] at h
      refine ⟨[], x, y, zs, rfl, q, fun z hz => by simp at hz, fun z hz => ?_⟩
      have h0 : zs.filter dfp = [] := by simpa using h
      have := List.filter_eq_nil_iff.mp h0 z hz
      simpa [dfp] using this
theorem zip_fst {f g : List Nat} (hl : f.length = g.length) : (f.zip g).map (·.1) = f := List.map_fst_zip (by omega)
theorem zip_snd {f g : List Nat} (hl : f.length = g.length) : (f.zip g).map (·.2) = g := List.map_snd_zip (by omega)
theorem ok_eqs {zs : List (Nat × Nat)} (h : ∀ z ∈ zs, z.1 = z.2) : zs.all okp = true := by
  rw [List.all_eq_true]
  intro z hz
  unfold okp
  simp [h z hz]
theorem hup_eqs {zs : List (Nat × Nat)} (h : ∀ z ∈ zs, z.1 = z.2) : zs.map hup = zs.map (·.1) := by
  refine List.map_congr_left fun z hz => ?_
  unfold hup
  rw [if_pos (h z hz)]
theorem filt_eqs {zs : List (Nat × Nat)} (h : ∀ z ∈ zs, z.1 = z.2) : zs.filter dfp = [] := List.filter_eq_nil_iff.mpr fun z hz => by simp [dfp, h z hz]
end G
set_option Elab.async false
set_option linter.all false
set_option maxRecDepth 100000
namespace G
open PySem PySem.Spec PyProof.Rows L2
local macro_rules | `(tactic| ac_rfl) => `(tactic| first
  | (with_reducible first
    | refine s_seq ?_ | refine thn_nx ?_ | refine s_set ?_ | refine w_c ?_ | refine w_op ?_ | refine a_cons ?_ | refine a_nil ?_
    | refine w_call ?_ | refine t_of ?_ | refine s_if ?_ | refine s_nx ?_ | refine ite_T ?_ | refine ite_F ?_ | refine ite_NT ?_ | refine ite_NF ?_ | refine r_cons ?_ | refine r_nil ?_ | refine w_fn ?_ | refine n_fn ?_
    | refine s_own ?_ | refine s_for ?_ | refine i_of ?_ | refine i_args ?_ | refine w_new ?_ | refine n_lc ?_ | refine n_lc2 ?_ | refine n_call ?_
    | refine s_ret ?_ | refine s_retW ?_ | refine s_expr ?_ | refine s_asg ?_ | refine w_if ?_ | refine w_isN ?_ | refine w_notN ?_ | refine w_meth ?_
    | refine w_and ?_ | refine w_or ?_ | refine w_not ?_ | refine t_and ?_ | refine t_or ?_ | refine t_not ?_ | refine t_yes ?_ | refine w_isi ?_ | refine w_sl ?_
    | refine w_oN ?_ | refine w_oS ?_ | refine n_lst ?_ | refine w_neg ?_ | refine w_rev ?_ | refine n_rg1 ?_ | refine s_setIx ?_ | refine thn_rt ?_ | refine thn_rn ?_ | refine thn_bk ?_ | refine thn_ct ?_
    | refine o_addI ?_ | refine o_subI ?_ | refine o_ltI ?_ | refine o_leI ?_ | refine o_gtI ?_ | refine o_geI ?_ | refine o_eqI ?_ | refine o_neI ?_ | refine o_eqS ?_ | refine o_neS ?_
    | refine o_lenL ?_ | refine o_lenT ?_ | refine o_tupL ?_ | refine o_tupT ?_ | refine o_intI ?_ | refine o_intB ?_ | refine o_intAI ?_ | refine o_intAB ?_ | refine o_maxI ?_ | refine o_minI ?_ | refine o_absI ?_ | refine o_iL ?_ | refine o_iT ?_ | refine o_iS ?_ | refine o_lL ?_ | refine o_lT ?_ | refine w_oN ?_
    | refine o_andI ?_ | refine o_orI ?_ | refine o_xorI ?_ | refine s_bk ?_ | refine s_ct ?_ | refine s_retN ?_ | refine nxI_nx ?_ | refine o_gTup0 ?_ | refine o_gLst0 ?_)
  | ((with_reducible apply w_var); focus rfl)
  | ((with_reducible apply w_varO); focus rfl)
  | ((with_reducible apply w_mut); focus rfl)
  | ((with_reducible apply w_ixOwn); focus rfl)
  | ((with_reducible apply w_lenOwn); focus rfl)
  | ((with_reducible apply r_io); focus rfl)
  | ((with_reducible apply r_scr); focus rfl)
  | ((with_reducible apply n_take); focus rfl)
  | ((with_reducible apply w_lenScr); focus rfl)
  | ((with_reducible apply i_scr); focus rfl)
  | ((with_reducible apply n_slScr); focus rfl)
  | ((with_reducible refine o_gTup ?_ ?_); focus (show _ ≤ _; simp only [List.length_cons, List.length_nil]; decide))
  | ((with_reducible refine o_gLst ?_ ?_); focus (show _ ≤ _; simp only [List.length_cons, List.length_nil]; decide))
  | ((with_reducible refine And.intro ?_ ?_); focus (show List.length _ ≤ sizeLine; simp only [List.length_cons, List.length_nil]; decide))
  | ((with_reducible refine And.intro ?_ ?_); focus (with_reducible rfl))
  | (with_reducible refine And.intro (show isStr _ = true from rfl) ?_)
  | ((with_reducible apply o_ixC); focus rfl)
  | (refine ⟨_, rfl, ?_⟩)
  | (refine ⟨_, _, rfl, ?_⟩)
  | (refine ⟨⟨_, _, rfl⟩, ?_⟩)
  | (refine ⟨_, _, _, _, rfl, rfl, rfl, ?_⟩))
theorem o_app {xs : List D} {y : D} {Q : D × List D → Prop} (h : xs.length ≤ 1000000) (k : Q (.none, xs ++ [y])) : WpO (mAppend xs [y]) Q := wpo (by show (if xs.length < sizeLine then _ else _) = _; rw [if_pos (lt_line h)]) k
theorem o_ext {xs ys : List D} {Q : D × List D → Prop} (h : xs.length + ys.length ≤ 1000000) (k : Q (.none, xs ++ ys)) : WpO (mExtend xs [.list ys]) Q := wpo (by show (if xs.length + ys.length ≤ sizeLine then _ else _) = _; rw [if_pos (le_line h)]) k
theorem done_le {α : Type} {l done rest : List α} {a : α} {n : Nat} (h : l.length ≤ n) (e : l = done ++ a :: rest) : done.length + 1 ≤ n := by rw [e, List.length_append, List.length_cons] at h; omega
def zp (z : Nat × Nat) : D := .tuple [.str (tx [z.1]), .str (tx [z.2])]
def chs (l : List Nat) : List D := l.map fun c => .str (tx [c])
theorem join_chs {l : List Nat} (h : l.length ≤ 1000000) : dJoin (.str (tx [])) [.list (chs l)] = some (.str (tx l)) := join_signs (by omega)
theorem zipD_chs : ∀ f g : List Nat, zipD (chs f) (chs g) = (f.zip g).map zp
  | [], _ => by simp [zipD, chs]
  | _ :: _, [] => by simp [zipD, chs]
  | a :: f, b :: g => by
    have ih := zipD_chs f g
    unfold chs at ih
    simp [zipD, chs, zp, ih]
theorem gzip_tx (f g : List Nat) : gZip [.str (tx f), .str (tx g)] = some ((f.zip g).map zp) := by
  show some (zipD (chs f) (chs g)) = _
  rw [zipD_chs]
def optD : Option (List Nat) → D
  | some h => .str (tx h)
  | none => .none
def ComOk (F : List Sl → RF) : Prop := ∀ f g : List Nat, f.length ≤ 6 → F [.dat (.str (tx f)), .dat (.str (tx g))] = .ok (optD (cmo f g)) []
theorem comOk : ComOk (fun a => (run_common_face a).nox) := fun f g h6 => by
  refine nox_ok (b_run (Q := fun r => r = .ok (optD (cmo f g)) []) ?_)
  show Wp (body_common_face [.dat (.str (tx f)), .dat (.str (tx g)), .un, .un, .un]) _ _
  unfold body_common_face
  rw [s_s, s_e]
  repeat ac_rfl
  refine wpo (gzip_tx f g) ?_
  refine f_go (fun done e => done.all okp = true ∧ ∃ x3 x4, e = [.dat (.str (tx f)), .dat (.str (tx g)), .own none (.lst (chs (done.map pkp))), x3, x4]) ⟨rfl, .un, .un, rfl⟩ ?_ ?_
  · rintro done ⟨a, b⟩ rest e ha ⟨hn, x3, x4, rfl⟩
    refine ⟨_, rfl, ?_⟩
    have dl := done_le (n := 6) (by rw [List.length_zip]; omega) ha
    have ll : (chs (done.map pkp)).length ≤ 1000000 := by simp [chs]; omega
    have ez : pkp (a, b) = (if a = b ∨ b = 42 then a else b) := rfl
    have app : okp (a, b) = true → (done ++ [(a, b)]).all okp = true := fun q => by rw [List.all_append, hn]; simpa using q
    have e1 : chs ((done ++ [(a, b)]).map pkp) = chs (done.map pkp) ++ [.str (tx [pkp (a, b)])] := by simp [chs]
    repeat ac_rfl
    refine ite_d (fun h => ?_) (fun h => ?_)
    · have h : a = b := by simpa using h
      refine ite_T ?_
      repeat ac_rfl
      rw [e1, ez, if_pos (.inl h)]
      exact o_app ll (lpk_nx ⟨app (by simp [okp, h]), _, _, rfl⟩)
    · have h : ¬ a = b := by simpa using h
      repeat ac_rfl
      refine ite_d (fun h2 => ?_) (fun h2 => ?_)
      · have h2 : b = 42 := by simpa using h2
        repeat ac_rfl
        rw [e1, ez, if_pos (.inr h2)]
        exact o_app ll (lpk_nx ⟨app (by simp [okp, h2]), _, _, rfl⟩)
      · have h2 : ¬ b = 42 := by simpa using h2
        repeat ac_rfl
        refine ite_d (fun h3 => ?_) (fun h3 => ?_)
        · have h3 : a = 42 := by simpa using h3
          repeat ac_rfl
          rw [e1, ez, if_neg (by omega)]
          exact o_app ll (lpk_nx ⟨app (by simp [okp, h3]), _, _, rfl⟩)
        · have h3 : ¬ a = 42 := by simpa using h3
          repeat ac_rfl
          refine lpk_rt (thn_rt (fin_rt ?_))
          have : (f.zip g).all okp = false := by
            rw [ha, List.all_append, List.all_cons]
            have : okp (a, b) = false := by simp [okp, h, h2, h3]
            simp [this]
          unfold cmo
          rw [if_neg (by rw [this]; decide)]
          rfl
  · rintro e ⟨hn, x3, x4, rfl⟩
    repeat ac_rfl
    refine wpo (d := .str (tx ((f.zip g).map pkp))) (join_chs (by rw [List.length_map, List.length_zip]; omega)) ?_
    unfold cmo
    rw [if_pos hn]
    exact fin_rt rfl
def HasOk (F : List Sl → RF) : Prop := ∀ f g : List Nat, f.length ≤ 6 → F [.dat (.str (tx f)), .dat (.str (tx g))] = .ok (.bool ((f.zip g).all hap)) []
theorem hasOk : HasOk (fun a => (run_has_all a).nox) := fun f g h6 => by
  refine nox_ok (b_run (Q := fun r => r = .ok (.bool ((f.zip g).all hap)) []) ?_)
  show Wp (body_has_all [.dat (.str (tx f)), .dat (.str (tx g)), .un, .un]) _ _
  unfold body_has_all
  rw [s_s]
  repeat ac_rfl
  refine wpo (gzip_tx f g) ?_
  refine f_go (fun done e => done.all hap = true ∧ ∃ x3 x4, e = [.dat (.str (tx f)), .dat (.str (tx g)), x3, x4]) ⟨rfl, .un, .un, rfl⟩ ?_ ?_
  · rintro done ⟨a, b⟩ rest e ha ⟨hn, x3, x4, rfl⟩
    refine ⟨_, rfl, ?_⟩
    have app : hap (a, b) = true → (done ++ [(a, b)]).all hap = true := fun q => by rw [List.all_append, hn]; simpa using q
    repeat ac_rfl
    refine ite_nd (fun h => ?_) (fun h => ?_)
    · have h : ¬ a = 42 := by simpa using h
      repeat ac_rfl
      refine ite_nd (fun h2 => ?_) (fun h2 => ?_)
      · have h2 : ¬ a = b := by simpa using h2
        repeat ac_rfl
        refine lpk_rt (thn_rt (fin_rt ?_))
        have : (f.zip g).all hap = false := by
          rw [ha, List.all_append, List.all_cons]
          have : hap (a, b) = false := by simp [hap, h, h2]
          simp [this]
        rw [this]; rfl
      · have h2 : a = b := by simpa using h2
        repeat ac_rfl
        exact lpk_nx ⟨app (by simp [hap, h2]), _, _, rfl⟩
    · have h : a = 42 := by simpa using h
      repeat ac_rfl
      exact lpk_nx ⟨app (by simp [hap, h]), _, _, rfl⟩
  · rintro e ⟨hn, x3, x4, rfl⟩
    repeat ac_rfl
    rw [hn]
    exact fin_rt rfl
/-! joined -/
theorem enum_zp : ∀ (k : Nat) (zs : List (Nat × Nat)), enumD k (zs.map zp) = (zs.zipIdx k).map fun z : (Nat × Nat) × Nat => .tuple [.int (z.2 : Nat), zp z.1]
  | _, [] => rfl
  | k, z :: zs => by
    have ih := enum_zp (k + 1) zs
    show _ :: enumD (k + 1) (zs.map zp) = _
    rw [ih]; rfl
theorem genum_tx (f g : List Nat) : gEnumZ [.str (tx f), .str (tx g)] = some (((f.zip g).zipIdx).map fun z : (Nat × Nat) × Nat => .tuple [.int (z.2 : Nat), zp z.1]) := by
  unfold gEnumZ
  rw [gzip_tx]
  show some (enumD 0 _) = _
  rw [enum_zp]
def pls (zs : List (Nat × Nat)) : List D := ((zs.zipIdx).filter fun z => dfp z.1).map fun z => .int (z.2 : Nat)
theorem idx_len {zs : List (Nat × Nat)} {k : Nat} : ((zs.zipIdx k).filter fun z => dfp z.1).length = nd zs := by
  unfold nd
  induction zs generalizing k with
  | nil => rfl
  | cons z zs ih =>
    simp only [List.zipIdx_cons, List.filter_cons]
    split <;> simp [ih]
theorem pls_len (zs : List (Nat × Nat)) : (pls zs).length = nd zs := by
  unfold pls
  rw [List.length_map, idx_len]
theorem pls_one {pre suf : List (Nat × Nat)} {x y : Nat} (h : x ≠ y) (h1 : ∀ z ∈ pre, z.1 = z.2) (h2 : ∀ z ∈ suf, z.1 = z.2) : pls (pre ++ (x, y) :: suf) = [.int (pre.length : Nat)] := by
  have fe : ∀ (zs : List (Nat × Nat)) (k : Nat), (∀ z ∈ zs, z.1 = z.2) → ((zs.zipIdx k).filter fun z => dfp z.1) = [] := fun zs k hz => by
    have := idx_len (zs := zs) (k := k)
    rw [show nd zs = 0 by unfold nd; rw [filt_eqs hz]; rfl] at this
    simpa using this
  unfold pls
  rw [List.zipIdx_append, List.filter_append, fe _ _ h1, List.nil_append, List.zipIdx_cons, List.filter_cons, if_pos (by simp [dfp, h]), fe _ _ h2]
  simp
theorem cutS_from (l : List Nat) (k : Nat) : cutS (tx l) (some (k : Int)) none = tx (l.drop k) := by
  unfold cutS
  rw [HT.sIx_none, HT.sIx_nat, tx_cps, tx_len]
  show tx _ = _
  rcases Nat.le_total k l.length with h | h
  · rw [Nat.min_eq_left h, List.take_of_length_le (by rw [List.length_drop]; exact Nat.le_refl _)]
  · rw [Nat.min_eq_right h, List.drop_of_length_le (Nat.le_refl _), List.drop_of_length_le h]; simp
theorem cutS_to (l : List Nat) (k : Nat) (h : k ≤ l.length) : cutS (tx l) none (some (k : Int)) = tx (l.take k) := by
  unfold cutS
  rw [HT.sIx_none, HT.sIx_nat, tx_cps, tx_len]
  show tx _ = _
  rw [Nat.min_eq_left h, Nat.sub_zero, List.drop_zero]
theorem o_from {l : List Nat} {k : Nat} {Q : D → Prop} (hl : l.length ≤ 1000000) (q : Q (.str (tx (l.drop k)))) : WpO (dSlA (.str (tx l)) (some (k : Int)) none) Q :=
  wpo (by show (if (tx l).length ≤ sizeLine then some (PyData.str (cutS (tx l) (some (k : Int)) none)) else none) = _; rw [if_pos (by rw [tx_len]; exact le_line hl), cutS_from]) q
theorem o_to {l : List Nat} {k : Nat} {Q : D → Prop} (hl : l.length ≤ 1000000) (hk : k ≤ l.length) (q : Q (.str (tx (l.take k)))) : WpO (dSlA (.str (tx l)) none (some (k : Int))) Q :=
  wpo (by show (if (tx l).length ≤ sizeLine then some (PyData.str (cutS (tx l) none (some (k : Int)))) else none) = _; rw [if_pos (by rw [tx_len]; exact le_line hl), cutS_to l k hk]) q
theorem o_ixSs {a : List Nat} {n c : Nat} {Q : D → Prop} (h : a[n]? = some c) (hl : a.length ≤ 1000000) (k : Q (.str (tx [c]))) : WpO (dIx (.str (tx a)) (.int (n : Nat))) Q := by
  obtain ⟨h1, h2⟩ := List.getElem?_eq_some_iff.mp h
  exact o_ixS h1 hl (by rw [h2]; exact k)
def WsOk (F : List Sl → RF) : Prop := ∀ (f : List Nat) (p c : Nat), f.length ≤ 6 → p ≤ f.length → F [.dat (.str (tx f)), .dat (.int (p : Nat)), .dat (.str (tx [c]))] = .ok (.str (tx (f.take p ++ [c] ++ f.drop (p + 1)))) []
theorem wsOk : WsOk (fun a => (run_with_sign a).nox) := fun f p c h6 hp => by
  refine nox_ok (b_run (Q := fun r => r = .ok (.str (tx (f.take p ++ [c] ++ f.drop (p + 1)))) []) ?_)
  show Wp (body_with_sign [.dat (.str (tx f)), .dat (.int (p : Nat)), .dat (.str (tx [c]))]) _ _
  unfold body_with_sign
  repeat ac_rfl
  refine o_to (by omega) hp ?_
  repeat ac_rfl
  refine o_addS (by simp; omega) ?_
  repeat ac_rfl
  refine o_from (k := p + 1) (by omega) ?_
  repeat ac_rfl
  refine o_addS (by simp; omega) ?_
  exact fin_rt rfl
def JoOk (F : List Sl → RF) : Prop := ∀ f g : List Nat, f.length = g.length → f.length ≤ 6 → F [.dat (.str (tx f)), .dat (.str (tx g))] = .ok (optD (jo f g)) []
theorem joOk : JoOk (fun a => (run_joined a).nox) := fun f g hl h6 => by
  refine nox_ok (b_run (Q := fun r => r = .ok (optD (jo f g)) []) ?_)
  show Wp (body_joined _ [.dat (.str (tx f)), .dat (.str (tx g)), .un, .un, .un, .un, .un]) _ _
  have hW := wsOk
  generalize (fun a => (run_with_sign a).nox) = FW at hW ⊢
  unfold body_joined
  rw [s_s]
  repeat ac_rfl
  refine wpo (genum_tx f g) ?_
  refine ⟨lt_line (by simp; omega), l_pure (fun z => dfp z.1) (fun z => .int (z.2 : Nat)) (fun z _ => ⟨_, rfl, ?_⟩) ?_⟩
  · repeat ac_rfl
    refine ⟨by simp [dfp], fun _ => ?_, fun _ => rfl⟩
    repeat ac_rfl
  · rw [show [] ++ ((f.zip g).zipIdx.filter fun z => dfp z.1).map (fun z => PyData.int (z.2 : Nat)) = pls (f.zip g) from rfl]
    repeat ac_rfl
    rw [pls_len]
    refine ite_nd (fun h => ?_) (fun h => ?_)
    · repeat ac_rfl
      refine fin_rt ?_
      unfold jo
      rw [if_neg (fun q => h (by omega))]
      rfl
    · have h1 : nd (f.zip g) = 1 := by omega
      obtain ⟨pre, x, y, suf, hz, hxy, hp, hs⟩ := one_diff h1
      have ef : f = pre.map (·.1) ++ x :: suf.map (·.1) := by rw [← zip_fst hl, hz]; simp
      have eg : g = pre.map (·.2) ++ y :: suf.map (·.2) := by rw [← zip_snd hl, hz]; simp
      have fx : f[pre.length]? = some x := by rw [ef]; simp
      have gy : g[pre.length]? = some y := by rw [eg]; simp
      have lp : pre.length ≤ f.length := by rw [ef]; simp
      have ok : (f.zip g).all okp = okp (x, y) := by rw [hz, List.all_append, List.all_cons, ok_eqs hp, ok_eqs hs]; simp
      rw [hz, pls_one hxy hp hs]
      repeat ac_rfl
      refine o_ixSs fx (by omega) ?_
      repeat ac_rfl
      refine ite_d (fun q => ?_) (fun q => ?_)
      · have q : x = 42 := by simpa using q
        repeat ac_rfl
        refine fin_rt ?_
        unfold jo
        rw [if_neg (fun k => by rw [ok] at k; simp [okp, q] at k)]
        rfl
      · have q : ¬ x = 42 := by simpa using q
        repeat ac_rfl
        refine o_ixSs gy (by omega) ?_
        repeat ac_rfl
        refine ite_d (fun q2 => ?_) (fun q2 => ?_)
        · have q2 : y = 42 := by simpa using q2
          repeat ac_rfl
          refine fin_rt ?_
          unfold jo
          rw [if_neg (fun k => by rw [ok] at k; simp [okp, q2] at k)]
          rfl
        · have q2 : ¬ y = 42 := by simpa using q2
          repeat ac_rfl
          refine c_ok (hW f pre.length 42 h6 lp) ?_
          refine fin_rt ?_
          unfold jo
          rw [if_pos ⟨by rw [ok]; simp [okp, q, q2, hxy], h1⟩]
          have : hulU f g = f.take pre.length ++ [42] ++ f.drop (pre.length + 1) := by
            unfold hulU
            rw [hz, List.map_append, List.map_cons, hup_eqs hp, hup_eqs hs, ef]
            simp [hup, hxy, List.drop_append]
          rw [this]; rfl
end G
set_option Elab.async false
set_option linter.all false
set_option maxRecDepth 100000
namespace G
open PySem PySem.Spec PyProof.Rows L2
local macro_rules | `(tactic| ac_rfl) => `(tactic| first
  | (with_reducible first
    | refine s_seq ?_ | refine thn_nx ?_ | refine s_set ?_ | refine w_c ?_ | refine w_op ?_ | refine a_cons ?_ | refine a_nil ?_
    | refine w_call ?_ | refine t_of ?_ | refine s_if ?_ | refine s_nx ?_ | refine ite_T ?_ | refine ite_F ?_ | refine ite_NT ?_ | refine ite_NF ?_ | refine r_cons ?_ | refine r_nil ?_ | refine w_fn ?_ | refine n_fn ?_
    | refine s_own ?_ | refine s_for ?_ | refine i_of ?_ | refine i_args ?_ | refine w_new ?_ | refine n_lc ?_ | refine n_lc2 ?_ | refine n_call ?_
    | refine s_ret ?_ | refine s_retW ?_ | refine s_expr ?_ | refine s_asg ?_ | refine w_if ?_ | refine w_isN ?_ | refine w_notN ?_ | refine w_meth ?_
    | refine w_and ?_ | refine w_or ?_ | refine w_not ?_ | refine t_and ?_ | refine t_or ?_ | refine t_not ?_ | refine t_yes ?_ | refine w_isi ?_ | refine w_sl ?_
    | refine w_oN ?_ | refine w_oS ?_ | refine n_lst ?_ | refine w_neg ?_ | refine w_rev ?_ | refine n_rg1 ?_ | refine s_setIx ?_ | refine thn_rt ?_ | refine thn_rn ?_ | refine thn_bk ?_ | refine thn_ct ?_
    | refine o_addI ?_ | refine o_subI ?_ | refine o_ltI ?_ | refine o_leI ?_ | refine o_gtI ?_ | refine o_geI ?_ | refine o_eqI ?_ | refine o_neI ?_ | refine o_eqS ?_ | refine o_neS ?_
    | refine o_lenL ?_ | refine o_lenT ?_ | refine o_tupL ?_ | refine o_tupT ?_ | refine o_intI ?_ | refine o_intB ?_ | refine o_intAI ?_ | refine o_intAB ?_ | refine o_maxI ?_ | refine o_minI ?_ | refine o_absI ?_ | refine o_iL ?_ | refine o_iT ?_ | refine o_iS ?_ | refine o_lL ?_ | refine o_lT ?_ | refine w_oN ?_
    | refine o_andI ?_ | refine o_orI ?_ | refine o_xorI ?_ | refine s_bk ?_ | refine s_ct ?_ | refine s_retN ?_ | refine nxI_nx ?_ | refine o_gTup0 ?_ | refine o_gLst0 ?_)
  | ((with_reducible apply w_var); focus rfl)
  | ((with_reducible apply w_varO); focus rfl)
  | ((with_reducible apply w_mut); focus rfl)
  | ((with_reducible apply w_ixOwn); focus rfl)
  | ((with_reducible apply w_lenOwn); focus rfl)
  | ((with_reducible apply r_io); focus rfl)
  | ((with_reducible apply r_scr); focus rfl)
  | ((with_reducible apply n_take); focus rfl)
  | ((with_reducible apply w_lenScr); focus rfl)
  | ((with_reducible apply i_scr); focus rfl)
  | ((with_reducible apply n_slScr); focus rfl)
  | ((with_reducible refine o_gTup ?_ ?_); focus (show _ ≤ _; simp only [List.length_cons, List.length_nil]; decide))
  | ((with_reducible refine o_gLst ?_ ?_); focus (show _ ≤ _; simp only [List.length_cons, List.length_nil]; decide))
  | ((with_reducible refine And.intro ?_ ?_); focus (show List.length _ ≤ sizeLine; simp only [List.length_cons, List.length_nil]; decide))
  | ((with_reducible refine And.intro ?_ ?_); focus (with_reducible rfl))
  | (with_reducible refine And.intro (show isStr _ = true from rfl) ?_)
  | ((with_reducible apply o_ixC); focus rfl)
  | (refine ⟨_, rfl, ?_⟩)
  | (refine ⟨_, _, rfl, ?_⟩)
  | (refine ⟨⟨_, _, rfl⟩, ?_⟩)
  | (refine ⟨_, _, _, _, rfl, rfl, rfl, ?_⟩))
/-! bits in another order, turned about -/
def flS (c : Nat) : Nat := if c = 48 then 49 else if c = 49 then 48 else c
def tn (t c : Nat) : Nat := if t = 0 then c else flS c
def ot (f : List Nat) (zs : List (Nat × Nat)) : List Nat := zs.map fun z => tn z.2 (f.getD z.1 0)
theorem tn_sign {t c : Nat} (h : c = 48 ∨ c = 49 ∨ c = 42) : tn t c = 48 ∨ tn t c = 49 ∨ tn t c = 42 := by
  unfold tn flS
  rcases h with rfl | rfl | rfl <;> (split <;> simp)
theorem tn_okp {t a b : Nat} (ha : a = 48 ∨ a = 49 ∨ a = 42) (hb : b = 48 ∨ b = 49 ∨ b = 42) : okp (tn t a, tn t b) = okp (a, b) := by
  unfold tn flS okp
  by_cases q : t = 0
  · simp [q]
  · rcases ha with rfl | rfl | rfl <;> rcases hb with rfl | rfl | rfl <;> simp [q]
theorem tn_hap {t a b : Nat} (ha : a = 48 ∨ a = 49 ∨ a = 42) (hb : b = 48 ∨ b = 49 ∨ b = 42) : hap (tn t a, tn t b) = hap (a, b) := by
  unfold tn flS hap
  by_cases q : t = 0
  · simp [q]
  · rcases ha with rfl | rfl | rfl <;> rcases hb with rfl | rfl | rfl <;> simp [q]
theorem tn_dfp {t a b : Nat} (ha : a = 48 ∨ a = 49 ∨ a = 42) (hb : b = 48 ∨ b = 49 ∨ b = 42) : dfp (tn t a, tn t b) = dfp (a, b) := by
  unfold tn flS dfp
  by_cases q : t = 0
  · simp [q]
  · rcases ha with rfl | rfl | rfl <;> rcases hb with rfl | rfl | rfl <;> simp [q]
theorem tn_pkp {t a b : Nat} (ha : a = 48 ∨ a = 49 ∨ a = 42) (hb : b = 48 ∨ b = 49 ∨ b = 42) : pkp (tn t a, tn t b) = tn t (pkp (a, b)) := by
  unfold tn flS pkp
  by_cases q : t = 0
  · simp [q]
  · rcases ha with rfl | rfl | rfl <;> rcases hb with rfl | rfl | rfl <;> simp [q]
theorem tn_hup {t a b : Nat} (ha : a = 48 ∨ a = 49 ∨ a = 42) (hb : b = 48 ∨ b = 49 ∨ b = 42) : hup (tn t a, tn t b) = tn t (hup (a, b)) := by
  unfold tn flS hup
  by_cases q : t = 0
  · simp [q]
  · rcases ha with rfl | rfl | rfl <;> rcases hb with rfl | rfl | rfl <;> simp [q]
/-- an order of the bits, with what is turned -/
structure Ord (n : Nat) (zs : List (Nat × Nat)) : Prop where
  perm : (zs.map (·.1)).Perm (List.range n)
def pr (f g : List Nat) (p : Nat) : Nat × Nat := (f.getD p 0, g.getD p 0)
theorem zip_range {f g : List Nat} (h : f.length = g.length) : f.zip g = (List.range f.length).map (pr f g) := by
  refine List.ext_getElem (by simp [h]) fun p h1 h2 => ?_
  have hp : p < f.length := by rw [List.length_zip] at h1; omega
  have hq : p < g.length := by omega
  simp [pr, hp, hq]
theorem ot_zip (f g : List Nat) (zs : List (Nat × Nat)) : (ot f zs).zip (ot g zs) = zs.map fun z => (tn z.2 (f.getD z.1 0), tn z.2 (g.getD z.1 0)) := by
  unfold ot
  induction zs <;> simp_all
theorem getD_sign {f : List Nat} (hf : Signs f) {p : Nat} (h : p < f.length) : f.getD p 0 = 48 ∨ f.getD p 0 = 49 ∨ f.getD p 0 = 42 := by
  rw [List.getD_eq_getElem?_getD, List.getElem?_eq_getElem h]
  exact hf _ (List.getElem_mem h)
theorem Ord.lt {n : Nat} {zs : List (Nat × Nat)} (O : Ord n zs) {z : Nat × Nat} (h : z ∈ zs) : z.1 < n := by
  have := O.perm.mem_iff.mp (List.mem_map.mpr ⟨z, h, rfl⟩)
  simpa using this
theorem all_ot {f g : List Nat} {zs : List (Nat × Nat)} (hl : f.length = g.length) (O : Ord f.length zs) {φ : Nat × Nat → Bool} (h : ∀ t a b, (a = 48 ∨ a = 49 ∨ a = 42) → (b = 48 ∨ b = 49 ∨ b = 42) → φ (tn t a, tn t b) = φ (a, b)) (hf : Signs f) (hg : Signs g) :
    ((ot f zs).zip (ot g zs)).all φ = (f.zip g).all φ := by
  rw [ot_zip, zip_range hl, List.all_map, List.all_map]
  have e : zs.all (φ ∘ fun z => (tn z.2 (f.getD z.1 0), tn z.2 (g.getD z.1 0))) = (zs.map (·.1)).all (φ ∘ pr f g) := by
    rw [List.all_map, Bool.eq_iff_iff, List.all_eq_true, List.all_eq_true]
    refine forall_congr' fun z => forall_congr' fun hz => ?_
    have lt := O.lt hz
    show φ (tn z.2 (f.getD z.1 0), tn z.2 (g.getD z.1 0)) = true ↔ φ (f.getD z.1 0, g.getD z.1 0) = true
    rw [h z.2 _ _ (getD_sign hf lt) (getD_sign hg (by omega))]
  rw [e, Bool.eq_iff_iff, List.all_eq_true, List.all_eq_true]
  exact forall_congr' fun p => by rw [O.perm.mem_iff]
theorem nd_ot {f g : List Nat} {zs : List (Nat × Nat)} (hl : f.length = g.length) (O : Ord f.length zs) (hf : Signs f) (hg : Signs g) : nd ((ot f zs).zip (ot g zs)) = nd (f.zip g) := by
  unfold nd
  rw [ot_zip, zip_range hl, List.filter_map, List.filter_map, List.length_map, List.length_map]
  have e : zs.filter (dfp ∘ fun z => (tn z.2 (f.getD z.1 0), tn z.2 (g.getD z.1 0))) = zs.filter ((dfp ∘ pr f g) ∘ (·.1)) := List.filter_congr fun z hz => by
    have lt := O.lt hz
    exact tn_dfp (getD_sign hf lt) (getD_sign hg (by omega))
  rw [e, ← List.length_map (f := (·.1)), ← List.filter_map]
  exact (O.perm.filter _).length_eq
theorem map_ot {f g : List Nat} {zs : List (Nat × Nat)} (hl : f.length = g.length) (O : Ord f.length zs) {φ : Nat × Nat → Nat} (h : ∀ t a b, (a = 48 ∨ a = 49 ∨ a = 42) → (b = 48 ∨ b = 49 ∨ b = 42) → φ (tn t a, tn t b) = tn t (φ (a, b))) (hf : Signs f) (hg : Signs g) :
    ((ot f zs).zip (ot g zs)).map φ = ot ((f.zip g).map φ) zs := by
  rw [ot_zip, List.map_map]
  unfold ot
  refine List.map_congr_left fun z hz => ?_
  have lt := O.lt hz
  show φ (tn z.2 (f.getD z.1 0), tn z.2 (g.getD z.1 0)) = _
  rw [h _ _ _ (getD_sign hf lt) (getD_sign hg (by omega)), zip_range hl, List.getD_eq_getElem?_getD (l := List.map φ _), List.getElem?_map, List.getElem?_map, List.getElem?_range lt]
  rfl
theorem cmo_ot {f g : List Nat} {zs : List (Nat × Nat)} (hl : f.length = g.length) (O : Ord f.length zs) (hf : Signs f) (hg : Signs g) : cmo (ot f zs) (ot g zs) = (cmo f g).map fun h => ot h zs := by
  unfold cmo
  rw [all_ot hl O (fun _ _ _ => tn_okp) hf hg, map_ot hl O (fun _ _ _ => tn_pkp) hf hg]
  split <;> rfl
theorem jo_ot {f g : List Nat} {zs : List (Nat × Nat)} (hl : f.length = g.length) (O : Ord f.length zs) (hf : Signs f) (hg : Signs g) : jo (ot f zs) (ot g zs) = (jo f g).map fun h => ot h zs := by
  unfold jo hulU
  rw [all_ot hl O (fun _ _ _ => tn_okp) hf hg, nd_ot hl O hf hg, map_ot hl O (fun _ _ _ => tn_hup) hf hg]
  split <;> rfl
theorem has_ot {f g : List Nat} {zs : List (Nat × Nat)} (hl : f.length = g.length) (O : Ord f.length zs) (hf : Signs f) (hg : Signs g) : ((ot f zs).zip (ot g zs)).all hap = (f.zip g).all hap := all_ot hl O (fun _ _ _ => tn_hap) hf hg
theorem tn42 {t c : Nat} (h : c = 48 ∨ c = 49 ∨ c = 42) : (tn t c == 42) = (c == 42) := by
  unfold tn flS
  by_cases q : t = 0
  · simp [q]
  · rcases h with rfl | rfl | rfl <;> simp [q]
theorem count_ot {f : List Nat} {zs : List (Nat × Nat)} (O : Ord f.length zs) (hf : Signs f) : (ot f zs).count 42 = f.count 42 := by
  have e1 : f = (List.range f.length).map fun p => f.getD p 0 := by
    refine List.ext_getElem (by simp) fun p h1 h2 => by simp [h1]
  have e2 : f.count 42 = (List.range f.length).countP fun p => f.getD p 0 == 42 := by
    conv => lhs; rw [e1]
    rw [List.count, List.countP_map]; rfl
  rw [e2, ← O.perm.countP_eq, List.countP_map]
  unfold ot
  rw [List.count, List.countP_map]
  exact List.countP_congr fun z hz => by
    show (tn z.2 (f.getD z.1 0) == 42) = true ↔ (f.getD z.1 0 == 42) = true
    rw [tn42 (getD_sign hf (O.lt hz))]
theorem signs_ot {f : List Nat} {zs : List (Nat × Nat)} (O : Ord f.length zs) (hf : Signs f) : Signs (ot f zs) := fun c hc => by
  simp only [ot, List.mem_map] at hc
  obtain ⟨z, hz, rfl⟩ := hc
  exact tn_sign (getD_sign hf (O.lt hz))
theorem len_ot {f : List Nat} {zs : List (Nat × Nat)} (O : Ord f.length zs) : (ot f zs).length = f.length := by
  have := O.perm.length_eq
  simpa [ot] using this
end G
set_option Elab.async false
set_option linter.all false
set_option maxRecDepth 100000
namespace G
open PySem PySem.Spec PyProof.Rows L2
local macro_rules | `(tactic| ac_rfl) => `(tactic| first
  | (with_reducible first
    | refine s_seq ?_ | refine thn_nx ?_ | refine s_set ?_ | refine w_c ?_ | refine w_op ?_ | refine a_cons ?_ | refine a_nil ?_
    | refine w_call ?_ | refine t_of ?_ | refine s_if ?_ | refine s_nx ?_ | refine ite_T ?_ | refine ite_F ?_ | refine ite_NT ?_ | refine ite_NF ?_ | refine r_cons ?_ | refine r_nil ?_ | refine w_fn ?_ | refine n_fn ?_
    | refine s_own ?_ | refine s_for ?_ | refine i_of ?_ | refine i_args ?_ | refine w_new ?_ | refine n_lc ?_ | refine n_lc2 ?_ | refine n_call ?_
    | refine s_ret ?_ | refine s_retW ?_ | refine s_expr ?_ | refine s_asg ?_ | refine w_if ?_ | refine w_isN ?_ | refine w_notN ?_ | refine w_meth ?_
    | refine w_and ?_ | refine w_or ?_ | refine w_not ?_ | refine t_and ?_ | refine t_or ?_ | refine t_not ?_ | refine t_yes ?_ | refine w_isi ?_ | refine w_sl ?_
    | refine w_oN ?_ | refine w_oS ?_ | refine n_lst ?_ | refine w_neg ?_ | refine w_rev ?_ | refine n_rg1 ?_ | refine s_setIx ?_ | refine thn_rt ?_ | refine thn_rn ?_ | refine thn_bk ?_ | refine thn_ct ?_
    | refine o_addI ?_ | refine o_subI ?_ | refine o_ltI ?_ | refine o_leI ?_ | refine o_gtI ?_ | refine o_geI ?_ | refine o_eqI ?_ | refine o_neI ?_ | refine o_eqS ?_ | refine o_neS ?_
    | refine o_lenL ?_ | refine o_lenT ?_ | refine o_tupL ?_ | refine o_tupT ?_ | refine o_intI ?_ | refine o_intB ?_ | refine o_intAI ?_ | refine o_intAB ?_ | refine o_maxI ?_ | refine o_minI ?_ | refine o_absI ?_ | refine o_iL ?_ | refine o_iT ?_ | refine o_iS ?_ | refine o_lL ?_ | refine o_lT ?_ | refine w_oN ?_
    | refine o_andI ?_ | refine o_orI ?_ | refine o_xorI ?_ | refine s_bk ?_ | refine s_ct ?_ | refine s_retN ?_ | refine nxI_nx ?_ | refine o_gTup0 ?_ | refine o_gLst0 ?_)
  | ((with_reducible apply w_var); focus rfl)
  | ((with_reducible apply w_varO); focus rfl)
  | ((with_reducible apply w_mut); focus rfl)
  | ((with_reducible apply w_ixOwn); focus rfl)
  | ((with_reducible apply w_lenOwn); focus rfl)
  | ((with_reducible apply r_io); focus rfl)
  | ((with_reducible apply r_scr); focus rfl)
  | ((with_reducible apply n_take); focus rfl)
  | ((with_reducible apply w_lenScr); focus rfl)
  | ((with_reducible apply i_scr); focus rfl)
  | ((with_reducible apply n_slScr); focus rfl)
  | ((with_reducible refine o_gTup ?_ ?_); focus (show _ ≤ _; simp only [List.length_cons, List.length_nil]; decide))
  | ((with_reducible refine o_gLst ?_ ?_); focus (show _ ≤ _; simp only [List.length_cons, List.length_nil]; decide))
  | ((with_reducible refine And.intro ?_ ?_); focus (show List.length _ ≤ sizeLine; simp only [List.length_cons, List.length_nil]; decide))
  | ((with_reducible refine And.intro ?_ ?_); focus (with_reducible rfl))
  | (with_reducible refine And.intro (show isStr _ = true from rfl) ?_)
  | ((with_reducible apply o_ixC); focus rfl)
  | (refine ⟨_, rfl, ?_⟩)
  | (refine ⟨_, _, rfl, ?_⟩)
  | (refine ⟨⟨_, _, rfl⟩, ?_⟩)
  | (refine ⟨_, _, _, _, rfl, rfl, rfl, ?_⟩))
def nsD (ns : List Nat) : List D := ns.map fun k => .int (k : Nat)
def zi (z : Nat × Nat) : D := .tuple [.int (z.1 : Nat), .int (z.2 : Nat)]
theorem gzip_ns (zs : List (Nat × Nat)) : gZip [.list (nsD (zs.map (·.1))), .list (nsD (zs.map (·.2)))] = some (zs.map zi) := by
  show some (zipD (nsD (zs.map (·.1))) (nsD (zs.map (·.2)))) = _
  congr 1
  induction zs with
  | nil => rfl
  | cons z zs ih =>
    simp only [nsD, List.map_cons, zipD] at ih ⊢
    rw [ih]; rfl
theorem w_dictC {kvs : List (Key × Key)} {p : XE} {e : En} {X : Xn → En → Prop} {Q : D → En → Prop} (h : Wp (p e) (fun d e1 => WpO ((keyD d).bind fun k => (dfind kvs k).map kD) fun x => Q x e1) X) : Wp (eDictC kvs p e) Q X := wp_bind (wp_mid h fun _ _ h => wp_lift h)
theorem flip_s {c : Nat} (hc : c = 48 ∨ c = 49 ∨ c = 42) : ((keyD (.str (tx [c]))).bind fun k => (dfind [(.inr (tx [48]), .inr (tx [49])), (.inr (tx [49]), .inr (tx [48])), (.inr (tx [42]), .inr (tx [42]))] k).map kD) = some (.str (tx [flS c])) := by
  rcases hc with rfl | rfl | rfl <;> rfl
def OthOk (F : List Sl → RF) : Prop := ∀ (f : List Nat) (zs : List (Nat × Nat)), Signs f → f.length ≤ 6 → Ord f.length zs → (∀ z ∈ zs, z.2 < 2) → F [.dat (.str (tx f)), .dat (.list (nsD (zs.map (·.1)))), .dat (.list (nsD (zs.map (·.2))))] = .ok (.str (tx (ot f zs))) []
theorem othOk : OthOk (fun a => (run__law_otherwise a).nox) := fun f zs hf h6 O ht => by
  refine nox_ok (b_run (Q := fun r => r = .ok (.str (tx (ot f zs))) []) ?_)
  show Wp (body__law_otherwise [.dat (.str (tx f)), .dat (.list (nsD (zs.map (·.1)))), .dat (.list (nsD (zs.map (·.2)))), .un, .un, .un]) _ _
  have lz : zs.length = f.length := by have := O.perm.length_eq; simpa using this
  unfold body__law_otherwise
  rw [s_e, s_0, s_1, s_s]
  repeat ac_rfl
  refine wpo (gzip_ns zs) ?_
  refine f_go (fun done e => ∃ x4 x5, e = [.dat (.str (tx f)), .dat (.list (nsD (zs.map (·.1)))), .dat (.list (nsD (zs.map (·.2)))), .dat (.str (tx (ot f done))), x4, x5]) ⟨.un, .un, rfl⟩ ?_ ?_
  · rintro done ⟨p, t⟩ rest e ha ⟨x4, x5, rfl⟩
    refine ⟨_, rfl, ?_⟩
    have dl := done_le (n := 6) (by omega) ha
    have hp : p < f.length := O.lt (z := (p, t)) (by rw [ha]; simp)
    have h2 : t < 2 := ht (p, t) (by rw [ha]; simp)
    have hc : f[p]? = some f[p] := List.getElem?_eq_getElem hp
    have hs := hf _ (List.getElem_mem hp)
    have e1 : ot f (done ++ [(p, t)]) = ot f done ++ [tn t f[p]] := by simp [ot, hp]
    have ol : (ot f done).length ≤ 6 := by simp [ot]; omega
    repeat ac_rfl
    refine o_ixSs hc (by omega) ?_
    repeat ac_rfl
    refine w_dictC ?_
    repeat ac_rfl
    refine o_ixSs hc (by omega) ?_
    refine wpo (flip_s hs) ?_
    repeat ac_rfl
    refine o_ixLs (k := t) (d := .str (tx [tn t f[p]])) ?_ ?_
    · have : t = 0 ∨ t = 1 := by omega
      rcases this with rfl | rfl <;> rfl
    · refine o_addS (by simp; omega) ?_
      rw [e1]
      exact lpk_nx ⟨_, _, rfl⟩
  · rintro e ⟨x4, x5, rfl⟩
    repeat ac_rfl
    exact fin_rt rfl
theorem shl_one {k : Nat} (h : k ≤ 1000) {Q : D → Prop} (q : Q (.int (2 ^ k : Nat))) : WpO (dShl (.int 1) (.int (k : Nat))) Q := o_shlI ⟨by omega, by omega, by decide⟩ (by rw [Int.toNat_natCast, show (1 : Int) * 2 ^ k = ((2 ^ k : Nat) : Int) by simp]; exact q)
def ManyOk (F : List Sl → RF) : Prop := ∀ f : List Nat, f.length ≤ 6 → F [.dat (.str (tx f))] = .ok (.int (2 ^ f.count 42 : Nat)) []
theorem manyOk : ManyOk (fun a => (run_how_many a).nox) := fun f h6 => by
  refine nox_ok (b_run (Q := fun r => r = .ok (.int (2 ^ f.count 42 : Nat)) []) ?_)
  show Wp (body_how_many [.dat (.str (tx f))]) _ _
  unfold body_how_many
  rw [s_s]
  repeat ac_rfl
  refine wpo (d := .int (f.count 42 : Nat)) (by show some (PyData.int (Txt.count (tx f) (tx [42]))) = _; rw [count1]) ?_
  have hc : f.count 42 ≤ 6 := Nat.le_trans List.count_le_length h6
  refine shl_one (by omega) ?_
  exact fin_rt rfl
/-! halves -/
def at1 (f : List Nat) (p c : Nat) : List Nat := f.take p ++ [c] ++ f.drop (p + 1)
theorem o_fromA {l : List Nat} {k : Nat} {Q : D → Prop} (hl : l.length ≤ 1000000) (q : Q (.str (tx (l.drop k)))) : WpO (dSlA (.str (tx l)) (some (k : Int)) none) Q := o_from hl q
def HalfOk (F : List Sl → RF) : Prop := ∀ (f : List Nat) (p : Nat), Signs f → f.length ≤ 6 → p < f.length → F [.dat (.str (tx f)), .dat (.int (p : Nat))] = .ok (.bool true) []
theorem at1_len {f : List Nat} {p c : Nat} (h : p < f.length) : (at1 f p c).length = f.length := by simp [at1]; omega
theorem at1_self {f : List Nat} {p : Nat} (h : p < f.length) : at1 f p f[p] = f := by simp [at1]
theorem zip_at1 {f : List Nat} {p c d : Nat} (h : p < f.length) : (at1 f p c).zip (at1 f p d) = (f.take p).zip (f.take p) ++ (c, d) :: (f.drop (p + 1)).zip (f.drop (p + 1)) := by
  unfold at1
  rw [List.zip_append (by simp), List.zip_append rfl]
  simp
theorem same_eqs (l : List Nat) : ∀ z ∈ l.zip l, z.1 = z.2 := fun z hz => by
  obtain ⟨i, hi⟩ := List.getElem?_of_mem hz
  obtain ⟨a, b⟩ := List.getElem?_zip_eq_some.mp hi
  rw [a] at b
  simpa using b
theorem hap_eqs {zs : List (Nat × Nat)} (h : ∀ z ∈ zs, z.1 = z.2) : zs.all hap = true := by
  rw [List.all_eq_true]
  intro z hz
  unfold hap
  simp [h z hz]
theorem has_at1 {f : List Nat} {p c d : Nat} (h : p < f.length) : ((at1 f p c).zip (at1 f p d)).all hap = hap (c, d) := by
  rw [zip_at1 h, List.all_append, List.all_cons, hap_eqs (same_eqs _), hap_eqs (same_eqs _)]; simp
theorem jo_self (f : List Nat) : jo f f = none := by
  unfold jo
  rw [if_neg (fun q => by rw [ok_eqs (same_eqs f)] at q; cases q.1)]
theorem jo_halves {f : List Nat} {p : Nat} (h : p < f.length) : jo (at1 f p 48) (at1 f p 49) = some (at1 f p 42) := by
  have e1 : nd ((at1 f p 48).zip (at1 f p 49)) = 1 := by
    unfold nd
    rw [zip_at1 h, List.filter_append, List.filter_cons, filt_eqs (same_eqs _), filt_eqs (same_eqs _)]; rfl
  have e2 : ((at1 f p 48).zip (at1 f p 49)).all okp = false := by
    rw [zip_at1 h, List.all_append, List.all_cons, show okp (48, 49) = false by rfl]; simp
  unfold jo
  rw [if_pos ⟨e2, e1⟩]
  unfold hulU
  rw [zip_at1 h, List.map_append, List.map_cons, hup_eqs (same_eqs _), hup_eqs (same_eqs _), zip_fst rfl, zip_fst rfl]
  simp [at1, hup]
theorem halfOk : HalfOk (fun a => (run__law_halves_right a).nox) := fun f p hf h6 hp => by
  refine nox_ok (b_run (Q := fun r => r = .ok (.bool true) []) ?_)
  show Wp (body__law_halves_right _ _ [.dat (.str (tx f)), .dat (.int (p : Nat)), .un, .un]) _ _
  have hH := hasOk
  have hJ := joOk
  generalize (fun a => (run_has_all a).nox) = FH at hH ⊢
  generalize (fun a => (run_joined a).nox) = FJ at hJ ⊢
  have hc : f[p]? = some f[p] := List.getElem?_eq_getElem hp
  have ln : ∀ c, (at1 f p c).length = f.length := fun c => at1_len hp
  unfold body__law_halves_right
  rw [s_s, s_01]
  repeat ac_rfl
  show _ ∧ Wp (lcGo _ _ _ _ (([48, 49] : List Nat).map fun c => .str (tx [c])) _ _) _ _
  refine ⟨lt_line (by simp), l_map (fun c => .str (tx (at1 f p c))) (fun c _ => ⟨_, rfl, ?_⟩) ?_⟩
  · repeat ac_rfl
    refine o_to (by omega) (by omega) ?_
    repeat ac_rfl
    refine o_addS (by simp; omega) ?_
    repeat ac_rfl
    refine o_from (k := p + 1) (by omega) ?_
    refine o_addS (by simp; omega) ?_
    exact ⟨rfl, rfl⟩
  · rw [show [] ++ ([48, 49] : List Nat).map (fun c => PyData.str (tx (at1 f p c))) = [.str (tx (at1 f p 48)), .str (tx (at1 f p 49))] from rfl]
    repeat ac_rfl
    refine o_ixSs hc (by omega) ?_
    repeat ac_rfl
    refine ite_d (fun q => ?_) (fun q => ?_)
    · have q : f[p] = 42 := by simpa using q
      have ef : f = at1 f p 42 := by rw [← q, at1_self hp]
      have j1 := hJ (at1 f p 48) (at1 f p 49) (by rw [ln, ln]) (by rw [ln]; omega)
      rw [jo_halves hp, ← ef] at j1
      have a1 := hH f (at1 f p 49) h6
      rw [show (f.zip (at1 f p 49)).all hap = true by
        have := has_at1 (c := 42) (d := 49) hp
        rw [← ef] at this
        rw [this]; rfl] at a1
      have a2 := hH (at1 f p 48) f (by rw [ln]; omega)
      rw [show ((at1 f p 48).zip f).all hap = false by
        have := has_at1 (c := 48) (d := 42) hp
        rw [← ef] at this
        rw [this]; rfl] at a2
      repeat ac_rfl
      refine c_ok j1 ?_
      repeat ac_rfl
      refine o_eqS (a := f) (b := f) ?_
      repeat ac_rfl
      refine ite_t (by simp) ?_
      repeat ac_rfl
      refine c_ok a1 ?_
      repeat ac_rfl
      refine c_ok a2 ?_
      repeat ac_rfl
      exact fin_rt rfl
    · have q : ¬ f[p] = 42 := by simpa using q
      have a1 := hH (at1 f p 42) f (by rw [ln]; omega)
      rw [show ((at1 f p 42).zip f).all hap = true by
        have := has_at1 (c := 42) (d := f[p]) hp
        rw [at1_self hp] at this
        rw [this]; rfl] at a1
      have j1 := hJ f f rfl h6
      rw [jo_self] at j1
      repeat ac_rfl
      refine o_to (by omega) (by omega) ?_
      repeat ac_rfl
      refine o_addS (by simp; omega) ?_
      repeat ac_rfl
      refine o_from (k := p + 1) (by omega) ?_
      refine o_addS (by simp; omega) ?_
      repeat ac_rfl
      refine c_ok a1 ?_
      repeat ac_rfl
      refine c_ok j1 ?_
      repeat ac_rfl
      exact fin_rt rfl
end G
set_option Elab.async false
set_option linter.all false
set_option maxRecDepth 100000
namespace G
open PySem PySem.Spec PyProof.Rows L2
local macro_rules | `(tactic| ac_rfl) => `(tactic| first
  | (with_reducible first
    | refine s_seq ?_ | refine thn_nx ?_ | refine s_set ?_ | refine w_c ?_ | refine w_op ?_ | refine a_cons ?_ | refine a_nil ?_
    | refine w_call ?_ | refine t_of ?_ | refine s_if ?_ | refine s_nx ?_ | refine ite_T ?_ | refine ite_F ?_ | refine ite_NT ?_ | refine ite_NF ?_ | refine r_cons ?_ | refine r_nil ?_ | refine w_fn ?_ | refine n_fn ?_
    | refine s_own ?_ | refine s_for ?_ | refine i_of ?_ | refine i_args ?_ | refine w_new ?_ | refine n_lc ?_ | refine n_lc2 ?_ | refine n_call ?_
    | refine s_ret ?_ | refine s_retW ?_ | refine s_expr ?_ | refine s_asg ?_ | refine w_if ?_ | refine w_isN ?_ | refine w_notN ?_ | refine w_meth ?_
    | refine w_and ?_ | refine w_or ?_ | refine w_not ?_ | refine t_and ?_ | refine t_or ?_ | refine t_not ?_ | refine t_yes ?_ | refine w_isi ?_ | refine w_sl ?_
    | refine w_oN ?_ | refine w_oS ?_ | refine n_lst ?_ | refine w_neg ?_ | refine w_rev ?_ | refine n_rg1 ?_ | refine s_setIx ?_ | refine thn_rt ?_ | refine thn_rn ?_ | refine thn_bk ?_ | refine thn_ct ?_
    | refine o_addI ?_ | refine o_subI ?_ | refine o_ltI ?_ | refine o_leI ?_ | refine o_gtI ?_ | refine o_geI ?_ | refine o_eqI ?_ | refine o_neI ?_ | refine o_eqS ?_ | refine o_neS ?_
    | refine o_lenL ?_ | refine o_lenT ?_ | refine o_tupL ?_ | refine o_tupT ?_ | refine o_intI ?_ | refine o_intB ?_ | refine o_intAI ?_ | refine o_intAB ?_ | refine o_maxI ?_ | refine o_minI ?_ | refine o_absI ?_ | refine o_iL ?_ | refine o_iT ?_ | refine o_iS ?_ | refine o_lL ?_ | refine o_lT ?_ | refine w_oN ?_
    | refine o_andI ?_ | refine o_orI ?_ | refine o_xorI ?_ | refine s_bk ?_ | refine s_ct ?_ | refine s_retN ?_ | refine nxI_nx ?_ | refine o_gTup0 ?_ | refine o_gLst0 ?_)
  | ((with_reducible apply w_var); focus rfl)
  | ((with_reducible apply w_varO); focus rfl)
  | ((with_reducible apply w_mut); focus rfl)
  | ((with_reducible apply w_ixOwn); focus rfl)
  | ((with_reducible apply w_lenOwn); focus rfl)
  | ((with_reducible apply r_io); focus rfl)
  | ((with_reducible apply r_scr); focus rfl)
  | ((with_reducible apply n_take); focus rfl)
  | ((with_reducible apply w_lenScr); focus rfl)
  | ((with_reducible apply i_scr); focus rfl)
  | ((with_reducible apply n_slScr); focus rfl)
  | ((with_reducible refine o_gTup ?_ ?_); focus (show _ ≤ _; simp only [List.length_cons, List.length_nil]; decide))
  | ((with_reducible refine o_gLst ?_ ?_); focus (show _ ≤ _; simp only [List.length_cons, List.length_nil]; decide))
  | ((with_reducible refine And.intro ?_ ?_); focus (show List.length _ ≤ sizeLine; simp only [List.length_cons, List.length_nil]; decide))
  | ((with_reducible refine And.intro ?_ ?_); focus (with_reducible rfl))
  | (with_reducible refine And.intro (show isStr _ = true from rfl) ?_)
  | ((with_reducible apply o_ixC); focus rfl)
  | (refine ⟨_, rfl, ?_⟩)
  | (refine ⟨_, _, rfl, ?_⟩)
  | (refine ⟨⟨_, _, rfl⟩, ?_⟩)
  | (refine ⟨_, _, _, _, rfl, rfl, rfl, ?_⟩))
theorem leD_tx (a b : List Nat) : leD (.str (tx a)) (.str (tx b)) = decide (a ≤ b) := by
  show (!(decide (b < a) || (!decide (a < b) && false))) = _
  rw [Bool.and_false, Bool.or_false, Bool.eq_iff_iff, Bool.not_eq_true', decide_eq_false_iff_not, decide_eq_true_iff, List.not_lt]
theorem cor_sorted : ∀ {f : List Nat}, Signs f → (cor f).Pairwise (· ≤ ·)
  | [], _ => by simp [cor]
  | s :: f, hf => by
    have ih := cor_sorted (f := f) fun x hx => hf x (by simp [hx])
    have one : ∀ x : Nat, ((cor f).map (x :: ·)).Pairwise (· ≤ ·) := fun x => List.Pairwise.map _ (fun a b q => by rw [List.cons_le_cons_iff]; exact .inr ⟨rfl, q⟩) ih
    rcases hf s (by simp) with rfl | rfl | rfl
    · simpa [cor, ch] using one 48
    · simpa [cor, ch] using one 49
    · have e : cor (42 :: f) = (cor f).map (48 :: ·) ++ (cor f).map (49 :: ·) := by simp [cor, ch]
      rw [e]
      refine List.pairwise_append.mpr ⟨one 48, one 49, fun a ha b hb => ?_⟩
      obtain ⟨x, _, rfl⟩ := List.mem_map.mp ha
      obtain ⟨y, _, rfl⟩ := List.mem_map.mp hb
      rw [List.cons_le_cons_iff]
      exact .inl (by decide)
theorem sort_txs {L M : List (List Nat)} (hp : L.Perm M) (hs : M.Pairwise (· ≤ ·)) : (txs L).mergeSort leD = txs M := by
  have e : (txs L).mergeSort leD = txs (L.mergeSort fun a b => decide (a ≤ b)) := by
    unfold txs
    rw [List.map_mergeSort]
    intro a _ b _
    exact (leD_tx a b).symm
  rw [e]
  congr 1
  refine List.Perm.eq_of_pairwise (le := fun a b : List Nat => a ≤ b) (fun a b _ _ h1 h2 => List.le_antisymm h1 h2) ?_ hs ((List.mergeSort_perm _ _).trans hp)
  have := List.pairwise_mergeSort (le := fun a b : List Nat => decide (a ≤ b)) (fun a b c h1 h2 => by
    simp only [decide_eq_true_eq] at *
    exact List.le_trans h1 h2) (fun a b => by
    simp only [Bool.or_eq_true, decide_eq_true_eq]
    exact List.le_total a b) L
  simpa using this
theorem sortable_txs {L : List (List Nat)} (h : L.length ≤ 1000) : sortable (txs L) = true := by
  have al : ∀ d ∈ txs L, ∃ k, d = .str (tx k) := fun d hd => by
    simp only [txs, List.mem_map] at hd
    obtain ⟨k, _, rfl⟩ := hd
    exact ⟨_, rfl⟩
  unfold sortable
  simp only [Bool.and_eq_true, Bool.or_eq_true, List.all_eq_true, decide_eq_true_eq]
  refine ⟨⟨⟨fun d hd d' hd' => ?_, .inr fun d hd => ?_⟩, fun d hd => ?_⟩, by simp [txs]; exact le_line (by omega)⟩
  · obtain ⟨k, rfl⟩ := al d hd
    obtain ⟨k', rfl⟩ := al d' hd'
    rfl
  · obtain ⟨k, rfl⟩ := al d hd
    rfl
  · obtain ⟨k, rfl⟩ := al d hd
    simp [PyData.depth]
theorem o_sortT {L M : List (List Nat)} {Q : List D → Prop} (h : L.length ≤ 1000) (hp : L.Perm M) (hs : M.Pairwise (· ≤ ·)) (q : Q (txs M)) : WpO (sortDA [.tuple (txs L)]) Q := wpo (by
  show (if sortable (txs L) = true then some ((txs L).mergeSort leD) else none) = _
  rw [if_pos (sortable_txs h), sort_txs hp hs]) q
theorem strsD_txs : ∀ L : List (List Nat), G.strsD (txs L) = some (L.map tx)
  | [] => rfl
  | l :: L => by
    show (G.strsD (txs L)).map _ = _
    rw [strsD_txs L]; rfl
theorem o_lenSet {L : List (List Nat)} {Q : D → Prop} (hn : L.Nodup) (h : L.length ≤ 1000) (q : Q (.int (L.length : Nat))) : WpO (dLenSet [.tuple (txs L)]) Q := by
  refine wpo ?_ q
  show (match G.strsD (txs L) with
    | some ns => if ns.Nodup ∧ ns.length ≤ 4000 then some (PyData.int (ns.length : Nat)) else none
    | none => none) = _
  rw [strsD_txs]
  show (if (L.map tx).Nodup ∧ (L.map tx).length ≤ 4000 then some (PyData.int ((L.map tx).length : Nat)) else none) = _
  rw [if_pos ⟨List.Pairwise.map _ (fun a b q e => q (tx_inj.mp e)) hn, by rw [List.length_map]; omega⟩, List.length_map]
end G
set_option Elab.async false
set_option linter.all false
set_option maxRecDepth 100000
namespace G
open PySem PySem.Spec PyProof.Rows L2
local macro_rules | `(tactic| ac_rfl) => `(tactic| first
  | (with_reducible first
    | refine s_seq ?_ | refine thn_nx ?_ | refine s_set ?_ | refine w_c ?_ | refine w_op ?_ | refine a_cons ?_ | refine a_nil ?_
    | refine w_call ?_ | refine t_of ?_ | refine s_if ?_ | refine s_nx ?_ | refine ite_T ?_ | refine ite_F ?_ | refine ite_NT ?_ | refine ite_NF ?_ | refine r_cons ?_ | refine r_nil ?_ | refine w_fn ?_ | refine n_fn ?_
    | refine s_own ?_ | refine s_for ?_ | refine i_of ?_ | refine i_args ?_ | refine w_new ?_ | refine n_lc ?_ | refine n_lc2 ?_ | refine n_call ?_
    | refine s_ret ?_ | refine s_retW ?_ | refine s_expr ?_ | refine s_asg ?_ | refine w_if ?_ | refine w_isN ?_ | refine w_notN ?_ | refine w_meth ?_
    | refine w_and ?_ | refine w_or ?_ | refine w_not ?_ | refine t_and ?_ | refine t_or ?_ | refine t_not ?_ | refine t_yes ?_ | refine w_isi ?_ | refine w_sl ?_
    | refine w_oN ?_ | refine w_oS ?_ | refine n_lst ?_ | refine w_neg ?_ | refine w_rev ?_ | refine n_rg1 ?_ | refine s_setIx ?_ | refine thn_rt ?_ | refine thn_rn ?_ | refine thn_bk ?_ | refine thn_ct ?_
    | refine o_addI ?_ | refine o_subI ?_ | refine o_ltI ?_ | refine o_leI ?_ | refine o_gtI ?_ | refine o_geI ?_ | refine o_eqI ?_ | refine o_neI ?_ | refine o_eqS ?_ | refine o_neS ?_
    | refine o_lenL ?_ | refine o_lenT ?_ | refine o_tupL ?_ | refine o_tupT ?_ | refine o_intI ?_ | refine o_intB ?_ | refine o_intAI ?_ | refine o_intAB ?_ | refine o_maxI ?_ | refine o_minI ?_ | refine o_absI ?_ | refine o_iL ?_ | refine o_iT ?_ | refine o_iS ?_ | refine o_lL ?_ | refine o_lT ?_ | refine w_oN ?_
    | refine o_andI ?_ | refine o_orI ?_ | refine o_xorI ?_ | refine s_bk ?_ | refine s_ct ?_ | refine s_retN ?_ | refine nxI_nx ?_ | refine o_gTup0 ?_ | refine o_gLst0 ?_)
  | ((with_reducible apply w_var); focus rfl)
  | ((with_reducible apply w_varO); focus rfl)
  | ((with_reducible apply w_mut); focus rfl)
  | ((with_reducible apply w_ixOwn); focus rfl)
  | ((with_reducible apply w_lenOwn); focus rfl)
  | ((with_reducible apply r_io); focus rfl)
  | ((with_reducible apply r_scr); focus rfl)
  | ((with_reducible apply n_take); focus rfl)
  | ((with_reducible apply w_lenScr); focus rfl)
  | ((with_reducible apply i_scr); focus rfl)
  | ((with_reducible apply n_slScr); focus rfl)
  | ((with_reducible refine o_gTup ?_ ?_); focus (show _ ≤ _; simp only [List.length_cons, List.length_nil]; decide))
  | ((with_reducible refine o_gLst ?_ ?_); focus (show _ ≤ _; simp only [List.length_cons, List.length_nil]; decide))
  | ((with_reducible refine And.intro ?_ ?_); focus (show List.length _ ≤ sizeLine; simp only [List.length_cons, List.length_nil]; decide))
  | ((with_reducible refine And.intro ?_ ?_); focus (with_reducible rfl))
  | (with_reducible refine And.intro (show isStr _ = true from rfl) ?_)
  | ((with_reducible apply o_ixC); focus rfl)
  | (refine ⟨_, rfl, ?_⟩)
  | (refine ⟨_, _, rfl, ?_⟩)
  | (refine ⟨⟨_, _, rfl⟩, ?_⟩)
  | (refine ⟨_, _, _, _, rfl, rfl, rfl, ?_⟩))
theorem pick_mark (cs : List (List Nat)) : ∀ A : List (List Nat), pick A (markOf cs A) = A.filter fun l => decide (l ∈ cs)
  | [] => rfl
  | l :: A => by
    have ih := pick_mark cs A
    unfold pick markOf at ih ⊢
    simp only [List.map_cons, List.zip_cons_cons, List.filter_cons]
    by_cases h : l ∈ cs
    · simp only [h, if_true, decide_true]; simpa using ih
    · simp only [h, if_false, decide_false]; simpa using ih
theorem txs_map (b : List (List Nat)) : txs b = (b.map tx).map .str := by simp [txs]
theorem pair_fit (i : Int) {ss : List Str} (h : ∀ s ∈ ss, PyData.canLay0 (.str s) = true) : fit (.tuple [.int i, .tuple (ss.map .str)]) ∧ nb (.tuple [.int i, .tuple (ss.map .str)]) = true := by
  obtain ⟨a1, a2, a3⟩ := fit_strs ss h
  exact ⟨⟨by simp [PyData.canLay0, PyData.canLayAll0, a1], by simp [PyData.depth, PyData.depthAll, a2]⟩, by simp [nb, nbs, a3]⟩
theorem ne_pair (i : Int) {cs : List (List Nat)} (h : ∀ s ∈ cs.map tx, PyData.canLay0 (.str s) = true) : dNe (.tuple [.int i, .tuple (txs cs)]) (.tuple [.int i, .tuple (txs cs)]) = some (.bool false) := by
  rw [txs_map]
  obtain ⟨f, b⟩ := pair_fit i h
  rw [dNe_seq rfl f f, (eqv_iff _ _ b b).mpr rfl]; rfl
theorem list_fit0 (xs : List Str) (h : ∀ s ∈ xs, PyData.canLay0 (.str s) = true) : fit (.list (xs.map .str)) ∧ nb (.list (xs.map .str)) = true := by
  obtain ⟨a1, a2, a3⟩ := fit_strs xs h
  exact ⟨⟨by simpa [PyData.canLay0] using a1, by simp [PyData.depth, a2]⟩, by simpa [nb] using a3⟩
theorem list_inj0 {xs ys : List Str} : (PyData.list (xs.map .str) = .list (ys.map .str)) ↔ xs = ys := by simp [map_str_inj]
def GoodS (A : List (List Nat)) : Prop := ∀ l ∈ A, Signs l
theorem good_lay {A : List (List Nat)} (h : GoodS A) : ∀ s ∈ A.map tx, PyData.canLay0 (.str s) = true := fun s hs => by
  obtain ⟨l, hl, rfl⟩ := List.mem_map.mp hs
  exact lay_tx fun c hc => by rcases h l hl c hc with rfl | rfl | rfl <;> decide
theorem good_cor {f : List Nat} (hf : Signs f) : GoodS (cor f) := fun l hl c hc => by
  rcases cor_codes hf hl c hc with q | q
  · exact .inl q
  · exact .inr (.inl q)
theorem tx_map_inj : ∀ {A B : List (List Nat)}, A.map tx = B.map tx ↔ A = B
  | [], [] => by simp
  | [], _ :: _ => by simp
  | _ :: _, [] => by simp
  | a :: A, b :: B => by simp [tx_map_inj (A := A) (B := B)]
theorem list_fit {A : List (List Nat)} (h : GoodS A) : fit (.list (txs A)) ∧ nb (.list (txs A)) = true := by
  rw [txs_map]
  exact list_fit0 _ (good_lay h)
theorem eqv_txs {A B : List (List Nat)} (ha : GoodS A) (hb : GoodS B) : PyData.eqv (.list (txs A)) (.list (txs B)) = decide (A = B) := by
  rw [Bool.eq_iff_iff, eqv_iff _ _ (list_fit ha).2 (list_fit hb).2, txs_map, txs_map, list_inj0, tx_map_inj, decide_eq_true_iff]
theorem o_neLT {A B : List (List Nat)} {Q : D → Prop} (ha : GoodS A) (hb : GoodS B) (q : Q (.bool (!decide (A = B)))) : WpO (dNe (.list (txs A)) (.list (txs B))) Q := wpo (by rw [dNe_seq rfl (list_fit ha).1 (list_fit hb).1, eqv_txs ha hb]) q
theorem o_eqLT {A B : List (List Nat)} {Q : D → Prop} (ha : GoodS A) (hb : GoodS B) (q : Q (.bool (decide (A = B)))) : WpO (dEq (.list (txs A)) (.list (txs B))) Q := wpo (by rw [dEq_seq rfl (list_fit ha).1 (list_fit hb).1, eqv_txs ha hb]) q
theorem o_neTT {A : List (List Nat)} {Q : D → Prop} (ha : GoodS A) (q : Q (.bool false)) : WpO (dNe (.tuple (txs A)) (.tuple (txs A))) Q := wpo (by rw [txs_map, nev_tupStrs (good_lay ha) (good_lay ha)]; simp) q
theorem hap_mat : ∀ {f c : List Nat}, f.length = c.length → (f.zip c).all hap = mat f c
  | [], [], _ => rfl
  | s :: f, x :: c, h => by
    have ih := hap_mat (f := f) (c := c) (by simpa using h)
    simp only [List.zip_cons_cons, List.all_cons, mat, ih, hap]
theorem mem_mat : ∀ {f l : List Nat}, Signs f → l.length = f.length → Bn l → (l ∈ cor f ↔ mat f l = true)
  | [], [], _, _, _ => by simp [cor, mat]
  | s :: f, x :: l, hf, hl, hb => by
    have ih := mem_mat (f := f) (l := l) (fun y hy => hf y (by simp [hy])) (by simpa using hl) (fun y hy => hb y (by simp [hy]))
    rw [mem_cor] at ih ⊢
    simp only [Mt, mat, Bool.and_eq_true, ← ih]
    have hs := hf s (by simp)
    have hx := hb x (by simp)
    rcases hs with rfl | rfl | rfl <;> rcases hx with rfl | rfl <;> simp [ch]
theorem cor_full_mem {n : Nat} {l : List Nat} (h : l ∈ cor (List.replicate n 42)) : l.length = n ∧ Bn l := ⟨by rw [cor_len h]; simp, cor_codes (sg_rep n) h⟩
theorem filt_cor {f : List Nat} (hf : Signs f) : ((cor (List.replicate f.length 42)).filter fun l => decide (l ∈ cor f)) = cor f := by
  rw [← filter_mat hf]
  refine List.filter_congr fun l hl => ?_
  obtain ⟨h1, h2⟩ := cor_full_mem hl
  rw [filter_mat hf, Bool.eq_iff_iff, decide_eq_true_iff]
  exact mem_mat hf h1 h2
theorem cor_self : ∀ {c : List Nat}, Bn c → cor c = [c]
  | [], _ => rfl
  | x :: c, h => by
    have ih := cor_self (c := c) fun y hy => h y (by simp [hy])
    rcases h x (by simp) with rfl | rfl <;> simp [cor, ch, ih]
theorem bin_mark (cs b : List (List Nat)) : Bin (markOf cs b) := fun c hc => by
  simp only [markOf, List.mem_map] at hc
  obtain ⟨l, _, rfl⟩ := hc
  split <;> simp
def FrOk (F : List Sl → RF) : Prop := ∀ f : List Nat, Signs f → 1 ≤ f.length → f.length ≤ 6 → F [.dat (.str (tx f))] = .ok (.bool true) []
theorem frOk : FrOk (fun a => (run__law_face_right a).nox) := fun f hf h1 h6 => by
  refine nox_ok (b_run (Q := fun r => r = .ok (.bool true) []) ?_)
  show Wp (body__law_face_right _ _ _ _ _ [.dat (.str (tx f)), .un, .un, .un]) _ _
  have hC := corOk
  have hM := manyOk
  have hH := hasOk
  have hR := readOk
  have hS := shownOk
  generalize (fun a => (run_corners_of a).nox) = FC at hC ⊢
  generalize (fun a => (run_how_many a).nox) = FM at hM ⊢
  generalize (fun a => (run_has_all a).nox) = FH at hH ⊢
  generalize (fun a => (run_read_set a).nox) = FR at hR ⊢
  generalize (fun a => (run_set_shown a).nox) = FS at hS ⊢
  have c64 := cor_le h6
  have full : (cor (List.replicate f.length 42)).length = 2 ^ f.length := by rw [cor_count]; simp
  have f64 := cor_le (f := List.replicate f.length 42) (by simpa using h6)
  unfold body__law_face_right
  repeat ac_rfl
  refine c_ok (hC f hf h6) ?_
  repeat ac_rfl
  refine o_lenS (by omega) ?_
  repeat ac_rfl
  refine c_ok (hM f h6) ?_
  repeat ac_rfl
  rw [txs_len, cor_count]
  refine ite_f (by simp) ?_
  repeat ac_rfl
  refine o_lenSet (cor_nodup f) (by omega) ?_
  repeat ac_rfl
  rw [txs_len]
  refine ite_f (by simp) ?_
  repeat ac_rfl
  refine wpo (d := txs (cor f)) rfl ?_
  repeat ac_rfl
  refine o_sortT (by omega) (.refl _) (cor_sorted hf) ?_
  repeat ac_rfl
  refine o_neLT (good_cor hf) (good_cor hf) ?_
  repeat ac_rfl
  refine ite_f (by simp) ?_
  repeat ac_rfl
  have gs := hS f.length (cor f) h1 h6
  have gr := hR f.length (markOf (cor f) (cor (List.replicate f.length 42))) h1 h6 (by simp [markOf, full]) (bin_mark _ _)
  rw [pick_mark, filt_cor hf] at gr
  refine c_ok gs ?_
  repeat ac_rfl
  refine c_ok gr ?_
  repeat ac_rfl
  refine wpo (ne_pair _ (good_lay (good_cor hf))) ?_
  repeat ac_rfl
  obtain ⟨c0, rest, ec⟩ := List.exists_cons_of_ne_nil (cor_ne f)
  have hc0 : c0 ∈ cor f := by rw [ec]; simp
  have b0 : Bn c0 := cor_codes hf hc0
  have s0 : Signs c0 := good_cor hf c0 hc0
  have g0 := hC c0 s0 (by rw [cor_len hc0]; exact h6)
  rw [cor_self b0] at g0
  have e0 : txs (cor f) = .str (tx c0) :: txs rest := by rw [ec]; rfl
  refine o_ixTs (k := 0) (d := .str (tx c0)) (by rw [e0]; rfl) ?_
  repeat ac_rfl
  refine c_ok g0 ?_
  repeat ac_rfl
  refine wpo (d := .tuple (txs [c0])) (by
    show some (PyData.tuple (cutD (txs (cor f)) none (some ((1 : Nat) : Int)))) = _
    unfold cutD
    rw [HT.sIx_none, HT.sIx_nat, List.drop_zero, Nat.sub_zero, e0]
    simp [txs]) ?_
  refine o_neTT (fun l hl => by
    have : l = c0 := by simpa using hl
    rw [this]; exact s0) ?_
  repeat ac_rfl
  refine wpo (stars h1 h6) ?_
  repeat ac_rfl
  refine c_ok (hC (List.replicate f.length 42) (sg_rep _) (by simpa using h6)) ?_
  refine o_iT ?_
  refine ⟨lt_line (by rw [txs_len]; omega), ?_⟩
  show Wp (lcGo _ _ _ _ ((cor (List.replicate f.length 42)).map fun l => .str (tx l)) _ _) _ _
  refine l_pure (fun l => mat f l) (fun l => .str (tx l)) (fun l hl => ⟨_, rfl, ?_⟩) ?_
  · have hm := hH f l h6
    rw [hap_mat (by rw [cor_len hl]; simp)] at hm
    repeat ac_rfl
    refine c_ok hm ?_
    repeat ac_rfl
    refine ⟨fun _ => ?_, fun _ => rfl⟩
    repeat ac_rfl
  · rw [filter_mat hf]
    rw [show [] ++ (cor f).map (fun l => PyData.str (tx l)) = txs (cor f) from rfl]
    repeat ac_rfl
    refine wpo (d := txs (cor f)) rfl ?_
    repeat ac_rfl
    refine o_eqLT (good_cor hf) (good_cor hf) ?_
    rw [show decide (cor f = cor f) = true by simp]
    exact fin_rt rfl
end G
set_option Elab.async false
set_option linter.all false
set_option maxRecDepth 100000
namespace G
open PySem PySem.Spec PyProof.Rows L2
local macro_rules | `(tactic| ac_rfl) => `(tactic| first
  | (with_reducible first
    | refine s_seq ?_ | refine thn_nx ?_ | refine s_set ?_ | refine w_c ?_ | refine w_op ?_ | refine a_cons ?_ | refine a_nil ?_
    | refine w_call ?_ | refine t_of ?_ | refine s_if ?_ | refine s_nx ?_ | refine ite_T ?_ | refine ite_F ?_ | refine ite_NT ?_ | refine ite_NF ?_ | refine r_cons ?_ | refine r_nil ?_ | refine w_fn ?_ | refine n_fn ?_
    | refine s_own ?_ | refine s_for ?_ | refine i_of ?_ | refine i_args ?_ | refine w_new ?_ | refine n_lc ?_ | refine n_lc2 ?_ | refine n_call ?_
    | refine s_ret ?_ | refine s_retW ?_ | refine s_expr ?_ | refine s_asg ?_ | refine w_if ?_ | refine w_isN ?_ | refine w_notN ?_ | refine w_meth ?_
    | refine w_and ?_ | refine w_or ?_ | refine w_not ?_ | refine t_and ?_ | refine t_or ?_ | refine t_not ?_ | refine t_yes ?_ | refine w_isi ?_ | refine w_sl ?_
    | refine w_oN ?_ | refine w_oS ?_ | refine n_lst ?_ | refine w_neg ?_ | refine w_rev ?_ | refine n_rg1 ?_ | refine s_setIx ?_ | refine thn_rt ?_ | refine thn_rn ?_ | refine thn_bk ?_ | refine thn_ct ?_
    | refine o_addI ?_ | refine o_subI ?_ | refine o_ltI ?_ | refine o_leI ?_ | refine o_gtI ?_ | refine o_geI ?_ | refine o_eqI ?_ | refine o_neI ?_ | refine o_eqS ?_ | refine o_neS ?_
    | refine o_lenL ?_ | refine o_lenT ?_ | refine o_tupL ?_ | refine o_tupT ?_ | refine o_intI ?_ | refine o_intB ?_ | refine o_intAI ?_ | refine o_intAB ?_ | refine o_maxI ?_ | refine o_minI ?_ | refine o_absI ?_ | refine o_iL ?_ | refine o_iT ?_ | refine o_iS ?_ | refine o_lL ?_ | refine o_lT ?_ | refine w_oN ?_
    | refine o_andI ?_ | refine o_orI ?_ | refine o_xorI ?_ | refine s_bk ?_ | refine s_ct ?_ | refine s_retN ?_ | refine nxI_nx ?_ | refine o_gTup0 ?_ | refine o_gLst0 ?_)
  | ((with_reducible apply w_var); focus rfl)
  | ((with_reducible apply w_varO); focus rfl)
  | ((with_reducible apply w_mut); focus rfl)
  | ((with_reducible apply w_ixOwn); focus rfl)
  | ((with_reducible apply w_lenOwn); focus rfl)
  | ((with_reducible apply r_io); focus rfl)
  | ((with_reducible apply r_scr); focus rfl)
  | ((with_reducible apply n_take); focus rfl)
  | ((with_reducible apply w_lenScr); focus rfl)
  | ((with_reducible apply i_scr); focus rfl)
  | ((with_reducible apply n_slScr); focus rfl)
  | ((with_reducible refine o_gTup ?_ ?_); focus (show _ ≤ _; simp only [List.length_cons, List.length_nil]; decide))
  | ((with_reducible refine o_gLst ?_ ?_); focus (show _ ≤ _; simp only [List.length_cons, List.length_nil]; decide))
  | ((with_reducible refine And.intro ?_ ?_); focus (show List.length _ ≤ sizeLine; simp only [List.length_cons, List.length_nil]; decide))
  | ((with_reducible refine And.intro ?_ ?_); focus (with_reducible rfl))
  | (with_reducible refine And.intro (show isStr _ = true from rfl) ?_)
  | ((with_reducible apply o_ixC); focus rfl)
  | (refine ⟨_, rfl, ?_⟩)
  | (refine ⟨_, _, rfl, ?_⟩)
  | (refine ⟨⟨_, _, rfl⟩, ?_⟩)
  | (refine ⟨_, _, _, _, rfl, rfl, rfl, ?_⟩))
def both (f g : List Nat) : List (List Nat) := (cor f).filter fun l => decide (l ∈ cor g)
theorem both_mem {f g c : List Nat} : c ∈ both f g ↔ Mt f c ∧ Mt g c := by simp [both, mem_cor]
theorem both_some {f g : List Nat} (hl : f.length = g.length) (hf : Signs f) (hg : Signs g) (h : (f.zip g).all okp = true) : both f g = cor ((f.zip g).map pkp) := by
  have hs := signs_cm hf hg
  refine List.Perm.eq_of_pairwise (le := fun a b : List Nat => a ≤ b) (fun a b _ _ h1 h2 => List.le_antisymm h1 h2) ((cor_sorted hf).sublist (List.filter_sublist ..)) (cor_sorted hs) ?_
  refine (List.perm_ext_iff_of_nodup ((cor_nodup f).sublist (List.filter_sublist ..)) (cor_nodup _)).mpr fun c => ?_
  rw [mem_cor, ← cm_mem hl hf hg h]
  exact both_mem
theorem both_none {f g : List Nat} (hf : Signs f) (hg : Signs g) (h : (f.zip g).all okp = false) : both f g = [] := List.eq_nil_iff_forall_not_mem.mpr fun c hc => cm_non hf hg h c (both_mem.mp hc)
theorem hap_pk {a b : Nat} (ha : a = 48 ∨ a = 49 ∨ a = 42) (hb : b = 48 ∨ b = 49 ∨ b = 42) : hap (a, b) = (okp (a, b) && decide (pkp (a, b) = b)) := by
  unfold hap okp pkp
  rcases ha with rfl | rfl | rfl <;> rcases hb with rfl | rfl | rfl <;> rfl
theorem has_cm : ∀ {f g : List Nat}, f.length = g.length → Signs f → Signs g → ((f.zip g).all hap = true ↔ cmo f g = some g)
  | [], [], _, _, _ => by simp [cmo]
  | a :: f, b :: g, hl, hf, hg => by
    have ih := has_cm (f := f) (g := g) (by simpa using hl) (fun y hy => hf y (by simp [hy])) (fun y hy => hg y (by simp [hy]))
    have q := hap_pk (hf a (by simp)) (hg b (by simp))
    unfold cmo at ih ⊢
    simp only [List.zip_cons_cons, List.all_cons, List.map_cons, Bool.and_eq_true, q, ih, decide_eq_true_eq]
    by_cases h1 : okp (a, b) = true <;> by_cases h2 : (f.zip g).all okp = true <;> simp [h1, h2]
def sw (z : Nat × Nat) : Nat × Nat := (z.2, z.1)
theorem zip_sw : ∀ f g : List Nat, g.zip f = (f.zip g).map sw
  | [], [] => rfl
  | [], _ :: _ => rfl
  | _ :: _, [] => rfl
  | a :: f, b :: g => by simp [zip_sw f g, sw]
theorem jo_sw (f g : List Nat) : jo g f = jo f g := by
  have e1 : (g.zip f).all okp = (f.zip g).all okp := by
    rw [zip_sw, List.all_map]
    congr 1
    funext z
    show okp (z.2, z.1) = okp z
    unfold okp
    rw [Bool.eq_iff_iff]
    simp only [Bool.or_eq_true, beq_iff_eq]
    omega
  have e2 : nd (g.zip f) = nd (f.zip g) := by
    unfold nd
    rw [zip_sw, List.filter_map, List.length_map]
    congr 2
    funext z
    show dfp (z.2, z.1) = dfp z
    unfold dfp
    rw [Bool.eq_iff_iff]
    simp only [Bool.not_eq_true', decide_eq_false_iff_not]
    omega
  have e3 : hulU g f = hulU f g := by
    unfold hulU
    rw [zip_sw, List.map_map]
    refine List.map_congr_left fun z _ => ?_
    show hup (z.2, z.1) = hup z
    unfold hup
    by_cases h : z.1 = z.2
    · rw [if_pos h.symm, if_pos h]; exact h.symm
    · rw [if_neg (fun q => h q.symm), if_neg h]
  unfold jo
  rw [e1, e2, e3]
theorem Mt_split {suf : List Nat} : ∀ {pre c : List Nat}, Mt (pre ++ 42 :: suf) c ↔ Mt (pre ++ 48 :: suf) c ∨ Mt (pre ++ 49 :: suf) c
  | [], [] => by simp [Mt]
  | [], x :: c => by
    simp only [List.nil_append, Mt, ch]
    simp
    constructor
    · rintro ⟨h | h, k⟩
      · exact .inl ⟨h, k⟩
      · exact .inr ⟨h, k⟩
    · rintro (⟨h, k⟩ | ⟨h, k⟩)
      · exact ⟨.inl h, k⟩
      · exact ⟨.inr h, k⟩
  | s :: pre, [] => by simp [Mt]
  | s :: pre, x :: c => by
    have ih := Mt_split (suf := suf) (pre := pre) (c := c)
    simp only [List.cons_append, Mt, ih]
    constructor
    · rintro ⟨h, k | k⟩
      · exact .inl ⟨h, k⟩
      · exact .inr ⟨h, k⟩
    · rintro (⟨h, k⟩ | ⟨h, k⟩)
      · exact ⟨h, .inl k⟩
      · exact ⟨h, .inr k⟩
theorem jo_perm {f g h : List Nat} (hl : f.length = g.length) (hf : Signs f) (hg : Signs g) (e : jo f g = some h) : (cor f ++ cor g).Perm (cor h) ∧ Signs h ∧ h.length = f.length ∧ (f.zip g).all okp = false := by
  unfold jo at e
  split at e
  · rename_i q
    cases e
    obtain ⟨pre, x, y, suf, hz, hxy, hp, hs⟩ := one_diff q.2
    have ef : f = pre.map (·.1) ++ x :: suf.map (·.1) := by rw [← zip_fst hl, hz]; simp
    have eg : g = pre.map (·.2) ++ y :: suf.map (·.2) := by rw [← zip_snd hl, hz]; simp
    have sp : pre.map (·.2) = pre.map (·.1) := List.map_congr_left fun z hz => (hp z hz).symm
    have ss : suf.map (·.2) = suf.map (·.1) := List.map_congr_left fun z hz => (hs z hz).symm
    rw [sp, ss] at eg
    have eh : hulU f g = pre.map (·.1) ++ 42 :: suf.map (·.1) := by
      unfold hulU
      rw [hz, List.map_append, List.map_cons, hup_eqs hp, hup_eqs hs]
      simp [hup, hxy]
    have ok : okp (x, y) = false := by
      have k := q.1
      rw [hz, List.all_append, List.all_cons, ok_eqs hp, ok_eqs hs] at k
      simpa using k
    have sx := hf x (by rw [ef]; simp)
    have sy := hg y (by rw [eg]; simp)
    have xy : (x = 48 ∧ y = 49) ∨ (x = 49 ∧ y = 48) := by
      unfold okp at ok
      simp only [Bool.or_eq_false_iff, beq_eq_false_iff_ne] at ok
      omega
    have dis := cm_non hf hg q.1
    refine ⟨(List.perm_ext_iff_of_nodup ?_ (cor_nodup _)).mpr fun c => ?_, ?_, by simp [hulU, hl], q.1⟩
    · refine List.nodup_append.mpr ⟨cor_nodup f, cor_nodup g, fun a ha b hb e => ?_⟩
      subst e
      exact dis a ⟨mem_cor.mp ha, mem_cor.mp hb⟩
    · rw [List.mem_append, mem_cor, mem_cor, mem_cor, eh, Mt_split, ef, eg]
      rcases xy with ⟨rfl, rfl⟩ | ⟨rfl, rfl⟩
      · exact Iff.rfl
      · exact or_comm
    · intro c hc
      rw [eh] at hc
      simp only [List.mem_append, List.mem_cons] at hc
      rcases hc with hc | hc | hc
      · exact hf c (by rw [ef]; simp only [List.mem_append]; exact .inl hc)
      · exact .inr (.inr hc)
      · exact hf c (by rw [ef]; simp only [List.mem_append, List.mem_cons]; exact .inr (.inr hc))
  · cases e
def TwoOk (F : List Sl → RF) : Prop := ∀ f g : List Nat, f.length = g.length → Signs f → Signs g → f.length ≤ 6 → F [.dat (.str (tx f)), .dat (.str (tx g))] = .ok (.bool true) []
theorem o_neO (o : Option (List Nat)) {Q : D → Prop} (k : Q (.bool false)) : WpO (dNe (optD o) (optD o)) Q := by
  cases o with
  | none => exact wpo (by rfl) k
  | some h => exact wpo (by show dNe (.str (tx h)) (.str (tx h)) = _; rw [dNe_str]; simp) k
theorem o_eqO {o : Option (List Nat)} {g : List Nat} {Q : D → Prop} (k : Q (.bool (decide (o = some g)))) : WpO (dEq (optD o) (.str (tx g))) Q := by
  cases o with
  | none => exact wpo (by rfl) k
  | some h => exact o_eqS (by simpa using k)
theorem twoOk : TwoOk (fun a => (run__law_two_right a).nox) := fun f g hl hf hg h6 => by
  refine nox_ok (b_run (Q := fun r => r = .ok (.bool true) []) ?_)
  show Wp (body__law_two_right _ _ _ _ [.dat (.str (tx f)), .dat (.str (tx g)), .un, .un, .un, .un, .un, .un]) _ _
  have hC := corOk
  have hM := comOk
  have hH := hasOk
  have hJ := joOk
  generalize (fun a => (run_corners_of a).nox) = FC at hC ⊢
  generalize (fun a => (run_common_face a).nox) = FM at hM ⊢
  generalize (fun a => (run_has_all a).nox) = FH at hH ⊢
  generalize (fun a => (run_joined a).nox) = FJ at hJ ⊢
  have c1 := cor_le h6
  have c2 := cor_le (f := g) (by omega)
  have hc := hC f hf h6
  have hcg := hC g hg (by omega)
  have hm := hM f g h6
  have hh := hH f g h6
  have hj := hJ f g hl h6
  have hj2 := hJ g f hl.symm (by omega)
  rw [jo_sw] at hj2
  unfold body__law_two_right
  repeat ac_rfl
  refine c_ok hc ?_
  repeat ac_rfl
  refine c_ok hcg ?_
  repeat ac_rfl
  refine c_ok hm ?_
  repeat ac_rfl
  show _ ∧ Wp (lcGo _ _ _ _ ((cor f).map fun l => .str (tx l)) _ _) _ _
  refine ⟨lt_line (by simp; omega), l_pure (fun l => decide (l ∈ cor g)) (fun l => .str (tx l)) (fun l _ => ⟨_, rfl, ?_⟩) ?_⟩
  · repeat ac_rfl
    refine wpo (dIn_txs l (cor g)) ?_
    repeat ac_rfl
    refine ⟨fun _ => ?_, fun _ => rfl⟩
    repeat ac_rfl
  · rw [show [] ++ ((cor f).filter fun l => decide (l ∈ cor g)).map (fun l => PyData.str (tx l)) = txs (both f g) from rfl]
    have gb : GoodS (both f g) := fun l hlm => good_cor hf l ((List.mem_filter.mp hlm).1)
    have last : ∀ x7 : Sl, Wp (((sSeq (sIf (tOf (eOp dNe (eFn 2 0 FH (rCons (eVar 0) (rCons (eVar 1) rNil))) (eOp dEq (eVar 4) (eVar 1)))) (sRet (eC (.bool false))) sNx)
        (sSeq (sSet 6 (eFn 2 0 FJ (rCons (eVar 0) (rCons (eVar 1) rNil))))
        (sSeq (sIf (tOf (eOp dNe (eVar 6) (eFn 2 0 FJ (rCons (eVar 1) (rCons (eVar 0) rNil))))) (sRet (eC (.bool false))) sNx)
        (sRet (eOr (eIsN (eVar 6)) (eAnd (eIsN (eVar 4)) (eOp dEq (eNew (nCall sortDA (aCons (eOp dAdd (eVar 2) (eVar 3)) aNil))) (eNew (nCall lDA (aCons (eFn 1 0 FC (rCons (eVar 6) rNil)) aNil))))))))))  : XS)
        ([.dat (.str (tx f)), .dat (.str (tx g)), .dat (.tuple (txs (cor f))), .dat (.tuple (txs (cor g))), .dat (optD (cmo f g)), .dat (.list (txs (both f g))), .un, x7] : En)) (fin 0 fun r => r = .ok (.bool true) []) NX := fun x7 => by
      repeat ac_rfl
      refine c_ok hh ?_
      repeat ac_rfl
      refine o_eqO ?_
      have eb : (f.zip g).all hap = decide (cmo f g = some g) := by rw [Bool.eq_iff_iff, decide_eq_true_iff]; exact has_cm hl hf hg
      rw [eb]
      refine wpo (d := .bool false) (by rw [dNe_bool]; simp) ?_
      repeat ac_rfl
      refine c_ok hj ?_
      repeat ac_rfl
      refine c_ok hj2 ?_
      refine o_neO (jo f g) ?_
      repeat ac_rfl
      cases e : jo f g with
      | none =>
        repeat ac_rfl
        refine ⟨fun _ => fin_rt rfl, fun z => by cases z⟩
      | some h =>
        obtain ⟨p1, p2, p3, p4⟩ := jo_perm hl hf hg e
        have e0 : cmo f g = none := by unfold cmo; rw [if_neg (by rw [p4]; decide)]
        rw [e0]
        have c3 := cor_le (f := h) (by omega)
        have ne : txs (cor f) ≠ [] := fun q => cor_ne f (by simpa [txs] using q)
        repeat ac_rfl
        refine ite_f (by rfl) ?_
        repeat ac_rfl
        refine ite_t (by rfl) ?_
        repeat ac_rfl
        refine wpo (d := .tuple (txs (cor f ++ cor g))) (by rw [dAdd_tuple, if_pos ⟨ne, by rw [txs_len, txs_len]; exact le_line (by omega)⟩]; simp [txs]) ?_
        repeat ac_rfl
        refine o_sortT (by rw [List.length_append]; omega) p1 (cor_sorted p2) ?_
        repeat ac_rfl
        refine c_ok (hC h p2 (by omega)) ?_
        repeat ac_rfl
        refine wpo (d := txs (cor h)) rfl ?_
        repeat ac_rfl
        refine o_eqLT (good_cor p2) (good_cor p2) ?_
        rw [show decide (cor h = cor h) = true by simp]
        exact fin_rt rfl
    refine thn_nx ?_
    refine s_cut (I := fun e => e = [.dat (.str (tx f)), .dat (.str (tx g)), .dat (.tuple (txs (cor f))), .dat (.tuple (txs (cor g))), .dat (optD (cmo f g)), .dat (.list (txs (both f g))), .un, .un]) ?_ fun e he => ?_
    · cases h : (f.zip g).all okp with
      | false =>
        have e0 : cmo f g = none := by unfold cmo; rw [if_neg (by rw [h]; decide)]
        have eb := both_none hf hg h
        rw [e0, eb]
        repeat ac_rfl
        refine ite_t (by rfl) ?_
        repeat ac_rfl
        refine o_neLT (A := []) (B := []) (fun l hl => by simp at hl) (fun l hl => by simp at hl) ?_
        repeat ac_rfl
        refine ite_f (by simp) ?_
        repeat ac_rfl
        refine ite_f (by rfl) ?_
        repeat ac_rfl
      | true =>
        have e0 : cmo f g = some ((f.zip g).map pkp) := by unfold cmo; rw [if_pos h]
        have eb := both_some hl hf hg h
        have hs := signs_cm hf hg
        rw [e0, eb]
        repeat ac_rfl
        refine ite_f (by rfl) ?_
        repeat ac_rfl
        refine ite_t (by rfl) ?_
        repeat ac_rfl
        refine c_ok (hC _ hs (by simp [hl]; omega)) ?_
        repeat ac_rfl
        refine wpo (d := txs (cor ((f.zip g).map pkp))) rfl ?_
        repeat ac_rfl
        refine o_neLT (good_cor hs) (good_cor hs) ?_
        repeat ac_rfl
        refine ite_f (by simp) ?_
        repeat ac_rfl
    subst he
    refine s_cut (I := fun e => e = [.dat (.str (tx f)), .dat (.str (tx g)), .dat (.tuple (txs (cor f))), .dat (.tuple (txs (cor g))), .dat (optD (cmo f g)), .dat (.list (txs (both f g))), .un, .un]) ?_ fun e he => ?_
    · cases h : (f.zip g).all okp with
      | false =>
        have e0 : cmo f g = none := by unfold cmo; rw [if_neg (by rw [h]; decide)]
        rw [e0]
        repeat ac_rfl
        refine ite_f (by rfl) ?_
        repeat ac_rfl
      | true =>
        have e0 : cmo f g = some ((f.zip g).map pkp) := by unfold cmo; rw [if_pos h]
        have hs := signs_cm hf hg
        have lh : ((f.zip g).map pkp).length = f.length := by simp [hl]
        have a1 := hH f ((f.zip g).map pkp) h6
        rw [(has_iff lh.symm hf hs).mpr fun c hc => ((cm_mem hl hf hg h c).mpr hc).1] at a1
        have a2 := hH g ((f.zip g).map pkp) (by omega)
        rw [(has_iff (by omega) hg hs).mpr fun c hc => ((cm_mem hl hf hg h c).mpr hc).2] at a2
        rw [e0]
        repeat ac_rfl
        refine ite_t (by rfl) ?_
        repeat ac_rfl
        refine c_ok a1 ?_
        repeat ac_rfl
        refine c_ok a2 ?_
        repeat ac_rfl
    subst he
    exact last _
end G
set_option Elab.async false
set_option linter.all false
set_option maxRecDepth 100000
namespace G
open PySem PySem.Spec PyProof.Rows L2
local macro_rules | `(tactic| ac_rfl) => `(tactic| first
  | (with_reducible first
    | refine s_seq ?_ | refine thn_nx ?_ | refine s_set ?_ | refine w_c ?_ | refine w_op ?_ | refine a_cons ?_ | refine a_nil ?_
    | refine w_call ?_ | refine t_of ?_ | refine s_if ?_ | refine s_nx ?_ | refine ite_T ?_ | refine ite_F ?_ | refine ite_NT ?_ | refine ite_NF ?_ | refine r_cons ?_ | refine r_nil ?_ | refine w_fn ?_ | refine n_fn ?_
    | refine s_own ?_ | refine s_for ?_ | refine i_of ?_ | refine i_args ?_ | refine w_new ?_ | refine n_lc ?_ | refine n_lc2 ?_ | refine n_call ?_
    | refine s_ret ?_ | refine s_retW ?_ | refine s_expr ?_ | refine s_asg ?_ | refine w_if ?_ | refine w_isN ?_ | refine w_notN ?_ | refine w_meth ?_
    | refine w_and ?_ | refine w_or ?_ | refine w_not ?_ | refine t_and ?_ | refine t_or ?_ | refine t_not ?_ | refine t_yes ?_ | refine w_isi ?_ | refine w_sl ?_
    | refine w_oN ?_ | refine w_oS ?_ | refine n_lst ?_ | refine w_neg ?_ | refine w_rev ?_ | refine n_rg1 ?_ | refine s_setIx ?_ | refine thn_rt ?_ | refine thn_rn ?_ | refine thn_bk ?_ | refine thn_ct ?_
    | refine o_addI ?_ | refine o_subI ?_ | refine o_ltI ?_ | refine o_leI ?_ | refine o_gtI ?_ | refine o_geI ?_ | refine o_eqI ?_ | refine o_neI ?_ | refine o_eqS ?_ | refine o_neS ?_
    | refine o_lenL ?_ | refine o_lenT ?_ | refine o_tupL ?_ | refine o_tupT ?_ | refine o_intI ?_ | refine o_intB ?_ | refine o_intAI ?_ | refine o_intAB ?_ | refine o_maxI ?_ | refine o_minI ?_ | refine o_absI ?_ | refine o_iL ?_ | refine o_iT ?_ | refine o_iS ?_ | refine o_lL ?_ | refine o_lT ?_ | refine w_oN ?_
    | refine o_andI ?_ | refine o_orI ?_ | refine o_xorI ?_ | refine s_bk ?_ | refine s_ct ?_ | refine s_retN ?_ | refine nxI_nx ?_ | refine o_gTup0 ?_ | refine o_gLst0 ?_)
  | ((with_reducible apply w_var); focus rfl)
  | ((with_reducible apply w_varO); focus rfl)
  | ((with_reducible apply w_mut); focus rfl)
  | ((with_reducible apply w_ixOwn); focus rfl)
  | ((with_reducible apply w_lenOwn); focus rfl)
  | ((with_reducible apply r_io); focus rfl)
  | ((with_reducible apply r_scr); focus rfl)
  | ((with_reducible apply n_take); focus rfl)
  | ((with_reducible apply w_lenScr); focus rfl)
  | ((with_reducible apply i_scr); focus rfl)
  | ((with_reducible apply n_slScr); focus rfl)
  | ((with_reducible refine o_gTup ?_ ?_); focus (show _ ≤ _; simp only [List.length_cons, List.length_nil]; decide))
  | ((with_reducible refine o_gLst ?_ ?_); focus (show _ ≤ _; simp only [List.length_cons, List.length_nil]; decide))
  | ((with_reducible refine And.intro ?_ ?_); focus (show List.length _ ≤ sizeLine; simp only [List.length_cons, List.length_nil]; decide))
  | ((with_reducible refine And.intro ?_ ?_); focus (with_reducible rfl))
  | (with_reducible refine And.intro (show isStr _ = true from rfl) ?_)
  | ((with_reducible apply o_ixC); focus rfl)
  | (refine ⟨_, rfl, ?_⟩)
  | (refine ⟨_, _, rfl, ?_⟩)
  | (refine ⟨⟨_, _, rfl⟩, ?_⟩)
  | (refine ⟨_, _, _, _, rfl, rfl, rfl, ?_⟩))
theorem erase_map (g : Nat → D) : ∀ (l : List Nat) (k : Nat), (l.map g).eraseIdx k = (l.eraseIdx k).map g
  | [], _ => by simp
  | _ :: _, 0 => rfl
  | a :: l, k + 1 => by simp [erase_map g l k]
theorem erase_perm : ∀ (l : List Nat) (k : Nat) (h : k < l.length), (l[k] :: l.eraseIdx k).Perm l
  | [], _, h => by simp at h
  | _ :: _, 0, _ => .refl _
  | a :: l, k + 1, h => by
    have hk : k < l.length := by simpa using h
    have ih := erase_perm l k hk
    simp only [List.getElem_cons_succ, List.eraseIdx_cons_succ]
    exact (List.Perm.swap a l[k] _).trans (ih.cons a)
theorem done_range {n a : Nat} {done rest : List Nat} (h : List.range n = done ++ a :: rest) : a = done.length ∧ a < n := by
  have h1 : (List.range n)[done.length]? = some a := by rw [h]; simp
  have h2 : done.length < n := by
    have := congrArg List.length h
    simp at this; omega
  rw [List.getElem?_range h2] at h1
  cases h1
  exact ⟨rfl, h2⟩
theorem DeckOk.up {b b' : Nat} {ds : List D} (h : DeckOk b ds) (hb : b ≤ b') : DeckOk b' ds := by
  obtain ⟨L, i, v, c, t, k1, k2, k3, k4, k5⟩ := h
  exact ⟨L, i, v, c, t, k1, k2, k3, k4, by omega⟩
section
variable {F : List Sl → RF} {j b : Nat} {ds : List D} {e : En} {t : Option Nat} {Q : D → En → Prop} {X : Xn → En → Prop}
theorem c_next (hF : NextOk F) {m : Int} (hd : DeckOk b ds) (hb : b < 2 ^ 40) (h1 : 1 ≤ m) (h2 : m < 2 ^ 29)
    (k : ∀ (r : Nat) ds', (r : Int) < m → DeckOk (b + 1) ds' → Q (.int r) (e.set j (.own t (.lst ds')))) (h0 : e[j]? = some (.own t (.lst ds)) := by rfl) : Wp (Cl 2 1 F [.io j, .d (.int m)] e) Q X := by
  obtain ⟨r, ds', h, h3, h4, h5⟩ := hF b ds m hd hb h1 h2
  have er : r = ((r.toNat : Nat) : Int) := by omega
  rw [er] at h
  exact c_io h (k r.toNat ds' (by omega) h5) h0 rfl rfl (by unfold resolve; rw [h0]; rfl)
theorem c_bits (hF : BitsOk F) (hd : DeckOk b ds) (hb : b < 2 ^ 39) (k : ∀ (n : Nat) ds', 1 ≤ n → n ≤ 6 → DeckOk (b + 3) ds' → Q (.int n) (e.set j (.own t (.lst ds')))) (h0 : e[j]? = some (.own t (.lst ds)) := by rfl) : Wp (Cl 1 1 F [.io j] e) Q X := by
  obtain ⟨n, ds', h, h3, h4, h5⟩ := hF b ds hd hb
  exact c_io h (k n ds' h3 h4 h5) h0 rfl rfl (by unfold resolve; rw [h0]; rfl)
theorem c_face (hF : FaceOk F) {n : Nat} (hd : DeckOk b ds) (hb : b < 2 ^ 38) (h1 : 1 ≤ n) (h6 : n ≤ 6) (k : ∀ (f : List Nat) ds', f.length = n → Signs f → DeckOk (b + 7) ds' → Q (.str (tx f)) (e.set j (.own t (.lst ds')))) (h0 : e[j]? = some (.own t (.lst ds)) := by rfl) : Wp (Cl 2 1 F [.io j, .d (.int (n : Nat))] e) Q X := by
  obtain ⟨f, ds', h, h3, h4, h5⟩ := hF b ds n hd hb h1 h6
  exact c_io h (k f ds' h3 h4 h5) h0 rfl rfl (by unfold resolve; rw [h0]; rfl)
end
theorem sign3 {r : Nat} (h : (r : Int) < 3) : ∃ s, ([48, 49, 42] : List Nat)[r]? = some s ∧ (s = 48 ∨ s = 49 ∨ s = 42) := by
  have : r = 0 ∨ r = 1 ∨ r = 2 := by omega
  rcases this with rfl | rfl | rfl
  · exact ⟨48, rfl, .inl rfl⟩
  · exact ⟨49, rfl, .inr (.inl rfl)⟩
  · exact ⟨42, rfl, .inr (.inr rfl)⟩

theorem w_orT {p q : XE} {e : En} {X : Xn → En → Prop} {Q : D → En → Prop} (h : Wp (p e) (fun d e1 => ∃ b, dTru d = some b ∧ (b = true → Q d e1) ∧ (b = false → Wp (q e1) Q X)) X) : Wp (eOrT p q e) Q X := by
  refine wp_bind (wp_mid h fun d e1 ⟨b, hd, k1, k2⟩ => ?_)
  rw [hd]
  cases b
  · exact k2 rfl
  · exact wp_eq rfl (k1 rfl)
theorem opt_fit {a b : Option (List Nat)} (ha : ∀ h, a = some h → Signs h) (hb : ∀ h, b = some h → Signs h) : fit (.list [optD a, optD b]) ∧ nb (.list [optD a, optD b]) = true := by
  have lay : ∀ {h : List Nat}, Signs h → PyData.canLay0 (.str (tx h)) = true := fun hs => lay_tx fun c hc => by rcases hs c hc with rfl | rfl | rfl <;> decide
  cases a with
  | none =>
    cases b with
    | none => exact ⟨⟨by decide +kernel, by decide +kernel⟩, by decide +kernel⟩
    | some h => exact ⟨⟨by simp [PyData.canLay0, PyData.canLayAll0, optD, lay (hb h rfl)], by simp [PyData.depth, PyData.depthAll, optD]⟩, by simp [nb, nbs, optD]⟩
  | some g =>
    cases b with
    | none => exact ⟨⟨by simp [PyData.canLay0, PyData.canLayAll0, optD, lay (ha g rfl)], by simp [PyData.depth, PyData.depthAll, optD]⟩, by simp [nb, nbs, optD]⟩
    | some h => exact ⟨⟨by simp [PyData.canLay0, PyData.canLayAll0, optD, lay (ha g rfl), lay (hb h rfl)], by simp [PyData.depth, PyData.depthAll, optD]⟩, by simp [nb, nbs, optD]⟩
theorem o_neOO {a b : Option (List Nat)} {Q : D → Prop} (ha : ∀ h, a = some h → Signs h) (hb : ∀ h, b = some h → Signs h) (q : Q (.bool false)) : WpO (dNe (.list [optD a, optD b]) (.list [optD a, optD b])) Q := by
  obtain ⟨f, n⟩ := opt_fit ha hb
  exact wpo (by rw [dNe_seq rfl f f, (eqv_iff _ _ n n).mpr rfl]; rfl) q
theorem cm_good {f g h : List Nat} (hl : f.length = g.length) (hf : Signs f) (hg : Signs g) (e : cmo f g = some h) : Signs h ∧ h.length = f.length := by
  unfold cmo at e
  split at e
  · cases e; exact ⟨signs_cm hf hg, by simp [hl]⟩
  · cases e
theorem jo_good {f g h : List Nat} (hl : f.length = g.length) (hf : Signs f) (hg : Signs g) (e : jo f g = some h) : Signs h ∧ h.length = f.length := by
  obtain ⟨_, a, b, _⟩ := jo_perm hl hf hg e
  exact ⟨a, b⟩
theorem law_true (ns : List Int) (h : ns.length ≤ 63) : run_law [.scr (ns.map .int)] = .ok (.bool true) [] := by
  refine b_run (Q := fun q => q = .ok (.bool true) []) ?_
  show Wp (body_law _ _ _ _ _ _ _ _ _ _ _ _ [.scr (ns.map .int), .un, .un, .un, .un, .un, .un, .un, .un, .un, .un, .un, .un, .un, .un, .un, .un]) _ _
  obtain ⟨ds0, hdk, hd0⟩ := run_deck ns h
  have hD : (fun a => (run__law_deck a).nox) [.scr (ns.map .int)] = .new ds0 [] := nox_new hdk
  have hN := nextOk
  have hB := bitsOk
  have hFa := faceOk
  have hO := othOk
  have hFr := frOk
  have hTw := twoOk
  have hHf := halfOk
  have hM := manyOk
  have hC := comOk
  have hH := hasOk
  have hJ := joOk
  generalize (fun a => (run__law_deck a).nox) = FD at hD ⊢
  generalize (fun a => (run__law_next a).nox) = FN at hN ⊢
  generalize (fun a => (run__law_bits a).nox) = FB at hB ⊢
  generalize (fun a => (run__law_face a).nox) = FF at hFa ⊢
  generalize (fun a => (run__law_otherwise a).nox) = FO at hO ⊢
  generalize (fun a => (run__law_face_right a).nox) = FFr at hFr ⊢
  generalize (fun a => (run__law_two_right a).nox) = FTw at hTw ⊢
  generalize (fun a => (run__law_halves_right a).nox) = FHf at hHf ⊢
  generalize (fun a => (run_how_many a).nox) = FM at hM ⊢
  generalize (fun a => (run_common_face a).nox) = FC at hC ⊢
  generalize (fun a => (run_has_all a).nox) = FH at hH ⊢
  generalize (fun a => (run_joined a).nox) = FJ at hJ ⊢
  unfold body_law
  rw [s_01s]
  repeat ac_rfl
  refine c_newN hD ?_
  repeat ac_rfl
  refine wpo (show rg1 [.int ((6 : Nat) : Int)] = _ from rg1_map (by omega)) ?_
  refine f_go (fun done e => ∃ (ds : List D) (x2 x3 x4 x5 x6 x7 x8 x9 x10 x11 x12 x13 x14 : Sl), DeckOk (100 * done.length) ds ∧ e = [.scr (ns.map .int), .own none (.lst ds), x2, x3, x4, x5, x6, x7, x8, x9, x10, x11, x12, x13, x14, .un, .un]) ⟨ds0, .un, .un, .un, .un, .un, .un, .un, .un, .un, .un, .un, .un, .un, hd0, rfl⟩ ?_ ?_
  · rintro done turn rest e ha ⟨ds, x2, x3, x4, x5, x6, x7, x8, x9, x10, x11, x12, x13, x14, hd, rfl⟩
    refine ⟨_, rfl, ?_⟩
    obtain ⟨et, lt⟩ := done_range ha
    have hb0 : 100 * done.length ≤ 600 := by omega
    have el : (done ++ [turn]).length = done.length + 1 := by simp
    rw [el]
    generalize hbb : 100 * done.length = b0 at hd hb0
    repeat ac_rfl
    refine c_bits hB hd (by omega) fun n ds1 h1 h6 hd1 => ?_
    repeat ac_rfl
    refine c_face hFa hd1 (by omega) h1 h6 fun f ds2 hfl hfs hd2 => ?_
    repeat ac_rfl
    refine c_face hFa hd2 (by omega) h1 h6 fun g ds3 hgl hgs hd3 => ?_
    repeat ac_rfl
    refine ⟨by omega, ?_⟩
    rw [show rgD 0 (n : Int) = nsD (List.range n) from rgD_nat' n]
    repeat ac_rfl
    refine wpo (rg1_map (by omega)) ?_
    refine ⟨lt_line (by simp; omega), l_go (fun dn e acc => ∃ (ds' : List D) (lf od : List Nat), DeckOk (b0 + 17 + dn.length) ds' ∧ (od ++ lf).Perm (List.range n) ∧ od.length = dn.length ∧ acc = nsD od ∧
      e = [.scr (ns.map .int), .own none (.lst ds'), .dat (.int (turn : Nat)), .dat (.int (n : Nat)), .dat (.str (tx f)), .dat (.str (tx g)), .own none (.lst (nsD lf)), x7, x8, x9, x10, x11, x12, x13, x14, .un, .un]) ⟨ds3, List.range n, [], hd3, .refl _, rfl, rfl, rfl⟩ ?_ ?_⟩
    · rintro dn k rs e acc ha2 ⟨ds4, lf, od, hd4, hp, hol, rfl, rfl⟩
      obtain ⟨ek, lk⟩ := done_range ha2
      have ll : od.length + lf.length = n := by have := hp.length_eq; simpa using this
      refine ⟨_, rfl, ?_⟩
      repeat ac_rfl
      refine c_next hN hd4 (by omega) (by simp [nsD]; omega) (by simp [nsD]; omega) fun r ds5 hr hd5 => ?_
      have hr' : r < lf.length := by simp [nsD] at hr; omega
      repeat ac_rfl
      have e1 : (nsD lf).eraseIdx r = nsD (lf.eraseIdx r) := by unfold nsD; rw [erase_map]
      have hy : (nsD lf)[r]? = some (.int (lf[r] : Nat)) := by simp [nsD, hr']
      refine wpo (mPop_of (k := r) ⟨by omega, by omega⟩ (ixN_nat (by simp [nsD]; omega)) hy) ?_
      rw [e1]
      refine ⟨ds5, lf.eraseIdx r, od ++ [lf[r]], hd5.up (by simp; omega), ?_, by simp [hol], by simp [nsD], rfl⟩
      rw [List.append_assoc]
      exact ((erase_perm lf r hr').append_left od).trans hp
    rintro e acc ⟨ds4, lf, od, hd4, hp, hol, rfl, rfl⟩
    rw [List.length_range] at hd4 hol
    have lf0 : lf = [] := by
      have := hp.length_eq
      simp [hol] at this
      exact this
    subst lf0
    rw [List.append_nil] at hp
    repeat ac_rfl
    refine wpo (rg1_map (by omega)) ?_
    refine ⟨lt_line (by simp; omega), l_go (fun dn e acc => ∃ (ds' : List D) (tu : List Nat), DeckOk (b0 + 30 + dn.length) ds' ∧ (∀ t ∈ tu, t < 2) ∧ tu.length = dn.length ∧ acc = nsD tu ∧ e = [.scr (ns.map .int), .own none (.lst ds'), .dat (.int (turn : Nat)), .dat (.int (n : Nat)), .dat (.str (tx f)), .dat (.str (tx g)), .own none (.lst (nsD [])), .dat (.list (nsD od)), x8, x9, x10, x11, x12, x13, x14, .un, .un]) ⟨ds4, [], hd4.up (by omega), fun t ht => by simp at ht, rfl, rfl, rfl⟩ ?_ ?_⟩
    · rintro dn k rs e acc ha2 ⟨ds5, tu, hd5, htu, htl, rfl, rfl⟩
      obtain ⟨ek, lk⟩ := done_range ha2
      refine ⟨_, rfl, ?_⟩
      repeat ac_rfl
      refine c_next hN hd5 (by omega) (by decide) (by decide) fun r ds6 hr hd6 => ?_
      refine ⟨ds6, tu ++ [r], hd6.up (by simp; omega), fun t ht => ?_, by simp [htl], by simp [nsD], rfl⟩
      rcases List.mem_append.mp ht with q | q
      · exact htu t q
      · have q : t = r := by simpa using q
        omega
    rintro e acc ⟨ds5, tu, hd5, htu, htl, rfl, rfl⟩
    rw [List.length_range] at hd5 htl
    obtain ⟨zs, z1, z2⟩ : ∃ zs : List (Nat × Nat), zs.map (·.1) = od ∧ zs.map (·.2) = tu := ⟨od.zip tu, List.map_fst_zip (by omega), List.map_snd_zip (by omega)⟩
    have O : Ord n zs := ⟨by rw [z1]; exact hp⟩
    have ht2 : ∀ z ∈ zs, z.2 < 2 := fun z hz => htu z.2 (by rw [← z2]; exact List.mem_map.mpr ⟨z, hz, rfl⟩)
    rw [← z1, ← z2]
    have Of : Ord f.length zs := by rw [hfl]; exact O
    repeat ac_rfl
    refine c_ok (hFr f hfs (by omega) (by omega)) ?_
    repeat ac_rfl
    refine c_next hN hd5 (by omega) (by omega) (by omega) fun p0 ds6 hp0 hd6 => ?_
    repeat ac_rfl
    refine c_ok (hHf f p0 hfs (by omega) (by omega)) ?_
    repeat ac_rfl
    refine c_next hN hd6 (by omega) (by omega) (by omega) fun at_ ds7 hat hd7 => ?_
    repeat ac_rfl
    refine o_to (by omega) (by omega) ?_
    repeat ac_rfl
    refine c_next hN hd7 (by omega) (by decide) (by decide) fun r3 ds8 hr3 hd8 => ?_
    obtain ⟨s, hs3, hss⟩ := sign3 hr3
    refine o_ixSs hs3 (by decide) ?_
    refine o_addS (by simp; omega) ?_
    repeat ac_rfl
    refine o_from (k := at_ + 1) (by omega) ?_
    refine o_addS (by simp; omega) ?_
    have nel : (at1 f at_ s).length = n := by rw [at1_len (by omega), hfl]
    have nes : Signs (at1 f at_ s) := fun y hy => by
      simp only [at1, List.mem_append, List.mem_singleton] at hy
      rcases hy with (q | q) | q
      · exact hfs y (List.mem_of_mem_take q)
      · rw [q]; exact hss
      · exact hfs y (List.mem_of_mem_drop q)
    repeat ac_rfl
    rw [show [PyData.str (tx g), PyData.str (tx (f.take at_ ++ [s] ++ f.drop (at_ + 1)))] = [g, at1 f at_ s].map fun l => PyData.str (tx l) from rfl]
    refine f_go (fun dn e => ∃ y11 y12 y13 y14, e = [.scr (ns.map .int), .own none (.lst ds8), .dat (.int (turn : Nat)), .dat (.int (n : Nat)), .dat (.str (tx f)), .dat (.str (tx g)), .own none (.lst (nsD [])), .dat (.list (nsD (zs.map (·.1)))), .dat (.list (nsD (zs.map (·.2)))), .dat (.int (at_ : Nat)), .dat (.str (tx (at1 f at_ s))), y11, y12, y13, y14, .un, .un]) ⟨x11, x12, x13, x14, rfl⟩ ?_ ?_
    · rintro dn m rs e ha2 ⟨y11, y12, y13, y14, rfl⟩
      refine ⟨_, rfl, ?_⟩
      have hm : m = g ∨ m = at1 f at_ s := by
        have : m ∈ [g, at1 f at_ s] := by rw [ha2]; simp
        simpa using this
      have hml : f.length = m.length := by rcases hm with rfl | rfl <;> omega
      have hms : Signs m := by rcases hm with rfl | rfl <;> assumption
      have h66 : f.length ≤ 6 := by omega
      have o1 := hO f zs hfs h66 Of ht2
      have o2 := hO m zs hms (by omega) (by rw [← hml]; exact Of) ht2
      have s1 := signs_ot Of hfs
      have s2 := signs_ot (f := m) (zs := zs) (by rw [← hml]; exact Of) hms
      have l1 := len_ot Of
      have l2 := len_ot (f := m) (zs := zs) (by rw [← hml]; exact Of)
      have q1 := hC (ot f zs) (ot m zs) (by omega)
      rw [cmo_ot hml Of hfs hms] at q1
      have q2 := hJ (ot f zs) (ot m zs) (by omega) (by omega)
      rw [jo_ot hml Of hfs hms] at q2
      have q3 := hH (ot f zs) (ot m zs) (by omega)
      rw [has_ot hml Of hfs hms] at q3
      have q4 := hM (ot f zs) (by omega)
      rw [count_ot Of hfs] at q4
      have gd : ∀ o ∈ [cmo f m, jo f m], ∀ h, o = some h → Signs h ∧ h.length = f.length := fun o ho h e => by
        have ho : o = cmo f m ∨ o = jo f m := by simpa using ho
        rcases ho with rfl | rfl
        · exact cm_good hml hfs hms e
        · exact jo_good hml hfs hms e
      repeat ac_rfl
      refine c_ok (hTw f m hml hfs hms h66) ?_
      repeat ac_rfl
      refine c_ok (hC f m h66) ?_
      repeat ac_rfl
      refine c_ok (hJ f m hml h66) ?_
      repeat ac_rfl
      rw [show [optD (cmo f m), optD (jo f m)] = [cmo f m, jo f m].map optD from rfl]
      refine ⟨lt_line (by simp), l_map (fun o => optD (o.map fun h => ot h zs)) (fun o ho => ⟨_, rfl, ?_⟩) ?_⟩
      · repeat ac_rfl
        refine w_orT ?_
        repeat ac_rfl
        cases o with
        | none =>
          refine ⟨false, rfl, fun z => (by cases z), fun _ => ?_⟩
          repeat ac_rfl
          refine c_ok o1 ?_
          repeat ac_rfl
          refine o_ixLs (k := 0) (d := .none) rfl ?_
          exact ⟨rfl, rfl⟩
        | some w =>
          obtain ⟨g1, g2⟩ := gd _ ho w rfl
          have tr : dTru (optD (some w)) = some true := by
            show (if (tx w).length ≤ sizeLine then some ((tx w).length != 0) else none) = _
            rw [tx_len, if_pos (le_line (by omega)), bne_iff_ne.mpr (show w.length ≠ 0 by omega)]
          refine ⟨true, tr, fun _ => ?_, fun z => (by cases z)⟩
          have ow := hO w zs g1 (by omega) (by rw [g2]; exact Of) ht2
          repeat ac_rfl
          refine c_ok ow ?_
          repeat ac_rfl
          refine o_ixLs (k := 1) (d := .str (tx (ot w zs))) rfl ?_
          exact ⟨rfl, rfl⟩
      · rw [show [] ++ [cmo f m, jo f m].map (fun o => optD (o.map fun h => ot h zs)) = [optD ((cmo f m).map fun h => ot h zs), optD ((jo f m).map fun h => ot h zs)] from rfl]
        repeat ac_rfl
        refine c_ok o1 ?_
        repeat ac_rfl
        refine c_ok o2 ?_
        repeat ac_rfl
        refine c_ok q1 ?_
        repeat ac_rfl
        refine c_ok q2 ?_
        repeat ac_rfl
        have sg : ∀ o ∈ [cmo f m, jo f m], ∀ h, (o.map fun h => ot h zs) = some h → Signs h := fun o ho h e => by
          cases o with
          | none => cases e
          | some w =>
            cases e
            obtain ⟨g1, g2⟩ := gd _ ho w rfl
            exact signs_ot (by rw [g2]; exact Of) g1
        refine o_neOO (sg _ (by simp)) (sg _ (by simp)) ?_
        repeat ac_rfl
        refine c_ok q3 ?_
        repeat ac_rfl
        refine c_ok (hH f m h66) ?_
        refine wpo (d := .bool false) (by rw [dNe_bool]; simp) ?_
        repeat ac_rfl
        refine c_ok q4 ?_
        repeat ac_rfl
        refine c_ok (hM f h66) ?_
        repeat ac_rfl
        refine ite_f (by simp) ?_
        repeat ac_rfl
        exact lpk_nx ⟨_, _, _, _, rfl⟩
    · rintro e ⟨y11, y12, y13, y14, rfl⟩
      exact lpk_nx ⟨ds8, _, _, _, _, _, _, _, _, _, _, _, _, _, hd8.up (by omega), rfl⟩
  · rintro e ⟨ds, x2, x3, x4, x5, x6, x7, x8, x9, x10, x11, x12, x13, x14, hd, rfl⟩
    repeat ac_rfl
    exact fin_rt rfl
end G
namespace G
open PySem PySem.Spec PyProof.Rows L2

def spLaw (K : Frag) : Sp := fun vs H Q _ => ∃ (a : Addr) (ns : List Int), vs = [.ref a] ∧ SqL K H a (ns.map V.int) ∧ ns.length ≤ 63 ∧ ∀ H', Q (.bl true) H'
theorem ints_dq {K : Frag} {Z : Hp} : ∀ ns : List Int, DqAll K Z (ns.map V.int) (ns.map PyData.int)
  | [] => .nil
  | n :: ns => .cons (.int n) (ints_dq ns)
theorem law_sp {K : Frag} {mg : Str → Option Value} {vs : List V} {H : Hp} {Q : VK} {E : XK} (h : spLaw K vs H Q E) : spF K mg 1 0 (fun x => (run_law x).nox) vs H Q E := by
  obtain ⟨a, ns, rfl, hS, hl, hq⟩ := h
  refine ⟨rfl, H, [.scr (ns.map .int)], [], rfl, Same.refl H, .cons ⟨a, _, rfl, hS, ints_dq ns⟩ .nil, fun i j t u x y _ h1 => ?_, fun p hp => (nomatch hp), ?_⟩
  · cases i with
    | zero => cases h1
    | succ i => cases h1
  · show (match (run_law [.scr (ns.map .int)]).nox with
      | .ok d outs => ∀ v Z' H', After K [] H H outs Z' H' → Dq K Z' v d → Q v H'
      | .new ds outs => ∀ p vs Z' H', After K [] H H outs Z' H' → H p = none → H' p = some (.lst vs) → Z' p = none → DqAll K Z' vs ds → Q (.ref p) H'
      | .ex x outs => ∀ c dd Z' H', After K [] H H outs Z' H' → XnOk K mg Z' H' x c dd → E c dd H'
      | .bad => False)
    rw [law_true ns hl]
    intro v Z' H' _ hd
    cases hd
    exact hq H'
theorem all_mk {l : PySem.W.OpenLaw} {w : World} {K : Frag} {h : Heap} {mg : Str → Option Value} {fa : Addr} (X : K.In h) (G0 : h.Ns mainGlobals mg) (hfa : mg "law" = some (.ref fa))
    {f0 : Addr} {oc0 kV0 dc0 pm0 cd0 ct0 : Value} {od0 an0 : Option Addr} {sl0 : Array (Option Value)} {f1 : Addr} {oc1 kV1 dc1 pm1 cd1 ct1 : Value} {od1 an1 : Option Addr} {sl1 : Array (Option Value)} {f2 : Addr} {oc2 kV2 dc2 pm2 cd2 ct2 : Value} {od2 an2 : Option Addr} {sl2 : Array (Option Value)} {f3 : Addr} {oc3 kV3 dc3 pm3 cd3 ct3 : Value} {od3 an3 : Option Addr} {sl3 : Array (Option Value)} {f4 : Addr} {oc4 kV4 dc4 pm4 cd4 ct4 : Value} {od4 an4 : Option Addr} {sl4 : Array (Option Value)} {f5 : Addr} {oc5 kV5 dc5 pm5 cd5 ct5 : Value} {od5 an5 : Option Addr} {sl5 : Array (Option Value)} {f6 : Addr} {oc6 kV6 dc6 pm6 cd6 ct6 : Value} {od6 an6 : Option Addr} {sl6 : Array (Option Value)} {f7 : Addr} {oc7 kV7 dc7 pm7 cd7 ct7 : Value} {od7 an7 : Option Addr} {sl7 : Array (Option Value)} {f8 : Addr} {oc8 kV8 dc8 pm8 cd8 ct8 : Value} {od8 an8 : Option Addr} {sl8 : Array (Option Value)} {f9 : Addr} {oc9 kV9 dc9 pm9 cd9 ct9 : Value} {od9 an9 : Option Addr} {sl9 : Array (Option Value)} {f10 : Addr} {oc10 kV10 dc10 pm10 cd10 ct10 : Value} {od10 an10 : Option Addr} {sl10 : Array (Option Value)} {f11 : Addr} {oc11 kV11 dc11 pm11 cd11 ct11 : Value} {od11 an11 : Option Addr} {sl11 : Array (Option Value)} {f12 : Addr} {oc12 kV12 dc12 pm12 cd12 ct12 : Value} {od12 an12 : Option Addr} {sl12 : Array (Option Value)} {f13 : Addr} {oc13 kV13 dc13 pm13 cd13 ct13 : Value} {od13 an13 : Option Addr} {sl13 : Array (Option Value)} {f14 : Addr} {oc14 kV14 dc14 pm14 cd14 ct14 : Value} {od14 an14 : Option Addr} {sl14 : Array (Option Value)} {f15 : Addr} {oc15 kV15 dc15 pm15 cd15 ct15 : Value} {od15 an15 : Option Addr} {sl15 : Array (Option Value)} {f16 : Addr} {oc16 kV16 dc16 pm16 cd16 ct16 : Value} {od16 an16 : Option Addr} {sl16 : Array (Option Value)} {f17 : Addr} {oc17 kV17 dc17 pm17 cd17 ct17 : Value} {od17 an17 : Option Addr} {sl17 : Array (Option Value)} {kc_SET_LENGTHS : Addr} {ko_SET_LENGTHS : Option Addr} {kn_SET_LENGTHS : Nat} {ks_SET_LENGTHS : Array (Option Value)} {kt_SET_LENGTHS0 kt_SET_LENGTHS1 kt_SET_LENGTHS2 kt_SET_LENGTHS3 kt_SET_LENGTHS4 kt_SET_LENGTHS5 : Tok}
    (a0 : PySem.W.nsIn K mainGlobals "corners_of" = some (some (.ref f0))) (l0 : K.lookup f0 = some ⟨oc0, od0, .func (PySem.W.fnOf "corners_of" "corners_of" (defArgs s_corners_of) (defBody s_corners_of) (defScope s_corners_of) .none kV0 dc0 pm0 an0 cd0 ct0), sl0⟩) (c0 : PySem.W.codeIn K cd0 "corners_of" = true) (k0 : PySem.W.keepIn K (.ref f0) = true)
    (a1 : PySem.W.nsIn K mainGlobals "how_many" = some (some (.ref f1))) (l1 : K.lookup f1 = some ⟨oc1, od1, .func (PySem.W.fnOf "how_many" "how_many" (defArgs s_how_many) (defBody s_how_many) (defScope s_how_many) .none kV1 dc1 pm1 an1 cd1 ct1), sl1⟩) (c1 : PySem.W.codeIn K cd1 "how_many" = true) (k1 : PySem.W.keepIn K (.ref f1) = true)
    (a2 : PySem.W.nsIn K mainGlobals "common_face" = some (some (.ref f2))) (l2 : K.lookup f2 = some ⟨oc2, od2, .func (PySem.W.fnOf "common_face" "common_face" (defArgs s_common_face) (defBody s_common_face) (defScope s_common_face) .none kV2 dc2 pm2 an2 cd2 ct2), sl2⟩) (c2 : PySem.W.codeIn K cd2 "common_face" = true) (k2 : PySem.W.keepIn K (.ref f2) = true)
    (a3 : PySem.W.nsIn K mainGlobals "has_all" = some (some (.ref f3))) (l3 : K.lookup f3 = some ⟨oc3, od3, .func (PySem.W.fnOf "has_all" "has_all" (defArgs s_has_all) (defBody s_has_all) (defScope s_has_all) .none kV3 dc3 pm3 an3 cd3 ct3), sl3⟩) (c3 : PySem.W.codeIn K cd3 "has_all" = true) (k3 : PySem.W.keepIn K (.ref f3) = true)
    (a4 : PySem.W.nsIn K mainGlobals "joined" = some (some (.ref f4))) (l4 : K.lookup f4 = some ⟨oc4, od4, .func (PySem.W.fnOf "joined" "joined" (defArgs s_joined) (defBody s_joined) (defScope s_joined) .none kV4 dc4 pm4 an4 cd4 ct4), sl4⟩) (c4 : PySem.W.codeIn K cd4 "joined" = true) (k4 : PySem.W.keepIn K (.ref f4) = true)
    (a5 : PySem.W.nsIn K mainGlobals "with_sign" = some (some (.ref f5))) (l5 : K.lookup f5 = some ⟨oc5, od5, .func (PySem.W.fnOf "with_sign" "with_sign" (defArgs s_with_sign) (defBody s_with_sign) (defScope s_with_sign) .none kV5 dc5 pm5 an5 cd5 ct5), sl5⟩) (c5 : PySem.W.codeIn K cd5 "with_sign" = true) (k5 : PySem.W.keepIn K (.ref f5) = true)
    (a6 : PySem.W.nsIn K mainGlobals "read_set" = some (some (.ref f6))) (l6 : K.lookup f6 = some ⟨oc6, od6, .func (PySem.W.fnOf "read_set" "read_set" (defArgs s_read_set) (defBody s_read_set) (defScope s_read_set) .none kV6 dc6 pm6 an6 cd6 ct6), sl6⟩) (c6 : PySem.W.codeIn K cd6 "read_set" = true) (k6 : PySem.W.keepIn K (.ref f6) = true)
    (a7 : PySem.W.nsIn K mainGlobals "set_shown" = some (some (.ref f7))) (l7 : K.lookup f7 = some ⟨oc7, od7, .func (PySem.W.fnOf "set_shown" "set_shown" (defArgs s_set_shown) (defBody s_set_shown) (defScope s_set_shown) .none kV7 dc7 pm7 an7 cd7 ct7), sl7⟩) (c7 : PySem.W.codeIn K cd7 "set_shown" = true) (k7 : PySem.W.keepIn K (.ref f7) = true)
    (a8 : PySem.W.nsIn K mainGlobals "_law_mix" = some (some (.ref f8))) (l8 : K.lookup f8 = some ⟨oc8, od8, .func (PySem.W.fnOf "_law_mix" "_law_mix" (defArgs s__law_mix) (defBody s__law_mix) (defScope s__law_mix) .none kV8 dc8 pm8 an8 cd8 ct8), sl8⟩) (c8 : PySem.W.codeIn K cd8 "_law_mix" = true) (k8 : PySem.W.keepIn K (.ref f8) = true)
    (a9 : PySem.W.nsIn K mainGlobals "_law_deck" = some (some (.ref f9))) (l9 : K.lookup f9 = some ⟨oc9, od9, .func (PySem.W.fnOf "_law_deck" "_law_deck" (defArgs s__law_deck) (defBody s__law_deck) (defScope s__law_deck) .none kV9 dc9 pm9 an9 cd9 ct9), sl9⟩) (c9 : PySem.W.codeIn K cd9 "_law_deck" = true) (k9 : PySem.W.keepIn K (.ref f9) = true)
    (a10 : PySem.W.nsIn K mainGlobals "_law_next" = some (some (.ref f10))) (l10 : K.lookup f10 = some ⟨oc10, od10, .func (PySem.W.fnOf "_law_next" "_law_next" (defArgs s__law_next) (defBody s__law_next) (defScope s__law_next) .none kV10 dc10 pm10 an10 cd10 ct10), sl10⟩) (c10 : PySem.W.codeIn K cd10 "_law_next" = true) (k10 : PySem.W.keepIn K (.ref f10) = true)
    (a11 : PySem.W.nsIn K mainGlobals "_law_bits" = some (some (.ref f11))) (l11 : K.lookup f11 = some ⟨oc11, od11, .func (PySem.W.fnOf "_law_bits" "_law_bits" (defArgs s__law_bits) (defBody s__law_bits) (defScope s__law_bits) .none kV11 dc11 pm11 an11 cd11 ct11), sl11⟩) (c11 : PySem.W.codeIn K cd11 "_law_bits" = true) (k11 : PySem.W.keepIn K (.ref f11) = true)
    (a12 : PySem.W.nsIn K mainGlobals "_law_face" = some (some (.ref f12))) (l12 : K.lookup f12 = some ⟨oc12, od12, .func (PySem.W.fnOf "_law_face" "_law_face" (defArgs s__law_face) (defBody s__law_face) (defScope s__law_face) .none kV12 dc12 pm12 an12 cd12 ct12), sl12⟩) (c12 : PySem.W.codeIn K cd12 "_law_face" = true) (k12 : PySem.W.keepIn K (.ref f12) = true)
    (a13 : PySem.W.nsIn K mainGlobals "_law_otherwise" = some (some (.ref f13))) (l13 : K.lookup f13 = some ⟨oc13, od13, .func (PySem.W.fnOf "_law_otherwise" "_law_otherwise" (defArgs s__law_otherwise) (defBody s__law_otherwise) (defScope s__law_otherwise) .none kV13 dc13 pm13 an13 cd13 ct13), sl13⟩) (c13 : PySem.W.codeIn K cd13 "_law_otherwise" = true) (k13 : PySem.W.keepIn K (.ref f13) = true)
    (a14 : PySem.W.nsIn K mainGlobals "_law_face_right" = some (some (.ref f14))) (l14 : K.lookup f14 = some ⟨oc14, od14, .func (PySem.W.fnOf "_law_face_right" "_law_face_right" (defArgs s__law_face_right) (defBody s__law_face_right) (defScope s__law_face_right) .none kV14 dc14 pm14 an14 cd14 ct14), sl14⟩) (c14 : PySem.W.codeIn K cd14 "_law_face_right" = true) (k14 : PySem.W.keepIn K (.ref f14) = true)
    (a15 : PySem.W.nsIn K mainGlobals "_law_two_right" = some (some (.ref f15))) (l15 : K.lookup f15 = some ⟨oc15, od15, .func (PySem.W.fnOf "_law_two_right" "_law_two_right" (defArgs s__law_two_right) (defBody s__law_two_right) (defScope s__law_two_right) .none kV15 dc15 pm15 an15 cd15 ct15), sl15⟩) (c15 : PySem.W.codeIn K cd15 "_law_two_right" = true) (k15 : PySem.W.keepIn K (.ref f15) = true)
    (a16 : PySem.W.nsIn K mainGlobals "_law_halves_right" = some (some (.ref f16))) (l16 : K.lookup f16 = some ⟨oc16, od16, .func (PySem.W.fnOf "_law_halves_right" "_law_halves_right" (defArgs s__law_halves_right) (defBody s__law_halves_right) (defScope s__law_halves_right) .none kV16 dc16 pm16 an16 cd16 ct16), sl16⟩) (c16 : PySem.W.codeIn K cd16 "_law_halves_right" = true) (k16 : PySem.W.keepIn K (.ref f16) = true)
    (a17 : PySem.W.nsIn K mainGlobals "law" = some (some (.ref f17))) (l17 : K.lookup f17 = some ⟨oc17, od17, .func (PySem.W.fnOf "law" "law" (defArgs s_law) (defBody s_law) (defScope s_law) .none kV17 dc17 pm17 an17 cd17 ct17), sl17⟩) (c17 : PySem.W.codeIn K cd17 "law" = true) (k17 : PySem.W.keepIn K (.ref f17) = true)
    (z_enumerate : PySem.W.nsIn K mainGlobals "enumerate" = some none)
    (z_int : PySem.W.nsIn K mainGlobals "int" = some none)
    (z_len : PySem.W.nsIn K mainGlobals "len" = some none)
    (z_list : PySem.W.nsIn K mainGlobals "list" = some none)
    (z_range : PySem.W.nsIn K mainGlobals "range" = some none)
    (z_set : PySem.W.nsIn K mainGlobals "set" = some none)
    (z_sorted : PySem.W.nsIn K mainGlobals "sorted" = some none)
    (z_sum : PySem.W.nsIn K mainGlobals "sum" = some none)
    (z_tuple : PySem.W.nsIn K mainGlobals "tuple" = some none)
    (z_zip : PySem.W.nsIn K mainGlobals "zip" = some none)
    (ka_SET_LENGTHS : PySem.W.nsIn K mainGlobals "SET_LENGTHS" = some (some (.ref kc_SET_LENGTHS))) (kl_SET_LENGTHS : K.lookup kc_SET_LENGTHS = some ⟨.type "tuple", ko_SET_LENGTHS, .seq #[.int 2 kt_SET_LENGTHS0, .int 4 kt_SET_LENGTHS1, .int 8 kt_SET_LENGTHS2, .int 16 kt_SET_LENGTHS3, .int 32 kt_SET_LENGTHS4, .int 64 kt_SET_LENGTHS5] kn_SET_LENGTHS, ks_SET_LENGTHS⟩) :
    ∃ fd : FuncData, (∀ (s : Shared) (v : Value), BindsTo s fd ⟨[v], []⟩ [("script", v)]) ∧ ∀ base : Heap, K.In base → base.Ns mainGlobals mg → FnOk l.prog w K mg base CX0 4 fa fd ["script"] (spLaw K) := by
  have e := hfa.symm.trans (PySem.W.mg_of X G0 a17)
  cases e
  have T : Tx K mg (fun i => [f0, f1, f2, f3, f4, f5, f6, f7, f8, f9, f10, f11, f12, f13, f14, f15, f16, fa].getD i 0) (fun i => [PySem.W.fnOf "corners_of" "corners_of" (defArgs s_corners_of) (defBody s_corners_of) (defScope s_corners_of) .none kV0 dc0 pm0 an0 cd0 ct0, PySem.W.fnOf "how_many" "how_many" (defArgs s_how_many) (defBody s_how_many) (defScope s_how_many) .none kV1 dc1 pm1 an1 cd1 ct1, PySem.W.fnOf "common_face" "common_face" (defArgs s_common_face) (defBody s_common_face) (defScope s_common_face) .none kV2 dc2 pm2 an2 cd2 ct2, PySem.W.fnOf "has_all" "has_all" (defArgs s_has_all) (defBody s_has_all) (defScope s_has_all) .none kV3 dc3 pm3 an3 cd3 ct3, PySem.W.fnOf "joined" "joined" (defArgs s_joined) (defBody s_joined) (defScope s_joined) .none kV4 dc4 pm4 an4 cd4 ct4, PySem.W.fnOf "with_sign" "with_sign" (defArgs s_with_sign) (defBody s_with_sign) (defScope s_with_sign) .none kV5 dc5 pm5 an5 cd5 ct5, PySem.W.fnOf "read_set" "read_set" (defArgs s_read_set) (defBody s_read_set) (defScope s_read_set) .none kV6 dc6 pm6 an6 cd6 ct6, PySem.W.fnOf "set_shown" "set_shown" (defArgs s_set_shown) (defBody s_set_shown) (defScope s_set_shown) .none kV7 dc7 pm7 an7 cd7 ct7, PySem.W.fnOf "_law_mix" "_law_mix" (defArgs s__law_mix) (defBody s__law_mix) (defScope s__law_mix) .none kV8 dc8 pm8 an8 cd8 ct8, PySem.W.fnOf "_law_deck" "_law_deck" (defArgs s__law_deck) (defBody s__law_deck) (defScope s__law_deck) .none kV9 dc9 pm9 an9 cd9 ct9, PySem.W.fnOf "_law_next" "_law_next" (defArgs s__law_next) (defBody s__law_next) (defScope s__law_next) .none kV10 dc10 pm10 an10 cd10 ct10, PySem.W.fnOf "_law_bits" "_law_bits" (defArgs s__law_bits) (defBody s__law_bits) (defScope s__law_bits) .none kV11 dc11 pm11 an11 cd11 ct11, PySem.W.fnOf "_law_face" "_law_face" (defArgs s__law_face) (defBody s__law_face) (defScope s__law_face) .none kV12 dc12 pm12 an12 cd12 ct12, PySem.W.fnOf "_law_otherwise" "_law_otherwise" (defArgs s__law_otherwise) (defBody s__law_otherwise) (defScope s__law_otherwise) .none kV13 dc13 pm13 an13 cd13 ct13, PySem.W.fnOf "_law_face_right" "_law_face_right" (defArgs s__law_face_right) (defBody s__law_face_right) (defScope s__law_face_right) .none kV14 dc14 pm14 an14 cd14 ct14, PySem.W.fnOf "_law_two_right" "_law_two_right" (defArgs s__law_two_right) (defBody s__law_two_right) (defScope s__law_two_right) .none kV15 dc15 pm15 an15 cd15 ct15, PySem.W.fnOf "_law_halves_right" "_law_halves_right" (defArgs s__law_halves_right) (defBody s__law_halves_right) (defScope s__law_halves_right) .none kV16 dc16 pm16 an16 cd16 ct16, PySem.W.fnOf "law" "law" (defArgs s_law) (defBody s_law) (defScope s_law) .none kV17 dc17 pm17 an17 cd17 ct17].getD i (PySem.W.fnOf "law" "law" (defArgs s_law) (defBody s_law) (defScope s_law) .none kV17 dc17 pm17 an17 cd17 ct17)) :=
    ⟨fun_mk l0 c0 k0, PySem.W.mg_of X G0 a0, fun_mk l1 c1 k1, PySem.W.mg_of X G0 a1, fun_mk l2 c2 k2, PySem.W.mg_of X G0 a2, fun_mk l3 c3 k3, PySem.W.mg_of X G0 a3, fun_mk l4 c4 k4, PySem.W.mg_of X G0 a4, fun_mk l5 c5 k5, PySem.W.mg_of X G0 a5, fun_mk l6 c6 k6, PySem.W.mg_of X G0 a6, fun_mk l7 c7 k7, PySem.W.mg_of X G0 a7, fun_mk l8 c8 k8, PySem.W.mg_of X G0 a8, fun_mk l9 c9 k9, PySem.W.mg_of X G0 a9, fun_mk l10 c10 k10, PySem.W.mg_of X G0 a10, fun_mk l11 c11 k11, PySem.W.mg_of X G0 a11, fun_mk l12 c12 k12, PySem.W.mg_of X G0 a12, fun_mk l13 c13 k13, PySem.W.mg_of X G0 a13, fun_mk l14 c14 k14, PySem.W.mg_of X G0 a14, fun_mk l15 c15 k15, PySem.W.mg_of X G0 a15, fun_mk l16 c16 k16, PySem.W.mg_of X G0 a16, fun_mk l17 c17 k17, PySem.W.mg_of X G0 a17, PySem.W.mg_none_of X G0 z_enumerate, PySem.W.mg_none_of X G0 z_int, PySem.W.mg_none_of X G0 z_len, PySem.W.mg_none_of X G0 z_list, PySem.W.mg_none_of X G0 z_range, PySem.W.mg_none_of X G0 z_set, PySem.W.mg_none_of X G0 z_sorted, PySem.W.mg_none_of X G0 z_sum, PySem.W.mg_none_of X G0 z_tuple, PySem.W.mg_none_of X G0 z_zip, ⟨_, PySem.W.mg_of X G0 ka_SET_LENGTHS, kt_mk kl_SET_LENGTHS (.int (.int (.int (.int (.int (.int .nil)))))) (show 6 ≤ sizeLine by decide)⟩⟩
  exact ⟨_, fun s v => .of_eq rfl, fun base _ _ => (ok_law (P := l.prog) (w := w) (base := base) T).imp fun vs H Q E hq => law_sp hq⟩
end G
open PySem PySem.W PyProof.Rows
set_option maxHeartbeats 0 in
theorem PySem.Challenge.cw_facesparted_k05_whole_faces_and_sets_holds : PySem.Challenge.rw_facesparted_k05_whole_faces_and_sets.Holds := by
  w_on; o_law; k_head; (case hw => w_witness2)
  k_fill
  refine L2.walk_of (l := PySem.Challenge.rw_facesparted_k05_whole_faces_and_sets) (n := 63) (k := 4) (x := "script") (CX := fun _ => L2.CX0) (sp := fun w => G.spLaw _) rfl (by decide) rfl ⟨rfl, by decide, by decide⟩ (fun w h Y => PySem.W.kIn_of Y) ?F (fun _ _ a ns hl _ hS => ⟨a, ns, rfl, hS, hl, fun _ => rfl⟩) (fun _ _ _ _ _ h => h)
  case F =>
    intro w mg fa h KX G0 hmg
    refine' G.all_mk KX G0 hmg ?a0 ?l0 ?c0 ?k0 ?a1 ?l1 ?c1 ?k1 ?a2 ?l2 ?c2 ?k2 ?a3 ?l3 ?c3 ?k3 ?a4 ?l4 ?c4 ?k4 ?a5 ?l5 ?c5 ?k5 ?a6 ?l6 ?c6 ?k6 ?a7 ?l7 ?c7 ?k7 ?a8 ?l8 ?c8 ?k8 ?a9 ?l9 ?c9 ?k9 ?a10 ?l10 ?c10 ?k10 ?a11 ?l11 ?c11 ?k11 ?a12 ?l12 ?c12 ?k12 ?a13 ?l13 ?c13 ?k13 ?a14 ?l14 ?c14 ?k14 ?a15 ?l15 ?c15 ?k15 ?a16 ?l16 ?c16 ?k16 ?a17 ?l17 ?c17 ?k17 ?z_enumerate ?z_int ?z_len ?z_list ?z_range ?z_set ?z_sorted ?z_sum ?z_tuple ?z_zip ?ka_SET_LENGTHS ?kl_SET_LENGTHS
    (case a0 => k_is); (case l0 => k_is); (case c0 => k_is); (case k0 => k_is); (case a1 => k_is); (case l1 => k_is); (case c1 => k_is); (case k1 => k_is); (case a2 => k_is); (case l2 => k_is); (case c2 => k_is); (case k2 => k_is); (case a3 => k_is); (case l3 => k_is); (case c3 => k_is); (case k3 => k_is); (case a4 => k_is); (case l4 => k_is); (case c4 => k_is); (case k4 => k_is); (case a5 => k_is); (case l5 => k_is); (case c5 => k_is); (case k5 => k_is); (case a6 => k_is); (case l6 => k_is); (case c6 => k_is); (case k6 => k_is); (case a7 => k_is); (case l7 => k_is); (case c7 => k_is); (case k7 => k_is); (case a8 => k_is); (case l8 => k_is); (case c8 => k_is); (case k8 => k_is); (case a9 => k_is); (case l9 => k_is); (case c9 => k_is); (case k9 => k_is); (case a10 => k_is); (case l10 => k_is); (case c10 => k_is); (case k10 => k_is); (case a11 => k_is); (case l11 => k_is); (case c11 => k_is); (case k11 => k_is); (case a12 => k_is); (case l12 => k_is); (case c12 => k_is); (case k12 => k_is); (case a13 => k_is); (case l13 => k_is); (case c13 => k_is); (case k13 => k_is); (case a14 => k_is); (case l14 => k_is); (case c14 => k_is); (case k14 => k_is); (case a15 => k_is); (case l15 => k_is); (case c15 => k_is); (case k15 => k_is); (case a16 => k_is); (case l16 => k_is); (case c16 => k_is); (case k16 => k_is); (case a17 => k_is); (case l17 => k_is); (case c17 => k_is); (case k17 => k_is); (case z_enumerate => k_is); (case z_int => k_is); (case z_len => k_is); (case z_list => k_is); (case z_range => k_is); (case z_set => k_is); (case z_sorted => k_is); (case z_sum => k_is); (case z_tuple => k_is); (case z_zip => k_is); (case ka_SET_LENGTHS => k_is); (case kl_SET_LENGTHS => k_is)
